/- The law at some of its inputs, as the evaluator reckons it; conditions: none. -/
import Derived.Test.YtoenlbemfkedoaaGreatEvFGatherCycles
namespace Go.Proofs.YtoenlbemfkedoaaGreat
open Go Go.Ev
theorem run15x10 : isT (callN (fun g => nget fs1 g) 3000 3 (.cons (.q (.inp 3 20 15)) (.cons (.q (.inp 3 17 10)) .nil)) h0) = true := by kernel_rfl
theorem run15x11 : isT (callN (fun g => nget fs1 g) 3000 3 (.cons (.q (.inp 3 20 15)) (.cons (.q (.inp 3 17 11)) .nil)) h0) = true := by kernel_rfl
theorem run15x12 : isT (callN (fun g => nget fs1 g) 3000 3 (.cons (.q (.inp 3 20 15)) (.cons (.q (.inp 3 17 12)) .nil)) h0) = true := by kernel_rfl
theorem run15x13 : isT (callN (fun g => nget fs1 g) 3000 3 (.cons (.q (.inp 3 20 15)) (.cons (.q (.inp 3 17 13)) .nil)) h0) = true := by kernel_rfl
theorem run15x14 : isT (callN (fun g => nget fs1 g) 3000 3 (.cons (.q (.inp 3 20 15)) (.cons (.q (.inp 3 17 14)) .nil)) h0) = true := by kernel_rfl
theorem run15x15 : isT (callN (fun g => nget fs1 g) 3000 3 (.cons (.q (.inp 3 20 15)) (.cons (.q (.inp 3 17 15)) .nil)) h0) = true := by kernel_rfl
theorem run15x16 : isT (callN (fun g => nget fs1 g) 3000 3 (.cons (.q (.inp 3 20 15)) (.cons (.q (.inp 3 17 16)) .nil)) h0) = true := by kernel_rfl
theorem run16x0 : isT (callN (fun g => nget fs1 g) 3000 3 (.cons (.q (.inp 3 20 16)) (.cons (.q (.inp 3 18 0)) .nil)) h0) = true := by kernel_rfl
theorem run16x1 : isT (callN (fun g => nget fs1 g) 3000 3 (.cons (.q (.inp 3 20 16)) (.cons (.q (.inp 3 18 1)) .nil)) h0) = true := by kernel_rfl
end Go.Proofs.YtoenlbemfkedoaaGreat
