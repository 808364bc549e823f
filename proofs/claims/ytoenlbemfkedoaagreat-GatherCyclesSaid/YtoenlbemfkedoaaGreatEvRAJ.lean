/- The law at some of its inputs, as the evaluator reckons it; conditions: none. -/
import Derived.Test.YtoenlbemfkedoaaGreatEvFGatherCycles
namespace Go.Proofs.YtoenlbemfkedoaaGreat
open Go Go.Ev
theorem run14x8 : isT (callN (fun g => nget fs1 g) 3000 3 (.cons (.q (.inp 3 20 14)) (.cons (.q (.inp 3 16 8)) .nil)) h0) = true := by kernel_rfl
theorem run14x9 : isT (callN (fun g => nget fs1 g) 3000 3 (.cons (.q (.inp 3 20 14)) (.cons (.q (.inp 3 16 9)) .nil)) h0) = true := by kernel_rfl
theorem run14x10 : isT (callN (fun g => nget fs1 g) 3000 3 (.cons (.q (.inp 3 20 14)) (.cons (.q (.inp 3 16 10)) .nil)) h0) = true := by kernel_rfl
theorem run14x11 : isT (callN (fun g => nget fs1 g) 3000 3 (.cons (.q (.inp 3 20 14)) (.cons (.q (.inp 3 16 11)) .nil)) h0) = true := by kernel_rfl
theorem run14x12 : isT (callN (fun g => nget fs1 g) 3000 3 (.cons (.q (.inp 3 20 14)) (.cons (.q (.inp 3 16 12)) .nil)) h0) = true := by kernel_rfl
theorem run14x13 : isT (callN (fun g => nget fs1 g) 3000 3 (.cons (.q (.inp 3 20 14)) (.cons (.q (.inp 3 16 13)) .nil)) h0) = true := by kernel_rfl
theorem run14x14 : isT (callN (fun g => nget fs1 g) 3000 3 (.cons (.q (.inp 3 20 14)) (.cons (.q (.inp 3 16 14)) .nil)) h0) = true := by kernel_rfl
theorem run14x15 : isT (callN (fun g => nget fs1 g) 3000 3 (.cons (.q (.inp 3 20 14)) (.cons (.q (.inp 3 16 15)) .nil)) h0) = true := by kernel_rfl
theorem run15x0 : isT (callN (fun g => nget fs1 g) 3000 3 (.cons (.q (.inp 3 20 15)) (.cons (.q (.inp 3 17 0)) .nil)) h0) = true := by kernel_rfl
end Go.Proofs.YtoenlbemfkedoaaGreat
