/- The law at some of its inputs, as the evaluator reckons it; conditions: none. -/
import Derived.Test.YtoenlbemfkedoaaGreatEvFGatherCycles
namespace Go.Proofs.YtoenlbemfkedoaaGreat
open Go Go.Ev
theorem run13x14 : isT (callN (fun g => nget fs1 g) 3000 3 (.cons (.q (.inp 3 20 13)) (.cons (.q (.inp 3 15 14)) .nil)) h0) = true := by kernel_rfl
theorem run14x0 : isT (callN (fun g => nget fs1 g) 3000 3 (.cons (.q (.inp 3 20 14)) (.cons (.q (.inp 3 16 0)) .nil)) h0) = true := by kernel_rfl
theorem run14x1 : isT (callN (fun g => nget fs1 g) 3000 3 (.cons (.q (.inp 3 20 14)) (.cons (.q (.inp 3 16 1)) .nil)) h0) = true := by kernel_rfl
theorem run14x2 : isT (callN (fun g => nget fs1 g) 3000 3 (.cons (.q (.inp 3 20 14)) (.cons (.q (.inp 3 16 2)) .nil)) h0) = true := by kernel_rfl
theorem run14x3 : isT (callN (fun g => nget fs1 g) 3000 3 (.cons (.q (.inp 3 20 14)) (.cons (.q (.inp 3 16 3)) .nil)) h0) = true := by kernel_rfl
theorem run14x4 : isT (callN (fun g => nget fs1 g) 3000 3 (.cons (.q (.inp 3 20 14)) (.cons (.q (.inp 3 16 4)) .nil)) h0) = true := by kernel_rfl
theorem run14x5 : isT (callN (fun g => nget fs1 g) 3000 3 (.cons (.q (.inp 3 20 14)) (.cons (.q (.inp 3 16 5)) .nil)) h0) = true := by kernel_rfl
theorem run14x6 : isT (callN (fun g => nget fs1 g) 3000 3 (.cons (.q (.inp 3 20 14)) (.cons (.q (.inp 3 16 6)) .nil)) h0) = true := by kernel_rfl
theorem run14x7 : isT (callN (fun g => nget fs1 g) 3000 3 (.cons (.q (.inp 3 20 14)) (.cons (.q (.inp 3 16 7)) .nil)) h0) = true := by kernel_rfl
end Go.Proofs.YtoenlbemfkedoaaGreat
