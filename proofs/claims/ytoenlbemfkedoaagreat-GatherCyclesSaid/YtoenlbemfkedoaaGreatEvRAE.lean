/- The law at some of its inputs, as the evaluator reckons it; conditions: none. -/
import Derived.Test.YtoenlbemfkedoaaGreatEvFGatherCycles
namespace Go.Proofs.YtoenlbemfkedoaaGreat
open Go Go.Ev
theorem run10x10 : isT (callN (fun g => nget fs1 g) 3000 3 (.cons (.q (.inp 3 20 10)) (.cons (.q (.inp 3 12 10)) .nil)) h0) = true := by kernel_rfl
theorem run10x11 : isT (callN (fun g => nget fs1 g) 3000 3 (.cons (.q (.inp 3 20 10)) (.cons (.q (.inp 3 12 11)) .nil)) h0) = true := by kernel_rfl
theorem run11x0 : isT (callN (fun g => nget fs1 g) 3000 3 (.cons (.q (.inp 3 20 11)) (.cons (.q (.inp 3 13 0)) .nil)) h0) = true := by kernel_rfl
theorem run11x1 : isT (callN (fun g => nget fs1 g) 3000 3 (.cons (.q (.inp 3 20 11)) (.cons (.q (.inp 3 13 1)) .nil)) h0) = true := by kernel_rfl
theorem run11x2 : isT (callN (fun g => nget fs1 g) 3000 3 (.cons (.q (.inp 3 20 11)) (.cons (.q (.inp 3 13 2)) .nil)) h0) = true := by kernel_rfl
theorem run11x3 : isT (callN (fun g => nget fs1 g) 3000 3 (.cons (.q (.inp 3 20 11)) (.cons (.q (.inp 3 13 3)) .nil)) h0) = true := by kernel_rfl
theorem run11x4 : isT (callN (fun g => nget fs1 g) 3000 3 (.cons (.q (.inp 3 20 11)) (.cons (.q (.inp 3 13 4)) .nil)) h0) = true := by kernel_rfl
theorem run11x5 : isT (callN (fun g => nget fs1 g) 3000 3 (.cons (.q (.inp 3 20 11)) (.cons (.q (.inp 3 13 5)) .nil)) h0) = true := by kernel_rfl
theorem run11x6 : isT (callN (fun g => nget fs1 g) 3000 3 (.cons (.q (.inp 3 20 11)) (.cons (.q (.inp 3 13 6)) .nil)) h0) = true := by kernel_rfl
theorem run11x7 : isT (callN (fun g => nget fs1 g) 3000 3 (.cons (.q (.inp 3 20 11)) (.cons (.q (.inp 3 13 7)) .nil)) h0) = true := by kernel_rfl
theorem run11x8 : isT (callN (fun g => nget fs1 g) 3000 3 (.cons (.q (.inp 3 20 11)) (.cons (.q (.inp 3 13 8)) .nil)) h0) = true := by kernel_rfl
theorem run11x9 : isT (callN (fun g => nget fs1 g) 3000 3 (.cons (.q (.inp 3 20 11)) (.cons (.q (.inp 3 13 9)) .nil)) h0) = true := by kernel_rfl
end Go.Proofs.YtoenlbemfkedoaaGreat
