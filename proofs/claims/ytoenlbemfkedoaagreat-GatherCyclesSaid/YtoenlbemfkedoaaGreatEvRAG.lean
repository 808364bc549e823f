/- The law at some of its inputs, as the evaluator reckons it; conditions: none. -/
import Derived.Test.YtoenlbemfkedoaaGreatEvFGatherCycles
namespace Go.Proofs.YtoenlbemfkedoaaGreat
open Go Go.Ev
theorem run12x8 : isT (callN (fun g => nget fs1 g) 3000 3 (.cons (.q (.inp 3 20 12)) (.cons (.q (.inp 3 14 8)) .nil)) h0) = true := by kernel_rfl
theorem run12x9 : isT (callN (fun g => nget fs1 g) 3000 3 (.cons (.q (.inp 3 20 12)) (.cons (.q (.inp 3 14 9)) .nil)) h0) = true := by kernel_rfl
theorem run12x10 : isT (callN (fun g => nget fs1 g) 3000 3 (.cons (.q (.inp 3 20 12)) (.cons (.q (.inp 3 14 10)) .nil)) h0) = true := by kernel_rfl
theorem run12x11 : isT (callN (fun g => nget fs1 g) 3000 3 (.cons (.q (.inp 3 20 12)) (.cons (.q (.inp 3 14 11)) .nil)) h0) = true := by kernel_rfl
theorem run12x12 : isT (callN (fun g => nget fs1 g) 3000 3 (.cons (.q (.inp 3 20 12)) (.cons (.q (.inp 3 14 12)) .nil)) h0) = true := by kernel_rfl
theorem run12x13 : isT (callN (fun g => nget fs1 g) 3000 3 (.cons (.q (.inp 3 20 12)) (.cons (.q (.inp 3 14 13)) .nil)) h0) = true := by kernel_rfl
theorem run13x0 : isT (callN (fun g => nget fs1 g) 3000 3 (.cons (.q (.inp 3 20 13)) (.cons (.q (.inp 3 15 0)) .nil)) h0) = true := by kernel_rfl
theorem run13x1 : isT (callN (fun g => nget fs1 g) 3000 3 (.cons (.q (.inp 3 20 13)) (.cons (.q (.inp 3 15 1)) .nil)) h0) = true := by kernel_rfl
theorem run13x2 : isT (callN (fun g => nget fs1 g) 3000 3 (.cons (.q (.inp 3 20 13)) (.cons (.q (.inp 3 15 2)) .nil)) h0) = true := by kernel_rfl
theorem run13x3 : isT (callN (fun g => nget fs1 g) 3000 3 (.cons (.q (.inp 3 20 13)) (.cons (.q (.inp 3 15 3)) .nil)) h0) = true := by kernel_rfl
end Go.Proofs.YtoenlbemfkedoaaGreat
