/- The law at some of its inputs, as the evaluator reckons it; conditions: none. -/
import Derived.Test.YtoenlbemfkedoaaGreatEvFGatherCycles
namespace Go.Proofs.YtoenlbemfkedoaaGreat
open Go Go.Ev
theorem run8x3 : isT (callN (fun g => nget fs1 g) 3000 3 (.cons (.q (.inp 3 20 8)) (.cons (.q (.inp 3 10 3)) .nil)) h0) = true := by kernel_rfl
theorem run8x4 : isT (callN (fun g => nget fs1 g) 3000 3 (.cons (.q (.inp 3 20 8)) (.cons (.q (.inp 3 10 4)) .nil)) h0) = true := by kernel_rfl
theorem run8x5 : isT (callN (fun g => nget fs1 g) 3000 3 (.cons (.q (.inp 3 20 8)) (.cons (.q (.inp 3 10 5)) .nil)) h0) = true := by kernel_rfl
theorem run8x6 : isT (callN (fun g => nget fs1 g) 3000 3 (.cons (.q (.inp 3 20 8)) (.cons (.q (.inp 3 10 6)) .nil)) h0) = true := by kernel_rfl
theorem run8x7 : isT (callN (fun g => nget fs1 g) 3000 3 (.cons (.q (.inp 3 20 8)) (.cons (.q (.inp 3 10 7)) .nil)) h0) = true := by kernel_rfl
theorem run8x8 : isT (callN (fun g => nget fs1 g) 3000 3 (.cons (.q (.inp 3 20 8)) (.cons (.q (.inp 3 10 8)) .nil)) h0) = true := by kernel_rfl
theorem run8x9 : isT (callN (fun g => nget fs1 g) 3000 3 (.cons (.q (.inp 3 20 8)) (.cons (.q (.inp 3 10 9)) .nil)) h0) = true := by kernel_rfl
theorem run9x0 : isT (callN (fun g => nget fs1 g) 3000 3 (.cons (.q (.inp 3 20 9)) (.cons (.q (.inp 3 11 0)) .nil)) h0) = true := by kernel_rfl
theorem run9x1 : isT (callN (fun g => nget fs1 g) 3000 3 (.cons (.q (.inp 3 20 9)) (.cons (.q (.inp 3 11 1)) .nil)) h0) = true := by kernel_rfl
theorem run9x2 : isT (callN (fun g => nget fs1 g) 3000 3 (.cons (.q (.inp 3 20 9)) (.cons (.q (.inp 3 11 2)) .nil)) h0) = true := by kernel_rfl
theorem run9x3 : isT (callN (fun g => nget fs1 g) 3000 3 (.cons (.q (.inp 3 20 9)) (.cons (.q (.inp 3 11 3)) .nil)) h0) = true := by kernel_rfl
theorem run9x4 : isT (callN (fun g => nget fs1 g) 3000 3 (.cons (.q (.inp 3 20 9)) (.cons (.q (.inp 3 11 4)) .nil)) h0) = true := by kernel_rfl
theorem run9x5 : isT (callN (fun g => nget fs1 g) 3000 3 (.cons (.q (.inp 3 20 9)) (.cons (.q (.inp 3 11 5)) .nil)) h0) = true := by kernel_rfl
theorem run9x6 : isT (callN (fun g => nget fs1 g) 3000 3 (.cons (.q (.inp 3 20 9)) (.cons (.q (.inp 3 11 6)) .nil)) h0) = true := by kernel_rfl
theorem run9x7 : isT (callN (fun g => nget fs1 g) 3000 3 (.cons (.q (.inp 3 20 9)) (.cons (.q (.inp 3 11 7)) .nil)) h0) = true := by kernel_rfl
end Go.Proofs.YtoenlbemfkedoaaGreat
