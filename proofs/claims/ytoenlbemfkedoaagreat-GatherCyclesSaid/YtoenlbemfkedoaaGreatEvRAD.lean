/- The law at some of its inputs, as the evaluator reckons it; conditions: none. -/
import Derived.Test.YtoenlbemfkedoaaGreatEvFGatherCycles
namespace Go.Proofs.YtoenlbemfkedoaaGreat
open Go Go.Ev
theorem run9x8 : isT (callN (fun g => nget fs1 g) 3000 3 (.cons (.q (.inp 3 20 9)) (.cons (.q (.inp 3 11 8)) .nil)) h0) = true := by kernel_rfl
theorem run9x9 : isT (callN (fun g => nget fs1 g) 3000 3 (.cons (.q (.inp 3 20 9)) (.cons (.q (.inp 3 11 9)) .nil)) h0) = true := by kernel_rfl
theorem run9x10 : isT (callN (fun g => nget fs1 g) 3000 3 (.cons (.q (.inp 3 20 9)) (.cons (.q (.inp 3 11 10)) .nil)) h0) = true := by kernel_rfl
theorem run10x0 : isT (callN (fun g => nget fs1 g) 3000 3 (.cons (.q (.inp 3 20 10)) (.cons (.q (.inp 3 12 0)) .nil)) h0) = true := by kernel_rfl
theorem run10x1 : isT (callN (fun g => nget fs1 g) 3000 3 (.cons (.q (.inp 3 20 10)) (.cons (.q (.inp 3 12 1)) .nil)) h0) = true := by kernel_rfl
theorem run10x2 : isT (callN (fun g => nget fs1 g) 3000 3 (.cons (.q (.inp 3 20 10)) (.cons (.q (.inp 3 12 2)) .nil)) h0) = true := by kernel_rfl
theorem run10x3 : isT (callN (fun g => nget fs1 g) 3000 3 (.cons (.q (.inp 3 20 10)) (.cons (.q (.inp 3 12 3)) .nil)) h0) = true := by kernel_rfl
theorem run10x4 : isT (callN (fun g => nget fs1 g) 3000 3 (.cons (.q (.inp 3 20 10)) (.cons (.q (.inp 3 12 4)) .nil)) h0) = true := by kernel_rfl
theorem run10x5 : isT (callN (fun g => nget fs1 g) 3000 3 (.cons (.q (.inp 3 20 10)) (.cons (.q (.inp 3 12 5)) .nil)) h0) = true := by kernel_rfl
theorem run10x6 : isT (callN (fun g => nget fs1 g) 3000 3 (.cons (.q (.inp 3 20 10)) (.cons (.q (.inp 3 12 6)) .nil)) h0) = true := by kernel_rfl
theorem run10x7 : isT (callN (fun g => nget fs1 g) 3000 3 (.cons (.q (.inp 3 20 10)) (.cons (.q (.inp 3 12 7)) .nil)) h0) = true := by kernel_rfl
theorem run10x8 : isT (callN (fun g => nget fs1 g) 3000 3 (.cons (.q (.inp 3 20 10)) (.cons (.q (.inp 3 12 8)) .nil)) h0) = true := by kernel_rfl
theorem run10x9 : isT (callN (fun g => nget fs1 g) 3000 3 (.cons (.q (.inp 3 20 10)) (.cons (.q (.inp 3 12 9)) .nil)) h0) = true := by kernel_rfl
end Go.Proofs.YtoenlbemfkedoaaGreat
