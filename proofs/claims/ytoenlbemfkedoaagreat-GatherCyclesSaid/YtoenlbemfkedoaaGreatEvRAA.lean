/- The law at some of its inputs, as the evaluator reckons it; conditions: none. -/
import Derived.Test.YtoenlbemfkedoaaGreatEvFGatherCycles
namespace Go.Proofs.YtoenlbemfkedoaaGreat
open Go Go.Ev
theorem run0x0 : isT (callN (fun g => nget fs1 g) 3000 3 (.cons (.q (.inp 3 20 0)) (.cons (.q (.inp 3 2 0)) .nil)) h0) = true := by kernel_rfl
theorem run0x1 : isT (callN (fun g => nget fs1 g) 3000 3 (.cons (.q (.inp 3 20 0)) (.cons (.q (.inp 3 2 1)) .nil)) h0) = true := by kernel_rfl
theorem run1x0 : isT (callN (fun g => nget fs1 g) 3000 3 (.cons (.q (.inp 3 20 1)) (.cons (.q (.inp 3 3 0)) .nil)) h0) = true := by kernel_rfl
theorem run1x1 : isT (callN (fun g => nget fs1 g) 3000 3 (.cons (.q (.inp 3 20 1)) (.cons (.q (.inp 3 3 1)) .nil)) h0) = true := by kernel_rfl
theorem run1x2 : isT (callN (fun g => nget fs1 g) 3000 3 (.cons (.q (.inp 3 20 1)) (.cons (.q (.inp 3 3 2)) .nil)) h0) = true := by kernel_rfl
theorem run2x0 : isT (callN (fun g => nget fs1 g) 3000 3 (.cons (.q (.inp 3 20 2)) (.cons (.q (.inp 3 4 0)) .nil)) h0) = true := by kernel_rfl
theorem run2x1 : isT (callN (fun g => nget fs1 g) 3000 3 (.cons (.q (.inp 3 20 2)) (.cons (.q (.inp 3 4 1)) .nil)) h0) = true := by kernel_rfl
theorem run2x2 : isT (callN (fun g => nget fs1 g) 3000 3 (.cons (.q (.inp 3 20 2)) (.cons (.q (.inp 3 4 2)) .nil)) h0) = true := by kernel_rfl
theorem run2x3 : isT (callN (fun g => nget fs1 g) 3000 3 (.cons (.q (.inp 3 20 2)) (.cons (.q (.inp 3 4 3)) .nil)) h0) = true := by kernel_rfl
theorem run3x0 : isT (callN (fun g => nget fs1 g) 3000 3 (.cons (.q (.inp 3 20 3)) (.cons (.q (.inp 3 5 0)) .nil)) h0) = true := by kernel_rfl
theorem run3x1 : isT (callN (fun g => nget fs1 g) 3000 3 (.cons (.q (.inp 3 20 3)) (.cons (.q (.inp 3 5 1)) .nil)) h0) = true := by kernel_rfl
theorem run3x2 : isT (callN (fun g => nget fs1 g) 3000 3 (.cons (.q (.inp 3 20 3)) (.cons (.q (.inp 3 5 2)) .nil)) h0) = true := by kernel_rfl
theorem run3x3 : isT (callN (fun g => nget fs1 g) 3000 3 (.cons (.q (.inp 3 20 3)) (.cons (.q (.inp 3 5 3)) .nil)) h0) = true := by kernel_rfl
theorem run3x4 : isT (callN (fun g => nget fs1 g) 3000 3 (.cons (.q (.inp 3 20 3)) (.cons (.q (.inp 3 5 4)) .nil)) h0) = true := by kernel_rfl
theorem run4x0 : isT (callN (fun g => nget fs1 g) 3000 3 (.cons (.q (.inp 3 20 4)) (.cons (.q (.inp 3 6 0)) .nil)) h0) = true := by kernel_rfl
theorem run4x1 : isT (callN (fun g => nget fs1 g) 3000 3 (.cons (.q (.inp 3 20 4)) (.cons (.q (.inp 3 6 1)) .nil)) h0) = true := by kernel_rfl
theorem run4x2 : isT (callN (fun g => nget fs1 g) 3000 3 (.cons (.q (.inp 3 20 4)) (.cons (.q (.inp 3 6 2)) .nil)) h0) = true := by kernel_rfl
theorem run4x3 : isT (callN (fun g => nget fs1 g) 3000 3 (.cons (.q (.inp 3 20 4)) (.cons (.q (.inp 3 6 3)) .nil)) h0) = true := by kernel_rfl
theorem run4x4 : isT (callN (fun g => nget fs1 g) 3000 3 (.cons (.q (.inp 3 20 4)) (.cons (.q (.inp 3 6 4)) .nil)) h0) = true := by kernel_rfl
theorem run4x5 : isT (callN (fun g => nget fs1 g) 3000 3 (.cons (.q (.inp 3 20 4)) (.cons (.q (.inp 3 6 5)) .nil)) h0) = true := by kernel_rfl
theorem run5x0 : isT (callN (fun g => nget fs1 g) 3000 3 (.cons (.q (.inp 3 20 5)) (.cons (.q (.inp 3 7 0)) .nil)) h0) = true := by kernel_rfl
theorem run5x1 : isT (callN (fun g => nget fs1 g) 3000 3 (.cons (.q (.inp 3 20 5)) (.cons (.q (.inp 3 7 1)) .nil)) h0) = true := by kernel_rfl
theorem run5x2 : isT (callN (fun g => nget fs1 g) 3000 3 (.cons (.q (.inp 3 20 5)) (.cons (.q (.inp 3 7 2)) .nil)) h0) = true := by kernel_rfl
theorem run5x3 : isT (callN (fun g => nget fs1 g) 3000 3 (.cons (.q (.inp 3 20 5)) (.cons (.q (.inp 3 7 3)) .nil)) h0) = true := by kernel_rfl
theorem run5x4 : isT (callN (fun g => nget fs1 g) 3000 3 (.cons (.q (.inp 3 20 5)) (.cons (.q (.inp 3 7 4)) .nil)) h0) = true := by kernel_rfl
theorem run5x5 : isT (callN (fun g => nget fs1 g) 3000 3 (.cons (.q (.inp 3 20 5)) (.cons (.q (.inp 3 7 5)) .nil)) h0) = true := by kernel_rfl
theorem run5x6 : isT (callN (fun g => nget fs1 g) 3000 3 (.cons (.q (.inp 3 20 5)) (.cons (.q (.inp 3 7 6)) .nil)) h0) = true := by kernel_rfl
theorem run6x0 : isT (callN (fun g => nget fs1 g) 3000 3 (.cons (.q (.inp 3 20 6)) (.cons (.q (.inp 3 8 0)) .nil)) h0) = true := by kernel_rfl
theorem run6x1 : isT (callN (fun g => nget fs1 g) 3000 3 (.cons (.q (.inp 3 20 6)) (.cons (.q (.inp 3 8 1)) .nil)) h0) = true := by kernel_rfl
theorem run6x2 : isT (callN (fun g => nget fs1 g) 3000 3 (.cons (.q (.inp 3 20 6)) (.cons (.q (.inp 3 8 2)) .nil)) h0) = true := by kernel_rfl
end Go.Proofs.YtoenlbemfkedoaaGreat
