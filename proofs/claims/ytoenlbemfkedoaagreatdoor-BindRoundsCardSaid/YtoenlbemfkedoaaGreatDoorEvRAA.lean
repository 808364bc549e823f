/- The law at some of its inputs, as the evaluator reckons it; conditions: none. -/
import Derived.Test.YtoenlbemfkedoaaGreatDoorEvFBindRounds
namespace Go.Proofs.YtoenlbemfkedoaaGreatDoor
open Go Go.Ev
theorem run0x0f : isT (callN (fun g => nget fs1 g) 3000 3 (.cons (.q (.inp 3 20 0)) (.cons (.q (.inp 3 2 0)) (.cons (.b false) .nil))) h0) = true := by kernel_rfl
theorem run0x0t : isT (callN (fun g => nget fs1 g) 3000 3 (.cons (.q (.inp 3 20 0)) (.cons (.q (.inp 3 2 0)) (.cons (.b true) .nil))) h0) = true := by kernel_rfl
theorem run0x1f : isT (callN (fun g => nget fs1 g) 3000 3 (.cons (.q (.inp 3 20 0)) (.cons (.q (.inp 3 2 1)) (.cons (.b false) .nil))) h0) = true := by kernel_rfl
theorem run0x1t : isT (callN (fun g => nget fs1 g) 3000 3 (.cons (.q (.inp 3 20 0)) (.cons (.q (.inp 3 2 1)) (.cons (.b true) .nil))) h0) = true := by kernel_rfl
theorem run1x0f : isT (callN (fun g => nget fs1 g) 3000 3 (.cons (.q (.inp 3 20 1)) (.cons (.q (.inp 3 3 0)) (.cons (.b false) .nil))) h0) = true := by kernel_rfl
theorem run1x0t : isT (callN (fun g => nget fs1 g) 3000 3 (.cons (.q (.inp 3 20 1)) (.cons (.q (.inp 3 3 0)) (.cons (.b true) .nil))) h0) = true := by kernel_rfl
theorem run1x1f : isT (callN (fun g => nget fs1 g) 3000 3 (.cons (.q (.inp 3 20 1)) (.cons (.q (.inp 3 3 1)) (.cons (.b false) .nil))) h0) = true := by kernel_rfl
theorem run1x1t : isT (callN (fun g => nget fs1 g) 3000 3 (.cons (.q (.inp 3 20 1)) (.cons (.q (.inp 3 3 1)) (.cons (.b true) .nil))) h0) = true := by kernel_rfl
theorem run1x2f : isT (callN (fun g => nget fs1 g) 3000 3 (.cons (.q (.inp 3 20 1)) (.cons (.q (.inp 3 3 2)) (.cons (.b false) .nil))) h0) = true := by kernel_rfl
theorem run1x2t : isT (callN (fun g => nget fs1 g) 3000 3 (.cons (.q (.inp 3 20 1)) (.cons (.q (.inp 3 3 2)) (.cons (.b true) .nil))) h0) = true := by kernel_rfl
theorem run2x0f : isT (callN (fun g => nget fs1 g) 3000 3 (.cons (.q (.inp 3 20 2)) (.cons (.q (.inp 3 4 0)) (.cons (.b false) .nil))) h0) = true := by kernel_rfl
theorem run2x0t : isT (callN (fun g => nget fs1 g) 3000 3 (.cons (.q (.inp 3 20 2)) (.cons (.q (.inp 3 4 0)) (.cons (.b true) .nil))) h0) = true := by kernel_rfl
theorem run2x1f : isT (callN (fun g => nget fs1 g) 3000 3 (.cons (.q (.inp 3 20 2)) (.cons (.q (.inp 3 4 1)) (.cons (.b false) .nil))) h0) = true := by kernel_rfl
theorem run2x1t : isT (callN (fun g => nget fs1 g) 3000 3 (.cons (.q (.inp 3 20 2)) (.cons (.q (.inp 3 4 1)) (.cons (.b true) .nil))) h0) = true := by kernel_rfl
theorem run2x2f : isT (callN (fun g => nget fs1 g) 3000 3 (.cons (.q (.inp 3 20 2)) (.cons (.q (.inp 3 4 2)) (.cons (.b false) .nil))) h0) = true := by kernel_rfl
theorem run2x2t : isT (callN (fun g => nget fs1 g) 3000 3 (.cons (.q (.inp 3 20 2)) (.cons (.q (.inp 3 4 2)) (.cons (.b true) .nil))) h0) = true := by kernel_rfl
theorem run2x3f : isT (callN (fun g => nget fs1 g) 3000 3 (.cons (.q (.inp 3 20 2)) (.cons (.q (.inp 3 4 3)) (.cons (.b false) .nil))) h0) = true := by kernel_rfl
theorem run2x3t : isT (callN (fun g => nget fs1 g) 3000 3 (.cons (.q (.inp 3 20 2)) (.cons (.q (.inp 3 4 3)) (.cons (.b true) .nil))) h0) = true := by kernel_rfl
theorem run3x0f : isT (callN (fun g => nget fs1 g) 3000 3 (.cons (.q (.inp 3 20 3)) (.cons (.q (.inp 3 5 0)) (.cons (.b false) .nil))) h0) = true := by kernel_rfl
theorem run3x0t : isT (callN (fun g => nget fs1 g) 3000 3 (.cons (.q (.inp 3 20 3)) (.cons (.q (.inp 3 5 0)) (.cons (.b true) .nil))) h0) = true := by kernel_rfl
theorem run3x1f : isT (callN (fun g => nget fs1 g) 3000 3 (.cons (.q (.inp 3 20 3)) (.cons (.q (.inp 3 5 1)) (.cons (.b false) .nil))) h0) = true := by kernel_rfl
theorem run3x1t : isT (callN (fun g => nget fs1 g) 3000 3 (.cons (.q (.inp 3 20 3)) (.cons (.q (.inp 3 5 1)) (.cons (.b true) .nil))) h0) = true := by kernel_rfl
theorem run3x2f : isT (callN (fun g => nget fs1 g) 3000 3 (.cons (.q (.inp 3 20 3)) (.cons (.q (.inp 3 5 2)) (.cons (.b false) .nil))) h0) = true := by kernel_rfl
theorem run3x2t : isT (callN (fun g => nget fs1 g) 3000 3 (.cons (.q (.inp 3 20 3)) (.cons (.q (.inp 3 5 2)) (.cons (.b true) .nil))) h0) = true := by kernel_rfl
theorem run3x3f : isT (callN (fun g => nget fs1 g) 3000 3 (.cons (.q (.inp 3 20 3)) (.cons (.q (.inp 3 5 3)) (.cons (.b false) .nil))) h0) = true := by kernel_rfl
theorem run3x3t : isT (callN (fun g => nget fs1 g) 3000 3 (.cons (.q (.inp 3 20 3)) (.cons (.q (.inp 3 5 3)) (.cons (.b true) .nil))) h0) = true := by kernel_rfl
theorem run3x4f : isT (callN (fun g => nget fs1 g) 3000 3 (.cons (.q (.inp 3 20 3)) (.cons (.q (.inp 3 5 4)) (.cons (.b false) .nil))) h0) = true := by kernel_rfl
theorem run3x4t : isT (callN (fun g => nget fs1 g) 3000 3 (.cons (.q (.inp 3 20 3)) (.cons (.q (.inp 3 5 4)) (.cons (.b true) .nil))) h0) = true := by kernel_rfl
theorem run4x0f : isT (callN (fun g => nget fs1 g) 3000 3 (.cons (.q (.inp 3 20 4)) (.cons (.q (.inp 3 6 0)) (.cons (.b false) .nil))) h0) = true := by kernel_rfl
theorem run4x0t : isT (callN (fun g => nget fs1 g) 3000 3 (.cons (.q (.inp 3 20 4)) (.cons (.q (.inp 3 6 0)) (.cons (.b true) .nil))) h0) = true := by kernel_rfl
theorem run4x1f : isT (callN (fun g => nget fs1 g) 3000 3 (.cons (.q (.inp 3 20 4)) (.cons (.q (.inp 3 6 1)) (.cons (.b false) .nil))) h0) = true := by kernel_rfl
theorem run4x1t : isT (callN (fun g => nget fs1 g) 3000 3 (.cons (.q (.inp 3 20 4)) (.cons (.q (.inp 3 6 1)) (.cons (.b true) .nil))) h0) = true := by kernel_rfl
theorem run4x2f : isT (callN (fun g => nget fs1 g) 3000 3 (.cons (.q (.inp 3 20 4)) (.cons (.q (.inp 3 6 2)) (.cons (.b false) .nil))) h0) = true := by kernel_rfl
theorem run4x2t : isT (callN (fun g => nget fs1 g) 3000 3 (.cons (.q (.inp 3 20 4)) (.cons (.q (.inp 3 6 2)) (.cons (.b true) .nil))) h0) = true := by kernel_rfl
theorem run4x3f : isT (callN (fun g => nget fs1 g) 3000 3 (.cons (.q (.inp 3 20 4)) (.cons (.q (.inp 3 6 3)) (.cons (.b false) .nil))) h0) = true := by kernel_rfl
theorem run4x3t : isT (callN (fun g => nget fs1 g) 3000 3 (.cons (.q (.inp 3 20 4)) (.cons (.q (.inp 3 6 3)) (.cons (.b true) .nil))) h0) = true := by kernel_rfl
theorem run4x4f : isT (callN (fun g => nget fs1 g) 3000 3 (.cons (.q (.inp 3 20 4)) (.cons (.q (.inp 3 6 4)) (.cons (.b false) .nil))) h0) = true := by kernel_rfl
theorem run4x4t : isT (callN (fun g => nget fs1 g) 3000 3 (.cons (.q (.inp 3 20 4)) (.cons (.q (.inp 3 6 4)) (.cons (.b true) .nil))) h0) = true := by kernel_rfl
theorem run4x5f : isT (callN (fun g => nget fs1 g) 3000 3 (.cons (.q (.inp 3 20 4)) (.cons (.q (.inp 3 6 5)) (.cons (.b false) .nil))) h0) = true := by kernel_rfl
theorem run4x5t : isT (callN (fun g => nget fs1 g) 3000 3 (.cons (.q (.inp 3 20 4)) (.cons (.q (.inp 3 6 5)) (.cons (.b true) .nil))) h0) = true := by kernel_rfl
theorem run5x0f : isT (callN (fun g => nget fs1 g) 3000 3 (.cons (.q (.inp 3 20 5)) (.cons (.q (.inp 3 7 0)) (.cons (.b false) .nil))) h0) = true := by kernel_rfl
theorem run5x0t : isT (callN (fun g => nget fs1 g) 3000 3 (.cons (.q (.inp 3 20 5)) (.cons (.q (.inp 3 7 0)) (.cons (.b true) .nil))) h0) = true := by kernel_rfl
theorem run5x1f : isT (callN (fun g => nget fs1 g) 3000 3 (.cons (.q (.inp 3 20 5)) (.cons (.q (.inp 3 7 1)) (.cons (.b false) .nil))) h0) = true := by kernel_rfl
theorem run5x1t : isT (callN (fun g => nget fs1 g) 3000 3 (.cons (.q (.inp 3 20 5)) (.cons (.q (.inp 3 7 1)) (.cons (.b true) .nil))) h0) = true := by kernel_rfl
theorem run5x2f : isT (callN (fun g => nget fs1 g) 3000 3 (.cons (.q (.inp 3 20 5)) (.cons (.q (.inp 3 7 2)) (.cons (.b false) .nil))) h0) = true := by kernel_rfl
theorem run5x2t : isT (callN (fun g => nget fs1 g) 3000 3 (.cons (.q (.inp 3 20 5)) (.cons (.q (.inp 3 7 2)) (.cons (.b true) .nil))) h0) = true := by kernel_rfl
theorem run5x3f : isT (callN (fun g => nget fs1 g) 3000 3 (.cons (.q (.inp 3 20 5)) (.cons (.q (.inp 3 7 3)) (.cons (.b false) .nil))) h0) = true := by kernel_rfl
end Go.Proofs.YtoenlbemfkedoaaGreatDoor
