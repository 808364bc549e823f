/- The law at some of its inputs, as the evaluator reckons it; conditions: none. -/
import Derived.Test.YtoenlbemfkedoaaGreatDoorEvFBindRounds
namespace Go.Proofs.YtoenlbemfkedoaaGreatDoor
open Go Go.Ev
theorem run9x6f : isT (callN (fun g => nget fs1 g) 3000 3 (.cons (.q (.inp 3 20 9)) (.cons (.q (.inp 3 11 6)) (.cons (.b false) .nil))) h0) = true := by kernel_rfl
theorem run9x6t : isT (callN (fun g => nget fs1 g) 3000 3 (.cons (.q (.inp 3 20 9)) (.cons (.q (.inp 3 11 6)) (.cons (.b true) .nil))) h0) = true := by kernel_rfl
theorem run9x7f : isT (callN (fun g => nget fs1 g) 3000 3 (.cons (.q (.inp 3 20 9)) (.cons (.q (.inp 3 11 7)) (.cons (.b false) .nil))) h0) = true := by kernel_rfl
theorem run9x7t : isT (callN (fun g => nget fs1 g) 3000 3 (.cons (.q (.inp 3 20 9)) (.cons (.q (.inp 3 11 7)) (.cons (.b true) .nil))) h0) = true := by kernel_rfl
theorem run9x8f : isT (callN (fun g => nget fs1 g) 3000 3 (.cons (.q (.inp 3 20 9)) (.cons (.q (.inp 3 11 8)) (.cons (.b false) .nil))) h0) = true := by kernel_rfl
theorem run9x8t : isT (callN (fun g => nget fs1 g) 3000 3 (.cons (.q (.inp 3 20 9)) (.cons (.q (.inp 3 11 8)) (.cons (.b true) .nil))) h0) = true := by kernel_rfl
theorem run9x9f : isT (callN (fun g => nget fs1 g) 3000 3 (.cons (.q (.inp 3 20 9)) (.cons (.q (.inp 3 11 9)) (.cons (.b false) .nil))) h0) = true := by kernel_rfl
theorem run9x9t : isT (callN (fun g => nget fs1 g) 3000 3 (.cons (.q (.inp 3 20 9)) (.cons (.q (.inp 3 11 9)) (.cons (.b true) .nil))) h0) = true := by kernel_rfl
theorem run9x10f : isT (callN (fun g => nget fs1 g) 3000 3 (.cons (.q (.inp 3 20 9)) (.cons (.q (.inp 3 11 10)) (.cons (.b false) .nil))) h0) = true := by kernel_rfl
theorem run9x10t : isT (callN (fun g => nget fs1 g) 3000 3 (.cons (.q (.inp 3 20 9)) (.cons (.q (.inp 3 11 10)) (.cons (.b true) .nil))) h0) = true := by kernel_rfl
theorem run10x0f : isT (callN (fun g => nget fs1 g) 3000 3 (.cons (.q (.inp 3 20 10)) (.cons (.q (.inp 3 12 0)) (.cons (.b false) .nil))) h0) = true := by kernel_rfl
theorem run10x0t : isT (callN (fun g => nget fs1 g) 3000 3 (.cons (.q (.inp 3 20 10)) (.cons (.q (.inp 3 12 0)) (.cons (.b true) .nil))) h0) = true := by kernel_rfl
theorem run10x1f : isT (callN (fun g => nget fs1 g) 3000 3 (.cons (.q (.inp 3 20 10)) (.cons (.q (.inp 3 12 1)) (.cons (.b false) .nil))) h0) = true := by kernel_rfl
theorem run10x1t : isT (callN (fun g => nget fs1 g) 3000 3 (.cons (.q (.inp 3 20 10)) (.cons (.q (.inp 3 12 1)) (.cons (.b true) .nil))) h0) = true := by kernel_rfl
theorem run10x2f : isT (callN (fun g => nget fs1 g) 3000 3 (.cons (.q (.inp 3 20 10)) (.cons (.q (.inp 3 12 2)) (.cons (.b false) .nil))) h0) = true := by kernel_rfl
theorem run10x2t : isT (callN (fun g => nget fs1 g) 3000 3 (.cons (.q (.inp 3 20 10)) (.cons (.q (.inp 3 12 2)) (.cons (.b true) .nil))) h0) = true := by kernel_rfl
theorem run10x3f : isT (callN (fun g => nget fs1 g) 3000 3 (.cons (.q (.inp 3 20 10)) (.cons (.q (.inp 3 12 3)) (.cons (.b false) .nil))) h0) = true := by kernel_rfl
theorem run10x3t : isT (callN (fun g => nget fs1 g) 3000 3 (.cons (.q (.inp 3 20 10)) (.cons (.q (.inp 3 12 3)) (.cons (.b true) .nil))) h0) = true := by kernel_rfl
theorem run10x4f : isT (callN (fun g => nget fs1 g) 3000 3 (.cons (.q (.inp 3 20 10)) (.cons (.q (.inp 3 12 4)) (.cons (.b false) .nil))) h0) = true := by kernel_rfl
theorem run10x4t : isT (callN (fun g => nget fs1 g) 3000 3 (.cons (.q (.inp 3 20 10)) (.cons (.q (.inp 3 12 4)) (.cons (.b true) .nil))) h0) = true := by kernel_rfl
end Go.Proofs.YtoenlbemfkedoaaGreatDoor
