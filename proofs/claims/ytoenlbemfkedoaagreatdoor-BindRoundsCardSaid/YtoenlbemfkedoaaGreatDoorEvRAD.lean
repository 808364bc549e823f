/- The law at some of its inputs, as the evaluator reckons it; conditions: none. -/
import Derived.Test.YtoenlbemfkedoaaGreatDoorEvFBindRounds
namespace Go.Proofs.YtoenlbemfkedoaaGreatDoor
open Go Go.Ev
theorem run8x5t : isT (callN (fun g => nget fs1 g) 3000 3 (.cons (.q (.inp 3 20 8)) (.cons (.q (.inp 3 10 5)) (.cons (.b true) .nil))) h0) = true := by kernel_rfl
theorem run8x6f : isT (callN (fun g => nget fs1 g) 3000 3 (.cons (.q (.inp 3 20 8)) (.cons (.q (.inp 3 10 6)) (.cons (.b false) .nil))) h0) = true := by kernel_rfl
theorem run8x6t : isT (callN (fun g => nget fs1 g) 3000 3 (.cons (.q (.inp 3 20 8)) (.cons (.q (.inp 3 10 6)) (.cons (.b true) .nil))) h0) = true := by kernel_rfl
theorem run8x7f : isT (callN (fun g => nget fs1 g) 3000 3 (.cons (.q (.inp 3 20 8)) (.cons (.q (.inp 3 10 7)) (.cons (.b false) .nil))) h0) = true := by kernel_rfl
theorem run8x7t : isT (callN (fun g => nget fs1 g) 3000 3 (.cons (.q (.inp 3 20 8)) (.cons (.q (.inp 3 10 7)) (.cons (.b true) .nil))) h0) = true := by kernel_rfl
theorem run8x8f : isT (callN (fun g => nget fs1 g) 3000 3 (.cons (.q (.inp 3 20 8)) (.cons (.q (.inp 3 10 8)) (.cons (.b false) .nil))) h0) = true := by kernel_rfl
theorem run8x8t : isT (callN (fun g => nget fs1 g) 3000 3 (.cons (.q (.inp 3 20 8)) (.cons (.q (.inp 3 10 8)) (.cons (.b true) .nil))) h0) = true := by kernel_rfl
theorem run8x9f : isT (callN (fun g => nget fs1 g) 3000 3 (.cons (.q (.inp 3 20 8)) (.cons (.q (.inp 3 10 9)) (.cons (.b false) .nil))) h0) = true := by kernel_rfl
theorem run8x9t : isT (callN (fun g => nget fs1 g) 3000 3 (.cons (.q (.inp 3 20 8)) (.cons (.q (.inp 3 10 9)) (.cons (.b true) .nil))) h0) = true := by kernel_rfl
theorem run9x0f : isT (callN (fun g => nget fs1 g) 3000 3 (.cons (.q (.inp 3 20 9)) (.cons (.q (.inp 3 11 0)) (.cons (.b false) .nil))) h0) = true := by kernel_rfl
theorem run9x0t : isT (callN (fun g => nget fs1 g) 3000 3 (.cons (.q (.inp 3 20 9)) (.cons (.q (.inp 3 11 0)) (.cons (.b true) .nil))) h0) = true := by kernel_rfl
theorem run9x1f : isT (callN (fun g => nget fs1 g) 3000 3 (.cons (.q (.inp 3 20 9)) (.cons (.q (.inp 3 11 1)) (.cons (.b false) .nil))) h0) = true := by kernel_rfl
theorem run9x1t : isT (callN (fun g => nget fs1 g) 3000 3 (.cons (.q (.inp 3 20 9)) (.cons (.q (.inp 3 11 1)) (.cons (.b true) .nil))) h0) = true := by kernel_rfl
theorem run9x2f : isT (callN (fun g => nget fs1 g) 3000 3 (.cons (.q (.inp 3 20 9)) (.cons (.q (.inp 3 11 2)) (.cons (.b false) .nil))) h0) = true := by kernel_rfl
theorem run9x2t : isT (callN (fun g => nget fs1 g) 3000 3 (.cons (.q (.inp 3 20 9)) (.cons (.q (.inp 3 11 2)) (.cons (.b true) .nil))) h0) = true := by kernel_rfl
theorem run9x3f : isT (callN (fun g => nget fs1 g) 3000 3 (.cons (.q (.inp 3 20 9)) (.cons (.q (.inp 3 11 3)) (.cons (.b false) .nil))) h0) = true := by kernel_rfl
theorem run9x3t : isT (callN (fun g => nget fs1 g) 3000 3 (.cons (.q (.inp 3 20 9)) (.cons (.q (.inp 3 11 3)) (.cons (.b true) .nil))) h0) = true := by kernel_rfl
theorem run9x4f : isT (callN (fun g => nget fs1 g) 3000 3 (.cons (.q (.inp 3 20 9)) (.cons (.q (.inp 3 11 4)) (.cons (.b false) .nil))) h0) = true := by kernel_rfl
theorem run9x4t : isT (callN (fun g => nget fs1 g) 3000 3 (.cons (.q (.inp 3 20 9)) (.cons (.q (.inp 3 11 4)) (.cons (.b true) .nil))) h0) = true := by kernel_rfl
theorem run9x5f : isT (callN (fun g => nget fs1 g) 3000 3 (.cons (.q (.inp 3 20 9)) (.cons (.q (.inp 3 11 5)) (.cons (.b false) .nil))) h0) = true := by kernel_rfl
theorem run9x5t : isT (callN (fun g => nget fs1 g) 3000 3 (.cons (.q (.inp 3 20 9)) (.cons (.q (.inp 3 11 5)) (.cons (.b true) .nil))) h0) = true := by kernel_rfl
end Go.Proofs.YtoenlbemfkedoaaGreatDoor
