/- The law at some of its inputs, as the evaluator reckons it; conditions: none. -/
import Derived.Test.YtoenlbemfkedoaaGreatDoorEvFBindRounds
namespace Go.Proofs.YtoenlbemfkedoaaGreatDoor
open Go Go.Ev
theorem run7x2t : isT (callN (fun g => nget fs1 g) 3000 3 (.cons (.q (.inp 3 20 7)) (.cons (.q (.inp 3 9 2)) (.cons (.b true) .nil))) h0) = true := by kernel_rfl
theorem run7x3f : isT (callN (fun g => nget fs1 g) 3000 3 (.cons (.q (.inp 3 20 7)) (.cons (.q (.inp 3 9 3)) (.cons (.b false) .nil))) h0) = true := by kernel_rfl
theorem run7x3t : isT (callN (fun g => nget fs1 g) 3000 3 (.cons (.q (.inp 3 20 7)) (.cons (.q (.inp 3 9 3)) (.cons (.b true) .nil))) h0) = true := by kernel_rfl
theorem run7x4f : isT (callN (fun g => nget fs1 g) 3000 3 (.cons (.q (.inp 3 20 7)) (.cons (.q (.inp 3 9 4)) (.cons (.b false) .nil))) h0) = true := by kernel_rfl
theorem run7x4t : isT (callN (fun g => nget fs1 g) 3000 3 (.cons (.q (.inp 3 20 7)) (.cons (.q (.inp 3 9 4)) (.cons (.b true) .nil))) h0) = true := by kernel_rfl
theorem run7x5f : isT (callN (fun g => nget fs1 g) 3000 3 (.cons (.q (.inp 3 20 7)) (.cons (.q (.inp 3 9 5)) (.cons (.b false) .nil))) h0) = true := by kernel_rfl
theorem run7x5t : isT (callN (fun g => nget fs1 g) 3000 3 (.cons (.q (.inp 3 20 7)) (.cons (.q (.inp 3 9 5)) (.cons (.b true) .nil))) h0) = true := by kernel_rfl
theorem run7x6f : isT (callN (fun g => nget fs1 g) 3000 3 (.cons (.q (.inp 3 20 7)) (.cons (.q (.inp 3 9 6)) (.cons (.b false) .nil))) h0) = true := by kernel_rfl
theorem run7x6t : isT (callN (fun g => nget fs1 g) 3000 3 (.cons (.q (.inp 3 20 7)) (.cons (.q (.inp 3 9 6)) (.cons (.b true) .nil))) h0) = true := by kernel_rfl
theorem run7x7f : isT (callN (fun g => nget fs1 g) 3000 3 (.cons (.q (.inp 3 20 7)) (.cons (.q (.inp 3 9 7)) (.cons (.b false) .nil))) h0) = true := by kernel_rfl
theorem run7x7t : isT (callN (fun g => nget fs1 g) 3000 3 (.cons (.q (.inp 3 20 7)) (.cons (.q (.inp 3 9 7)) (.cons (.b true) .nil))) h0) = true := by kernel_rfl
theorem run7x8f : isT (callN (fun g => nget fs1 g) 3000 3 (.cons (.q (.inp 3 20 7)) (.cons (.q (.inp 3 9 8)) (.cons (.b false) .nil))) h0) = true := by kernel_rfl
theorem run7x8t : isT (callN (fun g => nget fs1 g) 3000 3 (.cons (.q (.inp 3 20 7)) (.cons (.q (.inp 3 9 8)) (.cons (.b true) .nil))) h0) = true := by kernel_rfl
theorem run8x0f : isT (callN (fun g => nget fs1 g) 3000 3 (.cons (.q (.inp 3 20 8)) (.cons (.q (.inp 3 10 0)) (.cons (.b false) .nil))) h0) = true := by kernel_rfl
theorem run8x0t : isT (callN (fun g => nget fs1 g) 3000 3 (.cons (.q (.inp 3 20 8)) (.cons (.q (.inp 3 10 0)) (.cons (.b true) .nil))) h0) = true := by kernel_rfl
theorem run8x1f : isT (callN (fun g => nget fs1 g) 3000 3 (.cons (.q (.inp 3 20 8)) (.cons (.q (.inp 3 10 1)) (.cons (.b false) .nil))) h0) = true := by kernel_rfl
theorem run8x1t : isT (callN (fun g => nget fs1 g) 3000 3 (.cons (.q (.inp 3 20 8)) (.cons (.q (.inp 3 10 1)) (.cons (.b true) .nil))) h0) = true := by kernel_rfl
theorem run8x2f : isT (callN (fun g => nget fs1 g) 3000 3 (.cons (.q (.inp 3 20 8)) (.cons (.q (.inp 3 10 2)) (.cons (.b false) .nil))) h0) = true := by kernel_rfl
theorem run8x2t : isT (callN (fun g => nget fs1 g) 3000 3 (.cons (.q (.inp 3 20 8)) (.cons (.q (.inp 3 10 2)) (.cons (.b true) .nil))) h0) = true := by kernel_rfl
theorem run8x3f : isT (callN (fun g => nget fs1 g) 3000 3 (.cons (.q (.inp 3 20 8)) (.cons (.q (.inp 3 10 3)) (.cons (.b false) .nil))) h0) = true := by kernel_rfl
theorem run8x3t : isT (callN (fun g => nget fs1 g) 3000 3 (.cons (.q (.inp 3 20 8)) (.cons (.q (.inp 3 10 3)) (.cons (.b true) .nil))) h0) = true := by kernel_rfl
theorem run8x4f : isT (callN (fun g => nget fs1 g) 3000 3 (.cons (.q (.inp 3 20 8)) (.cons (.q (.inp 3 10 4)) (.cons (.b false) .nil))) h0) = true := by kernel_rfl
theorem run8x4t : isT (callN (fun g => nget fs1 g) 3000 3 (.cons (.q (.inp 3 20 8)) (.cons (.q (.inp 3 10 4)) (.cons (.b true) .nil))) h0) = true := by kernel_rfl
theorem run8x5f : isT (callN (fun g => nget fs1 g) 3000 3 (.cons (.q (.inp 3 20 8)) (.cons (.q (.inp 3 10 5)) (.cons (.b false) .nil))) h0) = true := by kernel_rfl
end Go.Proofs.YtoenlbemfkedoaaGreatDoor
