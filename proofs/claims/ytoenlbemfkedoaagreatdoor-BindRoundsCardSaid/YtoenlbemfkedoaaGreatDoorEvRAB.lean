/- The law at some of its inputs, as the evaluator reckons it; conditions: none. -/
import Derived.Test.YtoenlbemfkedoaaGreatDoorEvFBindRounds
namespace Go.Proofs.YtoenlbemfkedoaaGreatDoor
open Go Go.Ev
theorem run5x3t : isT (callN (fun g => nget fs1 g) 3000 3 (.cons (.q (.inp 3 20 5)) (.cons (.q (.inp 3 7 3)) (.cons (.b true) .nil))) h0) = true := by kernel_rfl
theorem run5x4f : isT (callN (fun g => nget fs1 g) 3000 3 (.cons (.q (.inp 3 20 5)) (.cons (.q (.inp 3 7 4)) (.cons (.b false) .nil))) h0) = true := by kernel_rfl
theorem run5x4t : isT (callN (fun g => nget fs1 g) 3000 3 (.cons (.q (.inp 3 20 5)) (.cons (.q (.inp 3 7 4)) (.cons (.b true) .nil))) h0) = true := by kernel_rfl
theorem run5x5f : isT (callN (fun g => nget fs1 g) 3000 3 (.cons (.q (.inp 3 20 5)) (.cons (.q (.inp 3 7 5)) (.cons (.b false) .nil))) h0) = true := by kernel_rfl
theorem run5x5t : isT (callN (fun g => nget fs1 g) 3000 3 (.cons (.q (.inp 3 20 5)) (.cons (.q (.inp 3 7 5)) (.cons (.b true) .nil))) h0) = true := by kernel_rfl
theorem run5x6f : isT (callN (fun g => nget fs1 g) 3000 3 (.cons (.q (.inp 3 20 5)) (.cons (.q (.inp 3 7 6)) (.cons (.b false) .nil))) h0) = true := by kernel_rfl
theorem run5x6t : isT (callN (fun g => nget fs1 g) 3000 3 (.cons (.q (.inp 3 20 5)) (.cons (.q (.inp 3 7 6)) (.cons (.b true) .nil))) h0) = true := by kernel_rfl
theorem run6x0f : isT (callN (fun g => nget fs1 g) 3000 3 (.cons (.q (.inp 3 20 6)) (.cons (.q (.inp 3 8 0)) (.cons (.b false) .nil))) h0) = true := by kernel_rfl
theorem run6x0t : isT (callN (fun g => nget fs1 g) 3000 3 (.cons (.q (.inp 3 20 6)) (.cons (.q (.inp 3 8 0)) (.cons (.b true) .nil))) h0) = true := by kernel_rfl
theorem run6x1f : isT (callN (fun g => nget fs1 g) 3000 3 (.cons (.q (.inp 3 20 6)) (.cons (.q (.inp 3 8 1)) (.cons (.b false) .nil))) h0) = true := by kernel_rfl
theorem run6x1t : isT (callN (fun g => nget fs1 g) 3000 3 (.cons (.q (.inp 3 20 6)) (.cons (.q (.inp 3 8 1)) (.cons (.b true) .nil))) h0) = true := by kernel_rfl
theorem run6x2f : isT (callN (fun g => nget fs1 g) 3000 3 (.cons (.q (.inp 3 20 6)) (.cons (.q (.inp 3 8 2)) (.cons (.b false) .nil))) h0) = true := by kernel_rfl
theorem run6x2t : isT (callN (fun g => nget fs1 g) 3000 3 (.cons (.q (.inp 3 20 6)) (.cons (.q (.inp 3 8 2)) (.cons (.b true) .nil))) h0) = true := by kernel_rfl
theorem run6x3f : isT (callN (fun g => nget fs1 g) 3000 3 (.cons (.q (.inp 3 20 6)) (.cons (.q (.inp 3 8 3)) (.cons (.b false) .nil))) h0) = true := by kernel_rfl
theorem run6x3t : isT (callN (fun g => nget fs1 g) 3000 3 (.cons (.q (.inp 3 20 6)) (.cons (.q (.inp 3 8 3)) (.cons (.b true) .nil))) h0) = true := by kernel_rfl
theorem run6x4f : isT (callN (fun g => nget fs1 g) 3000 3 (.cons (.q (.inp 3 20 6)) (.cons (.q (.inp 3 8 4)) (.cons (.b false) .nil))) h0) = true := by kernel_rfl
theorem run6x4t : isT (callN (fun g => nget fs1 g) 3000 3 (.cons (.q (.inp 3 20 6)) (.cons (.q (.inp 3 8 4)) (.cons (.b true) .nil))) h0) = true := by kernel_rfl
theorem run6x5f : isT (callN (fun g => nget fs1 g) 3000 3 (.cons (.q (.inp 3 20 6)) (.cons (.q (.inp 3 8 5)) (.cons (.b false) .nil))) h0) = true := by kernel_rfl
theorem run6x5t : isT (callN (fun g => nget fs1 g) 3000 3 (.cons (.q (.inp 3 20 6)) (.cons (.q (.inp 3 8 5)) (.cons (.b true) .nil))) h0) = true := by kernel_rfl
theorem run6x6f : isT (callN (fun g => nget fs1 g) 3000 3 (.cons (.q (.inp 3 20 6)) (.cons (.q (.inp 3 8 6)) (.cons (.b false) .nil))) h0) = true := by kernel_rfl
theorem run6x6t : isT (callN (fun g => nget fs1 g) 3000 3 (.cons (.q (.inp 3 20 6)) (.cons (.q (.inp 3 8 6)) (.cons (.b true) .nil))) h0) = true := by kernel_rfl
theorem run6x7f : isT (callN (fun g => nget fs1 g) 3000 3 (.cons (.q (.inp 3 20 6)) (.cons (.q (.inp 3 8 7)) (.cons (.b false) .nil))) h0) = true := by kernel_rfl
theorem run6x7t : isT (callN (fun g => nget fs1 g) 3000 3 (.cons (.q (.inp 3 20 6)) (.cons (.q (.inp 3 8 7)) (.cons (.b true) .nil))) h0) = true := by kernel_rfl
theorem run7x0f : isT (callN (fun g => nget fs1 g) 3000 3 (.cons (.q (.inp 3 20 7)) (.cons (.q (.inp 3 9 0)) (.cons (.b false) .nil))) h0) = true := by kernel_rfl
theorem run7x0t : isT (callN (fun g => nget fs1 g) 3000 3 (.cons (.q (.inp 3 20 7)) (.cons (.q (.inp 3 9 0)) (.cons (.b true) .nil))) h0) = true := by kernel_rfl
theorem run7x1f : isT (callN (fun g => nget fs1 g) 3000 3 (.cons (.q (.inp 3 20 7)) (.cons (.q (.inp 3 9 1)) (.cons (.b false) .nil))) h0) = true := by kernel_rfl
theorem run7x1t : isT (callN (fun g => nget fs1 g) 3000 3 (.cons (.q (.inp 3 20 7)) (.cons (.q (.inp 3 9 1)) (.cons (.b true) .nil))) h0) = true := by kernel_rfl
theorem run7x2f : isT (callN (fun g => nget fs1 g) 3000 3 (.cons (.q (.inp 3 20 7)) (.cons (.q (.inp 3 9 2)) (.cons (.b false) .nil))) h0) = true := by kernel_rfl
end Go.Proofs.YtoenlbemfkedoaaGreatDoor
