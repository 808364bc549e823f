/- The law at some of its inputs, as the evaluator reckons it; conditions: none. -/
import Derived.Test.YtoenlbemfkedoaaGreatDoorEvFBindRounds
namespace Go.Proofs.YtoenlbemfkedoaaGreatDoor
open Go Go.Ev
theorem run11x10t : isT (callN (fun g => nget fs1 g) 3000 3 (.cons (.q (.inp 3 20 11)) (.cons (.q (.inp 3 13 10)) (.cons (.b true) .nil))) h0) = true := by kernel_rfl
theorem run11x11f : isT (callN (fun g => nget fs1 g) 3000 3 (.cons (.q (.inp 3 20 11)) (.cons (.q (.inp 3 13 11)) (.cons (.b false) .nil))) h0) = true := by kernel_rfl
theorem run11x11t : isT (callN (fun g => nget fs1 g) 3000 3 (.cons (.q (.inp 3 20 11)) (.cons (.q (.inp 3 13 11)) (.cons (.b true) .nil))) h0) = true := by kernel_rfl
theorem run11x12f : isT (callN (fun g => nget fs1 g) 3000 3 (.cons (.q (.inp 3 20 11)) (.cons (.q (.inp 3 13 12)) (.cons (.b false) .nil))) h0) = true := by kernel_rfl
theorem run11x12t : isT (callN (fun g => nget fs1 g) 3000 3 (.cons (.q (.inp 3 20 11)) (.cons (.q (.inp 3 13 12)) (.cons (.b true) .nil))) h0) = true := by kernel_rfl
theorem run12x0f : isT (callN (fun g => nget fs1 g) 3000 3 (.cons (.q (.inp 3 20 12)) (.cons (.q (.inp 3 14 0)) (.cons (.b false) .nil))) h0) = true := by kernel_rfl
theorem run12x0t : isT (callN (fun g => nget fs1 g) 3000 3 (.cons (.q (.inp 3 20 12)) (.cons (.q (.inp 3 14 0)) (.cons (.b true) .nil))) h0) = true := by kernel_rfl
theorem run12x1f : isT (callN (fun g => nget fs1 g) 3000 3 (.cons (.q (.inp 3 20 12)) (.cons (.q (.inp 3 14 1)) (.cons (.b false) .nil))) h0) = true := by kernel_rfl
theorem run12x1t : isT (callN (fun g => nget fs1 g) 3000 3 (.cons (.q (.inp 3 20 12)) (.cons (.q (.inp 3 14 1)) (.cons (.b true) .nil))) h0) = true := by kernel_rfl
theorem run12x2f : isT (callN (fun g => nget fs1 g) 3000 3 (.cons (.q (.inp 3 20 12)) (.cons (.q (.inp 3 14 2)) (.cons (.b false) .nil))) h0) = true := by kernel_rfl
theorem run12x2t : isT (callN (fun g => nget fs1 g) 3000 3 (.cons (.q (.inp 3 20 12)) (.cons (.q (.inp 3 14 2)) (.cons (.b true) .nil))) h0) = true := by kernel_rfl
theorem run12x3f : isT (callN (fun g => nget fs1 g) 3000 3 (.cons (.q (.inp 3 20 12)) (.cons (.q (.inp 3 14 3)) (.cons (.b false) .nil))) h0) = true := by kernel_rfl
theorem run12x3t : isT (callN (fun g => nget fs1 g) 3000 3 (.cons (.q (.inp 3 20 12)) (.cons (.q (.inp 3 14 3)) (.cons (.b true) .nil))) h0) = true := by kernel_rfl
theorem run12x4f : isT (callN (fun g => nget fs1 g) 3000 3 (.cons (.q (.inp 3 20 12)) (.cons (.q (.inp 3 14 4)) (.cons (.b false) .nil))) h0) = true := by kernel_rfl
theorem run12x4t : isT (callN (fun g => nget fs1 g) 3000 3 (.cons (.q (.inp 3 20 12)) (.cons (.q (.inp 3 14 4)) (.cons (.b true) .nil))) h0) = true := by kernel_rfl
theorem run12x5f : isT (callN (fun g => nget fs1 g) 3000 3 (.cons (.q (.inp 3 20 12)) (.cons (.q (.inp 3 14 5)) (.cons (.b false) .nil))) h0) = true := by kernel_rfl
end Go.Proofs.YtoenlbemfkedoaaGreatDoor
