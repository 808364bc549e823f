/- The law at some of its inputs, as the evaluator reckons it; conditions: none. -/
import Derived.Test.YtoenlbemfkedoaaGreatDoorEvFBindRounds
namespace Go.Proofs.YtoenlbemfkedoaaGreatDoor
open Go Go.Ev
theorem run12x13t : isT (callN (fun g => nget fs1 g) 3000 3 (.cons (.q (.inp 3 20 12)) (.cons (.q (.inp 3 14 13)) (.cons (.b true) .nil))) h0) = true := by kernel_rfl
theorem run13x0f : isT (callN (fun g => nget fs1 g) 3000 3 (.cons (.q (.inp 3 20 13)) (.cons (.q (.inp 3 15 0)) (.cons (.b false) .nil))) h0) = true := by kernel_rfl
theorem run13x0t : isT (callN (fun g => nget fs1 g) 3000 3 (.cons (.q (.inp 3 20 13)) (.cons (.q (.inp 3 15 0)) (.cons (.b true) .nil))) h0) = true := by kernel_rfl
theorem run13x1f : isT (callN (fun g => nget fs1 g) 3000 3 (.cons (.q (.inp 3 20 13)) (.cons (.q (.inp 3 15 1)) (.cons (.b false) .nil))) h0) = true := by kernel_rfl
theorem run13x1t : isT (callN (fun g => nget fs1 g) 3000 3 (.cons (.q (.inp 3 20 13)) (.cons (.q (.inp 3 15 1)) (.cons (.b true) .nil))) h0) = true := by kernel_rfl
theorem run13x2f : isT (callN (fun g => nget fs1 g) 3000 3 (.cons (.q (.inp 3 20 13)) (.cons (.q (.inp 3 15 2)) (.cons (.b false) .nil))) h0) = true := by kernel_rfl
theorem run13x2t : isT (callN (fun g => nget fs1 g) 3000 3 (.cons (.q (.inp 3 20 13)) (.cons (.q (.inp 3 15 2)) (.cons (.b true) .nil))) h0) = true := by kernel_rfl
theorem run13x3f : isT (callN (fun g => nget fs1 g) 3000 3 (.cons (.q (.inp 3 20 13)) (.cons (.q (.inp 3 15 3)) (.cons (.b false) .nil))) h0) = true := by kernel_rfl
theorem run13x3t : isT (callN (fun g => nget fs1 g) 3000 3 (.cons (.q (.inp 3 20 13)) (.cons (.q (.inp 3 15 3)) (.cons (.b true) .nil))) h0) = true := by kernel_rfl
theorem run13x4f : isT (callN (fun g => nget fs1 g) 3000 3 (.cons (.q (.inp 3 20 13)) (.cons (.q (.inp 3 15 4)) (.cons (.b false) .nil))) h0) = true := by kernel_rfl
theorem run13x4t : isT (callN (fun g => nget fs1 g) 3000 3 (.cons (.q (.inp 3 20 13)) (.cons (.q (.inp 3 15 4)) (.cons (.b true) .nil))) h0) = true := by kernel_rfl
theorem run13x5f : isT (callN (fun g => nget fs1 g) 3000 3 (.cons (.q (.inp 3 20 13)) (.cons (.q (.inp 3 15 5)) (.cons (.b false) .nil))) h0) = true := by kernel_rfl
theorem run13x5t : isT (callN (fun g => nget fs1 g) 3000 3 (.cons (.q (.inp 3 20 13)) (.cons (.q (.inp 3 15 5)) (.cons (.b true) .nil))) h0) = true := by kernel_rfl
theorem run13x6f : isT (callN (fun g => nget fs1 g) 3000 3 (.cons (.q (.inp 3 20 13)) (.cons (.q (.inp 3 15 6)) (.cons (.b false) .nil))) h0) = true := by kernel_rfl
theorem run13x6t : isT (callN (fun g => nget fs1 g) 3000 3 (.cons (.q (.inp 3 20 13)) (.cons (.q (.inp 3 15 6)) (.cons (.b true) .nil))) h0) = true := by kernel_rfl
end Go.Proofs.YtoenlbemfkedoaaGreatDoor
