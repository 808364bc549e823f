/- The law at some of its inputs, as the evaluator reckons it; conditions: none. -/
import Derived.Test.YtoenlbemfkedoaaGreatDoorEvFBindRounds
namespace Go.Proofs.YtoenlbemfkedoaaGreatDoor
open Go Go.Ev
theorem run13x14t : isT (callN (fun g => nget fs1 g) 3000 3 (.cons (.q (.inp 3 20 13)) (.cons (.q (.inp 3 15 14)) (.cons (.b true) .nil))) h0) = true := by kernel_rfl
theorem run14x0f : isT (callN (fun g => nget fs1 g) 3000 3 (.cons (.q (.inp 3 20 14)) (.cons (.q (.inp 3 16 0)) (.cons (.b false) .nil))) h0) = true := by kernel_rfl
theorem run14x0t : isT (callN (fun g => nget fs1 g) 3000 3 (.cons (.q (.inp 3 20 14)) (.cons (.q (.inp 3 16 0)) (.cons (.b true) .nil))) h0) = true := by kernel_rfl
theorem run14x1f : isT (callN (fun g => nget fs1 g) 3000 3 (.cons (.q (.inp 3 20 14)) (.cons (.q (.inp 3 16 1)) (.cons (.b false) .nil))) h0) = true := by kernel_rfl
theorem run14x1t : isT (callN (fun g => nget fs1 g) 3000 3 (.cons (.q (.inp 3 20 14)) (.cons (.q (.inp 3 16 1)) (.cons (.b true) .nil))) h0) = true := by kernel_rfl
theorem run14x2f : isT (callN (fun g => nget fs1 g) 3000 3 (.cons (.q (.inp 3 20 14)) (.cons (.q (.inp 3 16 2)) (.cons (.b false) .nil))) h0) = true := by kernel_rfl
theorem run14x2t : isT (callN (fun g => nget fs1 g) 3000 3 (.cons (.q (.inp 3 20 14)) (.cons (.q (.inp 3 16 2)) (.cons (.b true) .nil))) h0) = true := by kernel_rfl
theorem run14x3f : isT (callN (fun g => nget fs1 g) 3000 3 (.cons (.q (.inp 3 20 14)) (.cons (.q (.inp 3 16 3)) (.cons (.b false) .nil))) h0) = true := by kernel_rfl
theorem run14x3t : isT (callN (fun g => nget fs1 g) 3000 3 (.cons (.q (.inp 3 20 14)) (.cons (.q (.inp 3 16 3)) (.cons (.b true) .nil))) h0) = true := by kernel_rfl
theorem run14x4f : isT (callN (fun g => nget fs1 g) 3000 3 (.cons (.q (.inp 3 20 14)) (.cons (.q (.inp 3 16 4)) (.cons (.b false) .nil))) h0) = true := by kernel_rfl
theorem run14x4t : isT (callN (fun g => nget fs1 g) 3000 3 (.cons (.q (.inp 3 20 14)) (.cons (.q (.inp 3 16 4)) (.cons (.b true) .nil))) h0) = true := by kernel_rfl
theorem run14x5f : isT (callN (fun g => nget fs1 g) 3000 3 (.cons (.q (.inp 3 20 14)) (.cons (.q (.inp 3 16 5)) (.cons (.b false) .nil))) h0) = true := by kernel_rfl
theorem run14x5t : isT (callN (fun g => nget fs1 g) 3000 3 (.cons (.q (.inp 3 20 14)) (.cons (.q (.inp 3 16 5)) (.cons (.b true) .nil))) h0) = true := by kernel_rfl
theorem run14x6f : isT (callN (fun g => nget fs1 g) 3000 3 (.cons (.q (.inp 3 20 14)) (.cons (.q (.inp 3 16 6)) (.cons (.b false) .nil))) h0) = true := by kernel_rfl
end Go.Proofs.YtoenlbemfkedoaaGreatDoor
