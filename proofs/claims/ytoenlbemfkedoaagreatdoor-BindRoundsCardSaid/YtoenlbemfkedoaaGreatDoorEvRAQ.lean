/- The law at some of its inputs, as the evaluator reckons it; conditions: none. -/
import Derived.Test.YtoenlbemfkedoaaGreatDoorEvFBindRounds
namespace Go.Proofs.YtoenlbemfkedoaaGreatDoor
open Go Go.Ev
theorem run16x0f : isT (callN (fun g => nget fs1 g) 3000 3 (.cons (.q (.inp 3 20 16)) (.cons (.q (.inp 3 18 0)) (.cons (.b false) .nil))) h0) = true := by kernel_rfl
theorem run16x0t : isT (callN (fun g => nget fs1 g) 3000 3 (.cons (.q (.inp 3 20 16)) (.cons (.q (.inp 3 18 0)) (.cons (.b true) .nil))) h0) = true := by kernel_rfl
theorem run16x1f : isT (callN (fun g => nget fs1 g) 3000 3 (.cons (.q (.inp 3 20 16)) (.cons (.q (.inp 3 18 1)) (.cons (.b false) .nil))) h0) = true := by kernel_rfl
theorem run16x1t : isT (callN (fun g => nget fs1 g) 3000 3 (.cons (.q (.inp 3 20 16)) (.cons (.q (.inp 3 18 1)) (.cons (.b true) .nil))) h0) = true := by kernel_rfl
theorem run16x2f : isT (callN (fun g => nget fs1 g) 3000 3 (.cons (.q (.inp 3 20 16)) (.cons (.q (.inp 3 18 2)) (.cons (.b false) .nil))) h0) = true := by kernel_rfl
theorem run16x2t : isT (callN (fun g => nget fs1 g) 3000 3 (.cons (.q (.inp 3 20 16)) (.cons (.q (.inp 3 18 2)) (.cons (.b true) .nil))) h0) = true := by kernel_rfl
theorem run16x3f : isT (callN (fun g => nget fs1 g) 3000 3 (.cons (.q (.inp 3 20 16)) (.cons (.q (.inp 3 18 3)) (.cons (.b false) .nil))) h0) = true := by kernel_rfl
theorem run16x3t : isT (callN (fun g => nget fs1 g) 3000 3 (.cons (.q (.inp 3 20 16)) (.cons (.q (.inp 3 18 3)) (.cons (.b true) .nil))) h0) = true := by kernel_rfl
theorem run16x4f : isT (callN (fun g => nget fs1 g) 3000 3 (.cons (.q (.inp 3 20 16)) (.cons (.q (.inp 3 18 4)) (.cons (.b false) .nil))) h0) = true := by kernel_rfl
theorem run16x4t : isT (callN (fun g => nget fs1 g) 3000 3 (.cons (.q (.inp 3 20 16)) (.cons (.q (.inp 3 18 4)) (.cons (.b true) .nil))) h0) = true := by kernel_rfl
theorem run16x5f : isT (callN (fun g => nget fs1 g) 3000 3 (.cons (.q (.inp 3 20 16)) (.cons (.q (.inp 3 18 5)) (.cons (.b false) .nil))) h0) = true := by kernel_rfl
theorem run16x5t : isT (callN (fun g => nget fs1 g) 3000 3 (.cons (.q (.inp 3 20 16)) (.cons (.q (.inp 3 18 5)) (.cons (.b true) .nil))) h0) = true := by kernel_rfl
end Go.Proofs.YtoenlbemfkedoaaGreatDoor
