/- The law at some of its inputs, as the evaluator reckons it; conditions: none. -/
import Derived.Test.YtoenlbemfkedoaaGreatDoorEvFBindRounds
namespace Go.Proofs.YtoenlbemfkedoaaGreatDoor
open Go Go.Ev
theorem run16x12f : isT (callN (fun g => nget fs1 g) 3000 3 (.cons (.q (.inp 3 20 16)) (.cons (.q (.inp 3 18 12)) (.cons (.b false) .nil))) h0) = true := by kernel_rfl
theorem run16x12t : isT (callN (fun g => nget fs1 g) 3000 3 (.cons (.q (.inp 3 20 16)) (.cons (.q (.inp 3 18 12)) (.cons (.b true) .nil))) h0) = true := by kernel_rfl
theorem run16x13f : isT (callN (fun g => nget fs1 g) 3000 3 (.cons (.q (.inp 3 20 16)) (.cons (.q (.inp 3 18 13)) (.cons (.b false) .nil))) h0) = true := by kernel_rfl
theorem run16x13t : isT (callN (fun g => nget fs1 g) 3000 3 (.cons (.q (.inp 3 20 16)) (.cons (.q (.inp 3 18 13)) (.cons (.b true) .nil))) h0) = true := by kernel_rfl
theorem run16x14f : isT (callN (fun g => nget fs1 g) 3000 3 (.cons (.q (.inp 3 20 16)) (.cons (.q (.inp 3 18 14)) (.cons (.b false) .nil))) h0) = true := by kernel_rfl
theorem run16x14t : isT (callN (fun g => nget fs1 g) 3000 3 (.cons (.q (.inp 3 20 16)) (.cons (.q (.inp 3 18 14)) (.cons (.b true) .nil))) h0) = true := by kernel_rfl
theorem run16x15f : isT (callN (fun g => nget fs1 g) 3000 3 (.cons (.q (.inp 3 20 16)) (.cons (.q (.inp 3 18 15)) (.cons (.b false) .nil))) h0) = true := by kernel_rfl
theorem run16x15t : isT (callN (fun g => nget fs1 g) 3000 3 (.cons (.q (.inp 3 20 16)) (.cons (.q (.inp 3 18 15)) (.cons (.b true) .nil))) h0) = true := by kernel_rfl
theorem run16x16f : isT (callN (fun g => nget fs1 g) 3000 3 (.cons (.q (.inp 3 20 16)) (.cons (.q (.inp 3 18 16)) (.cons (.b false) .nil))) h0) = true := by kernel_rfl
theorem run16x16t : isT (callN (fun g => nget fs1 g) 3000 3 (.cons (.q (.inp 3 20 16)) (.cons (.q (.inp 3 18 16)) (.cons (.b true) .nil))) h0) = true := by kernel_rfl
theorem run16x17f : isT (callN (fun g => nget fs1 g) 3000 3 (.cons (.q (.inp 3 20 16)) (.cons (.q (.inp 3 18 17)) (.cons (.b false) .nil))) h0) = true := by kernel_rfl
theorem run16x17t : isT (callN (fun g => nget fs1 g) 3000 3 (.cons (.q (.inp 3 20 16)) (.cons (.q (.inp 3 18 17)) (.cons (.b true) .nil))) h0) = true := by kernel_rfl
end Go.Proofs.YtoenlbemfkedoaaGreatDoor
