/- The law at some of its inputs, as the evaluator reckons it; conditions: none. -/
import Derived.Test.YtoenlbemfkedoaaGreatDoorEvFBindRounds
namespace Go.Proofs.YtoenlbemfkedoaaGreatDoor
open Go Go.Ev
theorem run17x12f : isT (callN (fun g => nget fs1 g) 3000 3 (.cons (.q (.inp 3 20 17)) (.cons (.q (.inp 3 19 12)) (.cons (.b false) .nil))) h0) = true := by kernel_rfl
theorem run17x12t : isT (callN (fun g => nget fs1 g) 3000 3 (.cons (.q (.inp 3 20 17)) (.cons (.q (.inp 3 19 12)) (.cons (.b true) .nil))) h0) = true := by kernel_rfl
theorem run17x13f : isT (callN (fun g => nget fs1 g) 3000 3 (.cons (.q (.inp 3 20 17)) (.cons (.q (.inp 3 19 13)) (.cons (.b false) .nil))) h0) = true := by kernel_rfl
theorem run17x13t : isT (callN (fun g => nget fs1 g) 3000 3 (.cons (.q (.inp 3 20 17)) (.cons (.q (.inp 3 19 13)) (.cons (.b true) .nil))) h0) = true := by kernel_rfl
theorem run17x14f : isT (callN (fun g => nget fs1 g) 3000 3 (.cons (.q (.inp 3 20 17)) (.cons (.q (.inp 3 19 14)) (.cons (.b false) .nil))) h0) = true := by kernel_rfl
theorem run17x14t : isT (callN (fun g => nget fs1 g) 3000 3 (.cons (.q (.inp 3 20 17)) (.cons (.q (.inp 3 19 14)) (.cons (.b true) .nil))) h0) = true := by kernel_rfl
theorem run17x15f : isT (callN (fun g => nget fs1 g) 3000 3 (.cons (.q (.inp 3 20 17)) (.cons (.q (.inp 3 19 15)) (.cons (.b false) .nil))) h0) = true := by kernel_rfl
theorem run17x15t : isT (callN (fun g => nget fs1 g) 3000 3 (.cons (.q (.inp 3 20 17)) (.cons (.q (.inp 3 19 15)) (.cons (.b true) .nil))) h0) = true := by kernel_rfl
theorem run17x16f : isT (callN (fun g => nget fs1 g) 3000 3 (.cons (.q (.inp 3 20 17)) (.cons (.q (.inp 3 19 16)) (.cons (.b false) .nil))) h0) = true := by kernel_rfl
theorem run17x16t : isT (callN (fun g => nget fs1 g) 3000 3 (.cons (.q (.inp 3 20 17)) (.cons (.q (.inp 3 19 16)) (.cons (.b true) .nil))) h0) = true := by kernel_rfl
theorem run17x17f : isT (callN (fun g => nget fs1 g) 3000 3 (.cons (.q (.inp 3 20 17)) (.cons (.q (.inp 3 19 17)) (.cons (.b false) .nil))) h0) = true := by kernel_rfl
theorem run17x17t : isT (callN (fun g => nget fs1 g) 3000 3 (.cons (.q (.inp 3 20 17)) (.cons (.q (.inp 3 19 17)) (.cons (.b true) .nil))) h0) = true := by kernel_rfl
end Go.Proofs.YtoenlbemfkedoaaGreatDoor
