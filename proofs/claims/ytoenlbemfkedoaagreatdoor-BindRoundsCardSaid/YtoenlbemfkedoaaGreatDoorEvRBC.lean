/- The law at some of its inputs, as the evaluator reckons it; conditions: none. -/
import Derived.Test.YtoenlbemfkedoaaGreatDoorEvFBindRounds
namespace Go.Proofs.YtoenlbemfkedoaaGreatDoor
open Go Go.Ev
theorem run19x11f : isT (callN (fun g => nget fs1 g) 3000 3 (.cons (.q (.inp 3 20 19)) (.cons (.q (.inp 3 21 11)) (.cons (.b false) .nil))) h0) = true := by kernel_rfl
theorem run19x11t : isT (callN (fun g => nget fs1 g) 3000 3 (.cons (.q (.inp 3 20 19)) (.cons (.q (.inp 3 21 11)) (.cons (.b true) .nil))) h0) = true := by kernel_rfl
theorem run19x12f : isT (callN (fun g => nget fs1 g) 3000 3 (.cons (.q (.inp 3 20 19)) (.cons (.q (.inp 3 21 12)) (.cons (.b false) .nil))) h0) = true := by kernel_rfl
theorem run19x12t : isT (callN (fun g => nget fs1 g) 3000 3 (.cons (.q (.inp 3 20 19)) (.cons (.q (.inp 3 21 12)) (.cons (.b true) .nil))) h0) = true := by kernel_rfl
theorem run19x13f : isT (callN (fun g => nget fs1 g) 3000 3 (.cons (.q (.inp 3 20 19)) (.cons (.q (.inp 3 21 13)) (.cons (.b false) .nil))) h0) = true := by kernel_rfl
theorem run19x13t : isT (callN (fun g => nget fs1 g) 3000 3 (.cons (.q (.inp 3 20 19)) (.cons (.q (.inp 3 21 13)) (.cons (.b true) .nil))) h0) = true := by kernel_rfl
theorem run19x14f : isT (callN (fun g => nget fs1 g) 3000 3 (.cons (.q (.inp 3 20 19)) (.cons (.q (.inp 3 21 14)) (.cons (.b false) .nil))) h0) = true := by kernel_rfl
theorem run19x14t : isT (callN (fun g => nget fs1 g) 3000 3 (.cons (.q (.inp 3 20 19)) (.cons (.q (.inp 3 21 14)) (.cons (.b true) .nil))) h0) = true := by kernel_rfl
theorem run19x15f : isT (callN (fun g => nget fs1 g) 3000 3 (.cons (.q (.inp 3 20 19)) (.cons (.q (.inp 3 21 15)) (.cons (.b false) .nil))) h0) = true := by kernel_rfl
theorem run19x15t : isT (callN (fun g => nget fs1 g) 3000 3 (.cons (.q (.inp 3 20 19)) (.cons (.q (.inp 3 21 15)) (.cons (.b true) .nil))) h0) = true := by kernel_rfl
end Go.Proofs.YtoenlbemfkedoaaGreatDoor
