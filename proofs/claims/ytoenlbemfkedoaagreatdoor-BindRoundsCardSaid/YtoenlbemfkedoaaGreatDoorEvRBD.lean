/- The law at some of its inputs, as the evaluator reckons it; conditions: none. -/
import Derived.Test.YtoenlbemfkedoaaGreatDoorEvFBindRounds
namespace Go.Proofs.YtoenlbemfkedoaaGreatDoor
open Go Go.Ev
theorem run19x16f : isT (callN (fun g => nget fs1 g) 3000 3 (.cons (.q (.inp 3 20 19)) (.cons (.q (.inp 3 21 16)) (.cons (.b false) .nil))) h0) = true := by kernel_rfl
theorem run19x16t : isT (callN (fun g => nget fs1 g) 3000 3 (.cons (.q (.inp 3 20 19)) (.cons (.q (.inp 3 21 16)) (.cons (.b true) .nil))) h0) = true := by kernel_rfl
theorem run19x17f : isT (callN (fun g => nget fs1 g) 3000 3 (.cons (.q (.inp 3 20 19)) (.cons (.q (.inp 3 21 17)) (.cons (.b false) .nil))) h0) = true := by kernel_rfl
theorem run19x17t : isT (callN (fun g => nget fs1 g) 3000 3 (.cons (.q (.inp 3 20 19)) (.cons (.q (.inp 3 21 17)) (.cons (.b true) .nil))) h0) = true := by kernel_rfl
theorem run19x18f : isT (callN (fun g => nget fs1 g) 3000 3 (.cons (.q (.inp 3 20 19)) (.cons (.q (.inp 3 21 18)) (.cons (.b false) .nil))) h0) = true := by kernel_rfl
theorem run19x18t : isT (callN (fun g => nget fs1 g) 3000 3 (.cons (.q (.inp 3 20 19)) (.cons (.q (.inp 3 21 18)) (.cons (.b true) .nil))) h0) = true := by kernel_rfl
theorem run19x19f : isT (callN (fun g => nget fs1 g) 3000 3 (.cons (.q (.inp 3 20 19)) (.cons (.q (.inp 3 21 19)) (.cons (.b false) .nil))) h0) = true := by kernel_rfl
theorem run19x19t : isT (callN (fun g => nget fs1 g) 3000 3 (.cons (.q (.inp 3 20 19)) (.cons (.q (.inp 3 21 19)) (.cons (.b true) .nil))) h0) = true := by kernel_rfl
theorem run19x20f : isT (callN (fun g => nget fs1 g) 3000 3 (.cons (.q (.inp 3 20 19)) (.cons (.q (.inp 3 21 20)) (.cons (.b false) .nil))) h0) = true := by kernel_rfl
theorem run19x20t : isT (callN (fun g => nget fs1 g) 3000 3 (.cons (.q (.inp 3 20 19)) (.cons (.q (.inp 3 21 20)) (.cons (.b true) .nil))) h0) = true := by kernel_rfl
end Go.Proofs.YtoenlbemfkedoaaGreatDoor
