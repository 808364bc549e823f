/- The law at some of its inputs, as the evaluator reckons it; conditions: none. -/
import Derived.Test.YtoenlbemfkedoaaGreatDoorEvFBindRounds
namespace Go.Proofs.YtoenlbemfkedoaaGreatDoor
open Go Go.Ev
theorem run18x15t : isT (callN (fun g => nget fs1 g) 3000 3 (.cons (.q (.inp 3 20 18)) (.cons (.q (.inp 3 20 15)) (.cons (.b true) .nil))) h0) = true := by kernel_rfl
theorem run18x16f : isT (callN (fun g => nget fs1 g) 3000 3 (.cons (.q (.inp 3 20 18)) (.cons (.q (.inp 3 20 16)) (.cons (.b false) .nil))) h0) = true := by kernel_rfl
theorem run18x16t : isT (callN (fun g => nget fs1 g) 3000 3 (.cons (.q (.inp 3 20 18)) (.cons (.q (.inp 3 20 16)) (.cons (.b true) .nil))) h0) = true := by kernel_rfl
theorem run18x17f : isT (callN (fun g => nget fs1 g) 3000 3 (.cons (.q (.inp 3 20 18)) (.cons (.q (.inp 3 20 17)) (.cons (.b false) .nil))) h0) = true := by kernel_rfl
theorem run18x17t : isT (callN (fun g => nget fs1 g) 3000 3 (.cons (.q (.inp 3 20 18)) (.cons (.q (.inp 3 20 17)) (.cons (.b true) .nil))) h0) = true := by kernel_rfl
theorem run18x18f : isT (callN (fun g => nget fs1 g) 3000 3 (.cons (.q (.inp 3 20 18)) (.cons (.q (.inp 3 20 18)) (.cons (.b false) .nil))) h0) = true := by kernel_rfl
theorem run18x18t : isT (callN (fun g => nget fs1 g) 3000 3 (.cons (.q (.inp 3 20 18)) (.cons (.q (.inp 3 20 18)) (.cons (.b true) .nil))) h0) = true := by kernel_rfl
theorem run18x19f : isT (callN (fun g => nget fs1 g) 3000 3 (.cons (.q (.inp 3 20 18)) (.cons (.q (.inp 3 20 19)) (.cons (.b false) .nil))) h0) = true := by kernel_rfl
theorem run18x19t : isT (callN (fun g => nget fs1 g) 3000 3 (.cons (.q (.inp 3 20 18)) (.cons (.q (.inp 3 20 19)) (.cons (.b true) .nil))) h0) = true := by kernel_rfl
theorem run19x0f : isT (callN (fun g => nget fs1 g) 3000 3 (.cons (.q (.inp 3 20 19)) (.cons (.q (.inp 3 21 0)) (.cons (.b false) .nil))) h0) = true := by kernel_rfl
theorem run19x0t : isT (callN (fun g => nget fs1 g) 3000 3 (.cons (.q (.inp 3 20 19)) (.cons (.q (.inp 3 21 0)) (.cons (.b true) .nil))) h0) = true := by kernel_rfl
end Go.Proofs.YtoenlbemfkedoaaGreatDoor
