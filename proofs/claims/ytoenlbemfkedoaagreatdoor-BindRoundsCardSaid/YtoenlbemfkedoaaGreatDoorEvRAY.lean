/- The law at some of its inputs, as the evaluator reckons it; conditions: none. -/
import Derived.Test.YtoenlbemfkedoaaGreatDoorEvFBindRounds
namespace Go.Proofs.YtoenlbemfkedoaaGreatDoor
open Go Go.Ev
theorem run18x10f : isT (callN (fun g => nget fs1 g) 3000 3 (.cons (.q (.inp 3 20 18)) (.cons (.q (.inp 3 20 10)) (.cons (.b false) .nil))) h0) = true := by kernel_rfl
theorem run18x10t : isT (callN (fun g => nget fs1 g) 3000 3 (.cons (.q (.inp 3 20 18)) (.cons (.q (.inp 3 20 10)) (.cons (.b true) .nil))) h0) = true := by kernel_rfl
theorem run18x11f : isT (callN (fun g => nget fs1 g) 3000 3 (.cons (.q (.inp 3 20 18)) (.cons (.q (.inp 3 20 11)) (.cons (.b false) .nil))) h0) = true := by kernel_rfl
theorem run18x11t : isT (callN (fun g => nget fs1 g) 3000 3 (.cons (.q (.inp 3 20 18)) (.cons (.q (.inp 3 20 11)) (.cons (.b true) .nil))) h0) = true := by kernel_rfl
theorem run18x12f : isT (callN (fun g => nget fs1 g) 3000 3 (.cons (.q (.inp 3 20 18)) (.cons (.q (.inp 3 20 12)) (.cons (.b false) .nil))) h0) = true := by kernel_rfl
theorem run18x12t : isT (callN (fun g => nget fs1 g) 3000 3 (.cons (.q (.inp 3 20 18)) (.cons (.q (.inp 3 20 12)) (.cons (.b true) .nil))) h0) = true := by kernel_rfl
theorem run18x13f : isT (callN (fun g => nget fs1 g) 3000 3 (.cons (.q (.inp 3 20 18)) (.cons (.q (.inp 3 20 13)) (.cons (.b false) .nil))) h0) = true := by kernel_rfl
theorem run18x13t : isT (callN (fun g => nget fs1 g) 3000 3 (.cons (.q (.inp 3 20 18)) (.cons (.q (.inp 3 20 13)) (.cons (.b true) .nil))) h0) = true := by kernel_rfl
theorem run18x14f : isT (callN (fun g => nget fs1 g) 3000 3 (.cons (.q (.inp 3 20 18)) (.cons (.q (.inp 3 20 14)) (.cons (.b false) .nil))) h0) = true := by kernel_rfl
theorem run18x14t : isT (callN (fun g => nget fs1 g) 3000 3 (.cons (.q (.inp 3 20 18)) (.cons (.q (.inp 3 20 14)) (.cons (.b true) .nil))) h0) = true := by kernel_rfl
theorem run18x15f : isT (callN (fun g => nget fs1 g) 3000 3 (.cons (.q (.inp 3 20 18)) (.cons (.q (.inp 3 20 15)) (.cons (.b false) .nil))) h0) = true := by kernel_rfl
end Go.Proofs.YtoenlbemfkedoaaGreatDoor
