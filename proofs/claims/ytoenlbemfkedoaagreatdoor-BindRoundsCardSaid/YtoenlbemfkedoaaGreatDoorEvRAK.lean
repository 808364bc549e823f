/- The law at some of its inputs, as the evaluator reckons it; conditions: none. -/
import Derived.Test.YtoenlbemfkedoaaGreatDoorEvFBindRounds
namespace Go.Proofs.YtoenlbemfkedoaaGreatDoor
open Go Go.Ev
theorem run13x7f : isT (callN (fun g => nget fs1 g) 3000 3 (.cons (.q (.inp 3 20 13)) (.cons (.q (.inp 3 15 7)) (.cons (.b false) .nil))) h0) = true := by kernel_rfl
theorem run13x7t : isT (callN (fun g => nget fs1 g) 3000 3 (.cons (.q (.inp 3 20 13)) (.cons (.q (.inp 3 15 7)) (.cons (.b true) .nil))) h0) = true := by kernel_rfl
theorem run13x8f : isT (callN (fun g => nget fs1 g) 3000 3 (.cons (.q (.inp 3 20 13)) (.cons (.q (.inp 3 15 8)) (.cons (.b false) .nil))) h0) = true := by kernel_rfl
theorem run13x8t : isT (callN (fun g => nget fs1 g) 3000 3 (.cons (.q (.inp 3 20 13)) (.cons (.q (.inp 3 15 8)) (.cons (.b true) .nil))) h0) = true := by kernel_rfl
theorem run13x9f : isT (callN (fun g => nget fs1 g) 3000 3 (.cons (.q (.inp 3 20 13)) (.cons (.q (.inp 3 15 9)) (.cons (.b false) .nil))) h0) = true := by kernel_rfl
theorem run13x9t : isT (callN (fun g => nget fs1 g) 3000 3 (.cons (.q (.inp 3 20 13)) (.cons (.q (.inp 3 15 9)) (.cons (.b true) .nil))) h0) = true := by kernel_rfl
theorem run13x10f : isT (callN (fun g => nget fs1 g) 3000 3 (.cons (.q (.inp 3 20 13)) (.cons (.q (.inp 3 15 10)) (.cons (.b false) .nil))) h0) = true := by kernel_rfl
theorem run13x10t : isT (callN (fun g => nget fs1 g) 3000 3 (.cons (.q (.inp 3 20 13)) (.cons (.q (.inp 3 15 10)) (.cons (.b true) .nil))) h0) = true := by kernel_rfl
theorem run13x11f : isT (callN (fun g => nget fs1 g) 3000 3 (.cons (.q (.inp 3 20 13)) (.cons (.q (.inp 3 15 11)) (.cons (.b false) .nil))) h0) = true := by kernel_rfl
theorem run13x11t : isT (callN (fun g => nget fs1 g) 3000 3 (.cons (.q (.inp 3 20 13)) (.cons (.q (.inp 3 15 11)) (.cons (.b true) .nil))) h0) = true := by kernel_rfl
theorem run13x12f : isT (callN (fun g => nget fs1 g) 3000 3 (.cons (.q (.inp 3 20 13)) (.cons (.q (.inp 3 15 12)) (.cons (.b false) .nil))) h0) = true := by kernel_rfl
theorem run13x12t : isT (callN (fun g => nget fs1 g) 3000 3 (.cons (.q (.inp 3 20 13)) (.cons (.q (.inp 3 15 12)) (.cons (.b true) .nil))) h0) = true := by kernel_rfl
theorem run13x13f : isT (callN (fun g => nget fs1 g) 3000 3 (.cons (.q (.inp 3 20 13)) (.cons (.q (.inp 3 15 13)) (.cons (.b false) .nil))) h0) = true := by kernel_rfl
theorem run13x13t : isT (callN (fun g => nget fs1 g) 3000 3 (.cons (.q (.inp 3 20 13)) (.cons (.q (.inp 3 15 13)) (.cons (.b true) .nil))) h0) = true := by kernel_rfl
theorem run13x14f : isT (callN (fun g => nget fs1 g) 3000 3 (.cons (.q (.inp 3 20 13)) (.cons (.q (.inp 3 15 14)) (.cons (.b false) .nil))) h0) = true := by kernel_rfl
end Go.Proofs.YtoenlbemfkedoaaGreatDoor
