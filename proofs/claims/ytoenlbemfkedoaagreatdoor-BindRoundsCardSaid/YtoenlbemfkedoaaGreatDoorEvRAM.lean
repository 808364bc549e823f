/- The law at some of its inputs, as the evaluator reckons it; conditions: none. -/
import Derived.Test.YtoenlbemfkedoaaGreatDoorEvFBindRounds
namespace Go.Proofs.YtoenlbemfkedoaaGreatDoor
open Go Go.Ev
theorem run14x6t : isT (callN (fun g => nget fs1 g) 3000 3 (.cons (.q (.inp 3 20 14)) (.cons (.q (.inp 3 16 6)) (.cons (.b true) .nil))) h0) = true := by kernel_rfl
theorem run14x7f : isT (callN (fun g => nget fs1 g) 3000 3 (.cons (.q (.inp 3 20 14)) (.cons (.q (.inp 3 16 7)) (.cons (.b false) .nil))) h0) = true := by kernel_rfl
theorem run14x7t : isT (callN (fun g => nget fs1 g) 3000 3 (.cons (.q (.inp 3 20 14)) (.cons (.q (.inp 3 16 7)) (.cons (.b true) .nil))) h0) = true := by kernel_rfl
theorem run14x8f : isT (callN (fun g => nget fs1 g) 3000 3 (.cons (.q (.inp 3 20 14)) (.cons (.q (.inp 3 16 8)) (.cons (.b false) .nil))) h0) = true := by kernel_rfl
theorem run14x8t : isT (callN (fun g => nget fs1 g) 3000 3 (.cons (.q (.inp 3 20 14)) (.cons (.q (.inp 3 16 8)) (.cons (.b true) .nil))) h0) = true := by kernel_rfl
theorem run14x9f : isT (callN (fun g => nget fs1 g) 3000 3 (.cons (.q (.inp 3 20 14)) (.cons (.q (.inp 3 16 9)) (.cons (.b false) .nil))) h0) = true := by kernel_rfl
theorem run14x9t : isT (callN (fun g => nget fs1 g) 3000 3 (.cons (.q (.inp 3 20 14)) (.cons (.q (.inp 3 16 9)) (.cons (.b true) .nil))) h0) = true := by kernel_rfl
theorem run14x10f : isT (callN (fun g => nget fs1 g) 3000 3 (.cons (.q (.inp 3 20 14)) (.cons (.q (.inp 3 16 10)) (.cons (.b false) .nil))) h0) = true := by kernel_rfl
theorem run14x10t : isT (callN (fun g => nget fs1 g) 3000 3 (.cons (.q (.inp 3 20 14)) (.cons (.q (.inp 3 16 10)) (.cons (.b true) .nil))) h0) = true := by kernel_rfl
theorem run14x11f : isT (callN (fun g => nget fs1 g) 3000 3 (.cons (.q (.inp 3 20 14)) (.cons (.q (.inp 3 16 11)) (.cons (.b false) .nil))) h0) = true := by kernel_rfl
theorem run14x11t : isT (callN (fun g => nget fs1 g) 3000 3 (.cons (.q (.inp 3 20 14)) (.cons (.q (.inp 3 16 11)) (.cons (.b true) .nil))) h0) = true := by kernel_rfl
theorem run14x12f : isT (callN (fun g => nget fs1 g) 3000 3 (.cons (.q (.inp 3 20 14)) (.cons (.q (.inp 3 16 12)) (.cons (.b false) .nil))) h0) = true := by kernel_rfl
theorem run14x12t : isT (callN (fun g => nget fs1 g) 3000 3 (.cons (.q (.inp 3 20 14)) (.cons (.q (.inp 3 16 12)) (.cons (.b true) .nil))) h0) = true := by kernel_rfl
theorem run14x13f : isT (callN (fun g => nget fs1 g) 3000 3 (.cons (.q (.inp 3 20 14)) (.cons (.q (.inp 3 16 13)) (.cons (.b false) .nil))) h0) = true := by kernel_rfl
end Go.Proofs.YtoenlbemfkedoaaGreatDoor
