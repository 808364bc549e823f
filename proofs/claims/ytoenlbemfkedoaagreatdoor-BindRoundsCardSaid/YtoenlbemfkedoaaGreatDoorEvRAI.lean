/- The law at some of its inputs, as the evaluator reckons it; conditions: none. -/
import Derived.Test.YtoenlbemfkedoaaGreatDoorEvFBindRounds
namespace Go.Proofs.YtoenlbemfkedoaaGreatDoor
open Go Go.Ev
theorem run12x5t : isT (callN (fun g => nget fs1 g) 3000 3 (.cons (.q (.inp 3 20 12)) (.cons (.q (.inp 3 14 5)) (.cons (.b true) .nil))) h0) = true := by kernel_rfl
theorem run12x6f : isT (callN (fun g => nget fs1 g) 3000 3 (.cons (.q (.inp 3 20 12)) (.cons (.q (.inp 3 14 6)) (.cons (.b false) .nil))) h0) = true := by kernel_rfl
theorem run12x6t : isT (callN (fun g => nget fs1 g) 3000 3 (.cons (.q (.inp 3 20 12)) (.cons (.q (.inp 3 14 6)) (.cons (.b true) .nil))) h0) = true := by kernel_rfl
theorem run12x7f : isT (callN (fun g => nget fs1 g) 3000 3 (.cons (.q (.inp 3 20 12)) (.cons (.q (.inp 3 14 7)) (.cons (.b false) .nil))) h0) = true := by kernel_rfl
theorem run12x7t : isT (callN (fun g => nget fs1 g) 3000 3 (.cons (.q (.inp 3 20 12)) (.cons (.q (.inp 3 14 7)) (.cons (.b true) .nil))) h0) = true := by kernel_rfl
theorem run12x8f : isT (callN (fun g => nget fs1 g) 3000 3 (.cons (.q (.inp 3 20 12)) (.cons (.q (.inp 3 14 8)) (.cons (.b false) .nil))) h0) = true := by kernel_rfl
theorem run12x8t : isT (callN (fun g => nget fs1 g) 3000 3 (.cons (.q (.inp 3 20 12)) (.cons (.q (.inp 3 14 8)) (.cons (.b true) .nil))) h0) = true := by kernel_rfl
theorem run12x9f : isT (callN (fun g => nget fs1 g) 3000 3 (.cons (.q (.inp 3 20 12)) (.cons (.q (.inp 3 14 9)) (.cons (.b false) .nil))) h0) = true := by kernel_rfl
theorem run12x9t : isT (callN (fun g => nget fs1 g) 3000 3 (.cons (.q (.inp 3 20 12)) (.cons (.q (.inp 3 14 9)) (.cons (.b true) .nil))) h0) = true := by kernel_rfl
theorem run12x10f : isT (callN (fun g => nget fs1 g) 3000 3 (.cons (.q (.inp 3 20 12)) (.cons (.q (.inp 3 14 10)) (.cons (.b false) .nil))) h0) = true := by kernel_rfl
theorem run12x10t : isT (callN (fun g => nget fs1 g) 3000 3 (.cons (.q (.inp 3 20 12)) (.cons (.q (.inp 3 14 10)) (.cons (.b true) .nil))) h0) = true := by kernel_rfl
theorem run12x11f : isT (callN (fun g => nget fs1 g) 3000 3 (.cons (.q (.inp 3 20 12)) (.cons (.q (.inp 3 14 11)) (.cons (.b false) .nil))) h0) = true := by kernel_rfl
theorem run12x11t : isT (callN (fun g => nget fs1 g) 3000 3 (.cons (.q (.inp 3 20 12)) (.cons (.q (.inp 3 14 11)) (.cons (.b true) .nil))) h0) = true := by kernel_rfl
theorem run12x12f : isT (callN (fun g => nget fs1 g) 3000 3 (.cons (.q (.inp 3 20 12)) (.cons (.q (.inp 3 14 12)) (.cons (.b false) .nil))) h0) = true := by kernel_rfl
theorem run12x12t : isT (callN (fun g => nget fs1 g) 3000 3 (.cons (.q (.inp 3 20 12)) (.cons (.q (.inp 3 14 12)) (.cons (.b true) .nil))) h0) = true := by kernel_rfl
theorem run12x13f : isT (callN (fun g => nget fs1 g) 3000 3 (.cons (.q (.inp 3 20 12)) (.cons (.q (.inp 3 14 13)) (.cons (.b false) .nil))) h0) = true := by kernel_rfl
end Go.Proofs.YtoenlbemfkedoaaGreatDoor
