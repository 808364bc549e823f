/- The law at some of its inputs, as the evaluator reckons it; conditions: none. -/
import Derived.Test.YtoenlbemfkedoaaGreatDoorEvFBindRounds
namespace Go.Proofs.YtoenlbemfkedoaaGreatDoor
open Go Go.Ev
theorem run11x2f : isT (callN (fun g => nget fs1 g) 3000 3 (.cons (.q (.inp 3 20 11)) (.cons (.q (.inp 3 13 2)) (.cons (.b false) .nil))) h0) = true := by kernel_rfl
theorem run11x2t : isT (callN (fun g => nget fs1 g) 3000 3 (.cons (.q (.inp 3 20 11)) (.cons (.q (.inp 3 13 2)) (.cons (.b true) .nil))) h0) = true := by kernel_rfl
theorem run11x3f : isT (callN (fun g => nget fs1 g) 3000 3 (.cons (.q (.inp 3 20 11)) (.cons (.q (.inp 3 13 3)) (.cons (.b false) .nil))) h0) = true := by kernel_rfl
theorem run11x3t : isT (callN (fun g => nget fs1 g) 3000 3 (.cons (.q (.inp 3 20 11)) (.cons (.q (.inp 3 13 3)) (.cons (.b true) .nil))) h0) = true := by kernel_rfl
theorem run11x4f : isT (callN (fun g => nget fs1 g) 3000 3 (.cons (.q (.inp 3 20 11)) (.cons (.q (.inp 3 13 4)) (.cons (.b false) .nil))) h0) = true := by kernel_rfl
theorem run11x4t : isT (callN (fun g => nget fs1 g) 3000 3 (.cons (.q (.inp 3 20 11)) (.cons (.q (.inp 3 13 4)) (.cons (.b true) .nil))) h0) = true := by kernel_rfl
theorem run11x5f : isT (callN (fun g => nget fs1 g) 3000 3 (.cons (.q (.inp 3 20 11)) (.cons (.q (.inp 3 13 5)) (.cons (.b false) .nil))) h0) = true := by kernel_rfl
theorem run11x5t : isT (callN (fun g => nget fs1 g) 3000 3 (.cons (.q (.inp 3 20 11)) (.cons (.q (.inp 3 13 5)) (.cons (.b true) .nil))) h0) = true := by kernel_rfl
theorem run11x6f : isT (callN (fun g => nget fs1 g) 3000 3 (.cons (.q (.inp 3 20 11)) (.cons (.q (.inp 3 13 6)) (.cons (.b false) .nil))) h0) = true := by kernel_rfl
theorem run11x6t : isT (callN (fun g => nget fs1 g) 3000 3 (.cons (.q (.inp 3 20 11)) (.cons (.q (.inp 3 13 6)) (.cons (.b true) .nil))) h0) = true := by kernel_rfl
theorem run11x7f : isT (callN (fun g => nget fs1 g) 3000 3 (.cons (.q (.inp 3 20 11)) (.cons (.q (.inp 3 13 7)) (.cons (.b false) .nil))) h0) = true := by kernel_rfl
theorem run11x7t : isT (callN (fun g => nget fs1 g) 3000 3 (.cons (.q (.inp 3 20 11)) (.cons (.q (.inp 3 13 7)) (.cons (.b true) .nil))) h0) = true := by kernel_rfl
theorem run11x8f : isT (callN (fun g => nget fs1 g) 3000 3 (.cons (.q (.inp 3 20 11)) (.cons (.q (.inp 3 13 8)) (.cons (.b false) .nil))) h0) = true := by kernel_rfl
theorem run11x8t : isT (callN (fun g => nget fs1 g) 3000 3 (.cons (.q (.inp 3 20 11)) (.cons (.q (.inp 3 13 8)) (.cons (.b true) .nil))) h0) = true := by kernel_rfl
theorem run11x9f : isT (callN (fun g => nget fs1 g) 3000 3 (.cons (.q (.inp 3 20 11)) (.cons (.q (.inp 3 13 9)) (.cons (.b false) .nil))) h0) = true := by kernel_rfl
theorem run11x9t : isT (callN (fun g => nget fs1 g) 3000 3 (.cons (.q (.inp 3 20 11)) (.cons (.q (.inp 3 13 9)) (.cons (.b true) .nil))) h0) = true := by kernel_rfl
theorem run11x10f : isT (callN (fun g => nget fs1 g) 3000 3 (.cons (.q (.inp 3 20 11)) (.cons (.q (.inp 3 13 10)) (.cons (.b false) .nil))) h0) = true := by kernel_rfl
end Go.Proofs.YtoenlbemfkedoaaGreatDoor
