/- The law at some of its inputs, as the evaluator reckons it; conditions: none. -/
import Derived.Test.YtoenlbemfkedoaaGreatDoorEvFBindRounds
namespace Go.Proofs.YtoenlbemfkedoaaGreatDoor
open Go Go.Ev
theorem run10x5f : isT (callN (fun g => nget fs1 g) 3000 3 (.cons (.q (.inp 3 20 10)) (.cons (.q (.inp 3 12 5)) (.cons (.b false) .nil))) h0) = true := by kernel_rfl
theorem run10x5t : isT (callN (fun g => nget fs1 g) 3000 3 (.cons (.q (.inp 3 20 10)) (.cons (.q (.inp 3 12 5)) (.cons (.b true) .nil))) h0) = true := by kernel_rfl
theorem run10x6f : isT (callN (fun g => nget fs1 g) 3000 3 (.cons (.q (.inp 3 20 10)) (.cons (.q (.inp 3 12 6)) (.cons (.b false) .nil))) h0) = true := by kernel_rfl
theorem run10x6t : isT (callN (fun g => nget fs1 g) 3000 3 (.cons (.q (.inp 3 20 10)) (.cons (.q (.inp 3 12 6)) (.cons (.b true) .nil))) h0) = true := by kernel_rfl
theorem run10x7f : isT (callN (fun g => nget fs1 g) 3000 3 (.cons (.q (.inp 3 20 10)) (.cons (.q (.inp 3 12 7)) (.cons (.b false) .nil))) h0) = true := by kernel_rfl
theorem run10x7t : isT (callN (fun g => nget fs1 g) 3000 3 (.cons (.q (.inp 3 20 10)) (.cons (.q (.inp 3 12 7)) (.cons (.b true) .nil))) h0) = true := by kernel_rfl
theorem run10x8f : isT (callN (fun g => nget fs1 g) 3000 3 (.cons (.q (.inp 3 20 10)) (.cons (.q (.inp 3 12 8)) (.cons (.b false) .nil))) h0) = true := by kernel_rfl
theorem run10x8t : isT (callN (fun g => nget fs1 g) 3000 3 (.cons (.q (.inp 3 20 10)) (.cons (.q (.inp 3 12 8)) (.cons (.b true) .nil))) h0) = true := by kernel_rfl
theorem run10x9f : isT (callN (fun g => nget fs1 g) 3000 3 (.cons (.q (.inp 3 20 10)) (.cons (.q (.inp 3 12 9)) (.cons (.b false) .nil))) h0) = true := by kernel_rfl
theorem run10x9t : isT (callN (fun g => nget fs1 g) 3000 3 (.cons (.q (.inp 3 20 10)) (.cons (.q (.inp 3 12 9)) (.cons (.b true) .nil))) h0) = true := by kernel_rfl
theorem run10x10f : isT (callN (fun g => nget fs1 g) 3000 3 (.cons (.q (.inp 3 20 10)) (.cons (.q (.inp 3 12 10)) (.cons (.b false) .nil))) h0) = true := by kernel_rfl
theorem run10x10t : isT (callN (fun g => nget fs1 g) 3000 3 (.cons (.q (.inp 3 20 10)) (.cons (.q (.inp 3 12 10)) (.cons (.b true) .nil))) h0) = true := by kernel_rfl
theorem run10x11f : isT (callN (fun g => nget fs1 g) 3000 3 (.cons (.q (.inp 3 20 10)) (.cons (.q (.inp 3 12 11)) (.cons (.b false) .nil))) h0) = true := by kernel_rfl
theorem run10x11t : isT (callN (fun g => nget fs1 g) 3000 3 (.cons (.q (.inp 3 20 10)) (.cons (.q (.inp 3 12 11)) (.cons (.b true) .nil))) h0) = true := by kernel_rfl
theorem run11x0f : isT (callN (fun g => nget fs1 g) 3000 3 (.cons (.q (.inp 3 20 11)) (.cons (.q (.inp 3 13 0)) (.cons (.b false) .nil))) h0) = true := by kernel_rfl
theorem run11x0t : isT (callN (fun g => nget fs1 g) 3000 3 (.cons (.q (.inp 3 20 11)) (.cons (.q (.inp 3 13 0)) (.cons (.b true) .nil))) h0) = true := by kernel_rfl
theorem run11x1f : isT (callN (fun g => nget fs1 g) 3000 3 (.cons (.q (.inp 3 20 11)) (.cons (.q (.inp 3 13 1)) (.cons (.b false) .nil))) h0) = true := by kernel_rfl
theorem run11x1t : isT (callN (fun g => nget fs1 g) 3000 3 (.cons (.q (.inp 3 20 11)) (.cons (.q (.inp 3 13 1)) (.cons (.b true) .nil))) h0) = true := by kernel_rfl
end Go.Proofs.YtoenlbemfkedoaaGreatDoor
