/- The law at some of its inputs, as the evaluator reckons it; conditions: none. -/
import Derived.Test.YtoenlbemfkedoaaGreatDoorEvFBindRounds
namespace Go.Proofs.YtoenlbemfkedoaaGreatDoor
open Go Go.Ev
theorem run19x6f : isT (callN (fun g => nget fs1 g) 3000 3 (.cons (.q (.inp 3 20 19)) (.cons (.q (.inp 3 21 6)) (.cons (.b false) .nil))) h0) = true := by kernel_rfl
theorem run19x6t : isT (callN (fun g => nget fs1 g) 3000 3 (.cons (.q (.inp 3 20 19)) (.cons (.q (.inp 3 21 6)) (.cons (.b true) .nil))) h0) = true := by kernel_rfl
theorem run19x7f : isT (callN (fun g => nget fs1 g) 3000 3 (.cons (.q (.inp 3 20 19)) (.cons (.q (.inp 3 21 7)) (.cons (.b false) .nil))) h0) = true := by kernel_rfl
theorem run19x7t : isT (callN (fun g => nget fs1 g) 3000 3 (.cons (.q (.inp 3 20 19)) (.cons (.q (.inp 3 21 7)) (.cons (.b true) .nil))) h0) = true := by kernel_rfl
theorem run19x8f : isT (callN (fun g => nget fs1 g) 3000 3 (.cons (.q (.inp 3 20 19)) (.cons (.q (.inp 3 21 8)) (.cons (.b false) .nil))) h0) = true := by kernel_rfl
theorem run19x8t : isT (callN (fun g => nget fs1 g) 3000 3 (.cons (.q (.inp 3 20 19)) (.cons (.q (.inp 3 21 8)) (.cons (.b true) .nil))) h0) = true := by kernel_rfl
theorem run19x9f : isT (callN (fun g => nget fs1 g) 3000 3 (.cons (.q (.inp 3 20 19)) (.cons (.q (.inp 3 21 9)) (.cons (.b false) .nil))) h0) = true := by kernel_rfl
theorem run19x9t : isT (callN (fun g => nget fs1 g) 3000 3 (.cons (.q (.inp 3 20 19)) (.cons (.q (.inp 3 21 9)) (.cons (.b true) .nil))) h0) = true := by kernel_rfl
theorem run19x10f : isT (callN (fun g => nget fs1 g) 3000 3 (.cons (.q (.inp 3 20 19)) (.cons (.q (.inp 3 21 10)) (.cons (.b false) .nil))) h0) = true := by kernel_rfl
theorem run19x10t : isT (callN (fun g => nget fs1 g) 3000 3 (.cons (.q (.inp 3 20 19)) (.cons (.q (.inp 3 21 10)) (.cons (.b true) .nil))) h0) = true := by kernel_rfl
end Go.Proofs.YtoenlbemfkedoaaGreatDoor
