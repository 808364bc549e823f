/- The law at some of its inputs, as the evaluator reckons it; conditions: none. -/
import Derived.Test.YtoenlbemfkedoaaGreatDoorEvFBindRounds
namespace Go.Proofs.YtoenlbemfkedoaaGreatDoor
open Go Go.Ev
theorem run17x6f : isT (callN (fun g => nget fs1 g) 3000 3 (.cons (.q (.inp 3 20 17)) (.cons (.q (.inp 3 19 6)) (.cons (.b false) .nil))) h0) = true := by kernel_rfl
theorem run17x6t : isT (callN (fun g => nget fs1 g) 3000 3 (.cons (.q (.inp 3 20 17)) (.cons (.q (.inp 3 19 6)) (.cons (.b true) .nil))) h0) = true := by kernel_rfl
theorem run17x7f : isT (callN (fun g => nget fs1 g) 3000 3 (.cons (.q (.inp 3 20 17)) (.cons (.q (.inp 3 19 7)) (.cons (.b false) .nil))) h0) = true := by kernel_rfl
theorem run17x7t : isT (callN (fun g => nget fs1 g) 3000 3 (.cons (.q (.inp 3 20 17)) (.cons (.q (.inp 3 19 7)) (.cons (.b true) .nil))) h0) = true := by kernel_rfl
theorem run17x8f : isT (callN (fun g => nget fs1 g) 3000 3 (.cons (.q (.inp 3 20 17)) (.cons (.q (.inp 3 19 8)) (.cons (.b false) .nil))) h0) = true := by kernel_rfl
theorem run17x8t : isT (callN (fun g => nget fs1 g) 3000 3 (.cons (.q (.inp 3 20 17)) (.cons (.q (.inp 3 19 8)) (.cons (.b true) .nil))) h0) = true := by kernel_rfl
theorem run17x9f : isT (callN (fun g => nget fs1 g) 3000 3 (.cons (.q (.inp 3 20 17)) (.cons (.q (.inp 3 19 9)) (.cons (.b false) .nil))) h0) = true := by kernel_rfl
theorem run17x9t : isT (callN (fun g => nget fs1 g) 3000 3 (.cons (.q (.inp 3 20 17)) (.cons (.q (.inp 3 19 9)) (.cons (.b true) .nil))) h0) = true := by kernel_rfl
theorem run17x10f : isT (callN (fun g => nget fs1 g) 3000 3 (.cons (.q (.inp 3 20 17)) (.cons (.q (.inp 3 19 10)) (.cons (.b false) .nil))) h0) = true := by kernel_rfl
theorem run17x10t : isT (callN (fun g => nget fs1 g) 3000 3 (.cons (.q (.inp 3 20 17)) (.cons (.q (.inp 3 19 10)) (.cons (.b true) .nil))) h0) = true := by kernel_rfl
theorem run17x11f : isT (callN (fun g => nget fs1 g) 3000 3 (.cons (.q (.inp 3 20 17)) (.cons (.q (.inp 3 19 11)) (.cons (.b false) .nil))) h0) = true := by kernel_rfl
theorem run17x11t : isT (callN (fun g => nget fs1 g) 3000 3 (.cons (.q (.inp 3 20 17)) (.cons (.q (.inp 3 19 11)) (.cons (.b true) .nil))) h0) = true := by kernel_rfl
end Go.Proofs.YtoenlbemfkedoaaGreatDoor
