/- The law at some of its inputs, as the evaluator reckons it; conditions: none. -/
import Derived.Test.YtoenlbemfkedoaaGreatDoorEvFBindRounds
namespace Go.Proofs.YtoenlbemfkedoaaGreatDoor
open Go Go.Ev
theorem run17x0f : isT (callN (fun g => nget fs1 g) 3000 3 (.cons (.q (.inp 3 20 17)) (.cons (.q (.inp 3 19 0)) (.cons (.b false) .nil))) h0) = true := by kernel_rfl
theorem run17x0t : isT (callN (fun g => nget fs1 g) 3000 3 (.cons (.q (.inp 3 20 17)) (.cons (.q (.inp 3 19 0)) (.cons (.b true) .nil))) h0) = true := by kernel_rfl
theorem run17x1f : isT (callN (fun g => nget fs1 g) 3000 3 (.cons (.q (.inp 3 20 17)) (.cons (.q (.inp 3 19 1)) (.cons (.b false) .nil))) h0) = true := by kernel_rfl
theorem run17x1t : isT (callN (fun g => nget fs1 g) 3000 3 (.cons (.q (.inp 3 20 17)) (.cons (.q (.inp 3 19 1)) (.cons (.b true) .nil))) h0) = true := by kernel_rfl
theorem run17x2f : isT (callN (fun g => nget fs1 g) 3000 3 (.cons (.q (.inp 3 20 17)) (.cons (.q (.inp 3 19 2)) (.cons (.b false) .nil))) h0) = true := by kernel_rfl
theorem run17x2t : isT (callN (fun g => nget fs1 g) 3000 3 (.cons (.q (.inp 3 20 17)) (.cons (.q (.inp 3 19 2)) (.cons (.b true) .nil))) h0) = true := by kernel_rfl
theorem run17x3f : isT (callN (fun g => nget fs1 g) 3000 3 (.cons (.q (.inp 3 20 17)) (.cons (.q (.inp 3 19 3)) (.cons (.b false) .nil))) h0) = true := by kernel_rfl
theorem run17x3t : isT (callN (fun g => nget fs1 g) 3000 3 (.cons (.q (.inp 3 20 17)) (.cons (.q (.inp 3 19 3)) (.cons (.b true) .nil))) h0) = true := by kernel_rfl
theorem run17x4f : isT (callN (fun g => nget fs1 g) 3000 3 (.cons (.q (.inp 3 20 17)) (.cons (.q (.inp 3 19 4)) (.cons (.b false) .nil))) h0) = true := by kernel_rfl
theorem run17x4t : isT (callN (fun g => nget fs1 g) 3000 3 (.cons (.q (.inp 3 20 17)) (.cons (.q (.inp 3 19 4)) (.cons (.b true) .nil))) h0) = true := by kernel_rfl
theorem run17x5f : isT (callN (fun g => nget fs1 g) 3000 3 (.cons (.q (.inp 3 20 17)) (.cons (.q (.inp 3 19 5)) (.cons (.b false) .nil))) h0) = true := by kernel_rfl
theorem run17x5t : isT (callN (fun g => nget fs1 g) 3000 3 (.cons (.q (.inp 3 20 17)) (.cons (.q (.inp 3 19 5)) (.cons (.b true) .nil))) h0) = true := by kernel_rfl
end Go.Proofs.YtoenlbemfkedoaaGreatDoor
