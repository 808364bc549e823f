/- The law at some of its inputs, as the evaluator reckons it; conditions: none. -/
import Derived.Test.YtoenlbemfkedoaaGreatDoorEvFBindRounds
namespace Go.Proofs.YtoenlbemfkedoaaGreatDoor
open Go Go.Ev
theorem run19x1f : isT (callN (fun g => nget fs1 g) 3000 3 (.cons (.q (.inp 3 20 19)) (.cons (.q (.inp 3 21 1)) (.cons (.b false) .nil))) h0) = true := by kernel_rfl
theorem run19x1t : isT (callN (fun g => nget fs1 g) 3000 3 (.cons (.q (.inp 3 20 19)) (.cons (.q (.inp 3 21 1)) (.cons (.b true) .nil))) h0) = true := by kernel_rfl
theorem run19x2f : isT (callN (fun g => nget fs1 g) 3000 3 (.cons (.q (.inp 3 20 19)) (.cons (.q (.inp 3 21 2)) (.cons (.b false) .nil))) h0) = true := by kernel_rfl
theorem run19x2t : isT (callN (fun g => nget fs1 g) 3000 3 (.cons (.q (.inp 3 20 19)) (.cons (.q (.inp 3 21 2)) (.cons (.b true) .nil))) h0) = true := by kernel_rfl
theorem run19x3f : isT (callN (fun g => nget fs1 g) 3000 3 (.cons (.q (.inp 3 20 19)) (.cons (.q (.inp 3 21 3)) (.cons (.b false) .nil))) h0) = true := by kernel_rfl
theorem run19x3t : isT (callN (fun g => nget fs1 g) 3000 3 (.cons (.q (.inp 3 20 19)) (.cons (.q (.inp 3 21 3)) (.cons (.b true) .nil))) h0) = true := by kernel_rfl
theorem run19x4f : isT (callN (fun g => nget fs1 g) 3000 3 (.cons (.q (.inp 3 20 19)) (.cons (.q (.inp 3 21 4)) (.cons (.b false) .nil))) h0) = true := by kernel_rfl
theorem run19x4t : isT (callN (fun g => nget fs1 g) 3000 3 (.cons (.q (.inp 3 20 19)) (.cons (.q (.inp 3 21 4)) (.cons (.b true) .nil))) h0) = true := by kernel_rfl
theorem run19x5f : isT (callN (fun g => nget fs1 g) 3000 3 (.cons (.q (.inp 3 20 19)) (.cons (.q (.inp 3 21 5)) (.cons (.b false) .nil))) h0) = true := by kernel_rfl
theorem run19x5t : isT (callN (fun g => nget fs1 g) 3000 3 (.cons (.q (.inp 3 20 19)) (.cons (.q (.inp 3 21 5)) (.cons (.b true) .nil))) h0) = true := by kernel_rfl
end Go.Proofs.YtoenlbemfkedoaaGreatDoor
