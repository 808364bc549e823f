/- The law at some of its inputs, as the evaluator reckons it; conditions: none. -/
import Derived.Test.YtoenlbemfkedoaaGreatDoorEvFBindRounds
namespace Go.Proofs.YtoenlbemfkedoaaGreatDoor
open Go Go.Ev
theorem run17x18f : isT (callN (fun g => nget fs1 g) 3000 3 (.cons (.q (.inp 3 20 17)) (.cons (.q (.inp 3 19 18)) (.cons (.b false) .nil))) h0) = true := by kernel_rfl
theorem run17x18t : isT (callN (fun g => nget fs1 g) 3000 3 (.cons (.q (.inp 3 20 17)) (.cons (.q (.inp 3 19 18)) (.cons (.b true) .nil))) h0) = true := by kernel_rfl
theorem run18x0f : isT (callN (fun g => nget fs1 g) 3000 3 (.cons (.q (.inp 3 20 18)) (.cons (.q (.inp 3 20 0)) (.cons (.b false) .nil))) h0) = true := by kernel_rfl
theorem run18x0t : isT (callN (fun g => nget fs1 g) 3000 3 (.cons (.q (.inp 3 20 18)) (.cons (.q (.inp 3 20 0)) (.cons (.b true) .nil))) h0) = true := by kernel_rfl
theorem run18x1f : isT (callN (fun g => nget fs1 g) 3000 3 (.cons (.q (.inp 3 20 18)) (.cons (.q (.inp 3 20 1)) (.cons (.b false) .nil))) h0) = true := by kernel_rfl
theorem run18x1t : isT (callN (fun g => nget fs1 g) 3000 3 (.cons (.q (.inp 3 20 18)) (.cons (.q (.inp 3 20 1)) (.cons (.b true) .nil))) h0) = true := by kernel_rfl
theorem run18x2f : isT (callN (fun g => nget fs1 g) 3000 3 (.cons (.q (.inp 3 20 18)) (.cons (.q (.inp 3 20 2)) (.cons (.b false) .nil))) h0) = true := by kernel_rfl
theorem run18x2t : isT (callN (fun g => nget fs1 g) 3000 3 (.cons (.q (.inp 3 20 18)) (.cons (.q (.inp 3 20 2)) (.cons (.b true) .nil))) h0) = true := by kernel_rfl
theorem run18x3f : isT (callN (fun g => nget fs1 g) 3000 3 (.cons (.q (.inp 3 20 18)) (.cons (.q (.inp 3 20 3)) (.cons (.b false) .nil))) h0) = true := by kernel_rfl
theorem run18x3t : isT (callN (fun g => nget fs1 g) 3000 3 (.cons (.q (.inp 3 20 18)) (.cons (.q (.inp 3 20 3)) (.cons (.b true) .nil))) h0) = true := by kernel_rfl
theorem run18x4f : isT (callN (fun g => nget fs1 g) 3000 3 (.cons (.q (.inp 3 20 18)) (.cons (.q (.inp 3 20 4)) (.cons (.b false) .nil))) h0) = true := by kernel_rfl
end Go.Proofs.YtoenlbemfkedoaaGreatDoor
