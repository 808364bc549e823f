/- The law at some of its inputs, as the evaluator reckons it; conditions: none. -/
import Derived.Test.YtoenlbemfkedoaaGreatDoorEvFBindRounds
namespace Go.Proofs.YtoenlbemfkedoaaGreatDoor
open Go Go.Ev
theorem run18x4t : isT (callN (fun g => nget fs1 g) 3000 3 (.cons (.q (.inp 3 20 18)) (.cons (.q (.inp 3 20 4)) (.cons (.b true) .nil))) h0) = true := by kernel_rfl
theorem run18x5f : isT (callN (fun g => nget fs1 g) 3000 3 (.cons (.q (.inp 3 20 18)) (.cons (.q (.inp 3 20 5)) (.cons (.b false) .nil))) h0) = true := by kernel_rfl
theorem run18x5t : isT (callN (fun g => nget fs1 g) 3000 3 (.cons (.q (.inp 3 20 18)) (.cons (.q (.inp 3 20 5)) (.cons (.b true) .nil))) h0) = true := by kernel_rfl
theorem run18x6f : isT (callN (fun g => nget fs1 g) 3000 3 (.cons (.q (.inp 3 20 18)) (.cons (.q (.inp 3 20 6)) (.cons (.b false) .nil))) h0) = true := by kernel_rfl
theorem run18x6t : isT (callN (fun g => nget fs1 g) 3000 3 (.cons (.q (.inp 3 20 18)) (.cons (.q (.inp 3 20 6)) (.cons (.b true) .nil))) h0) = true := by kernel_rfl
theorem run18x7f : isT (callN (fun g => nget fs1 g) 3000 3 (.cons (.q (.inp 3 20 18)) (.cons (.q (.inp 3 20 7)) (.cons (.b false) .nil))) h0) = true := by kernel_rfl
theorem run18x7t : isT (callN (fun g => nget fs1 g) 3000 3 (.cons (.q (.inp 3 20 18)) (.cons (.q (.inp 3 20 7)) (.cons (.b true) .nil))) h0) = true := by kernel_rfl
theorem run18x8f : isT (callN (fun g => nget fs1 g) 3000 3 (.cons (.q (.inp 3 20 18)) (.cons (.q (.inp 3 20 8)) (.cons (.b false) .nil))) h0) = true := by kernel_rfl
theorem run18x8t : isT (callN (fun g => nget fs1 g) 3000 3 (.cons (.q (.inp 3 20 18)) (.cons (.q (.inp 3 20 8)) (.cons (.b true) .nil))) h0) = true := by kernel_rfl
theorem run18x9f : isT (callN (fun g => nget fs1 g) 3000 3 (.cons (.q (.inp 3 20 18)) (.cons (.q (.inp 3 20 9)) (.cons (.b false) .nil))) h0) = true := by kernel_rfl
theorem run18x9t : isT (callN (fun g => nget fs1 g) 3000 3 (.cons (.q (.inp 3 20 18)) (.cons (.q (.inp 3 20 9)) (.cons (.b true) .nil))) h0) = true := by kernel_rfl
end Go.Proofs.YtoenlbemfkedoaaGreatDoor
