/- The law at some of its inputs, as the evaluator reckons it; conditions: none. -/
import Derived.Test.YtoenlbemfkedoaaGreatDoorEvFBindRounds
namespace Go.Proofs.YtoenlbemfkedoaaGreatDoor
open Go Go.Ev
theorem run16x6f : isT (callN (fun g => nget fs1 g) 3000 3 (.cons (.q (.inp 3 20 16)) (.cons (.q (.inp 3 18 6)) (.cons (.b false) .nil))) h0) = true := by kernel_rfl
theorem run16x6t : isT (callN (fun g => nget fs1 g) 3000 3 (.cons (.q (.inp 3 20 16)) (.cons (.q (.inp 3 18 6)) (.cons (.b true) .nil))) h0) = true := by kernel_rfl
theorem run16x7f : isT (callN (fun g => nget fs1 g) 3000 3 (.cons (.q (.inp 3 20 16)) (.cons (.q (.inp 3 18 7)) (.cons (.b false) .nil))) h0) = true := by kernel_rfl
theorem run16x7t : isT (callN (fun g => nget fs1 g) 3000 3 (.cons (.q (.inp 3 20 16)) (.cons (.q (.inp 3 18 7)) (.cons (.b true) .nil))) h0) = true := by kernel_rfl
theorem run16x8f : isT (callN (fun g => nget fs1 g) 3000 3 (.cons (.q (.inp 3 20 16)) (.cons (.q (.inp 3 18 8)) (.cons (.b false) .nil))) h0) = true := by kernel_rfl
theorem run16x8t : isT (callN (fun g => nget fs1 g) 3000 3 (.cons (.q (.inp 3 20 16)) (.cons (.q (.inp 3 18 8)) (.cons (.b true) .nil))) h0) = true := by kernel_rfl
theorem run16x9f : isT (callN (fun g => nget fs1 g) 3000 3 (.cons (.q (.inp 3 20 16)) (.cons (.q (.inp 3 18 9)) (.cons (.b false) .nil))) h0) = true := by kernel_rfl
theorem run16x9t : isT (callN (fun g => nget fs1 g) 3000 3 (.cons (.q (.inp 3 20 16)) (.cons (.q (.inp 3 18 9)) (.cons (.b true) .nil))) h0) = true := by kernel_rfl
theorem run16x10f : isT (callN (fun g => nget fs1 g) 3000 3 (.cons (.q (.inp 3 20 16)) (.cons (.q (.inp 3 18 10)) (.cons (.b false) .nil))) h0) = true := by kernel_rfl
theorem run16x10t : isT (callN (fun g => nget fs1 g) 3000 3 (.cons (.q (.inp 3 20 16)) (.cons (.q (.inp 3 18 10)) (.cons (.b true) .nil))) h0) = true := by kernel_rfl
theorem run16x11f : isT (callN (fun g => nget fs1 g) 3000 3 (.cons (.q (.inp 3 20 16)) (.cons (.q (.inp 3 18 11)) (.cons (.b false) .nil))) h0) = true := by kernel_rfl
theorem run16x11t : isT (callN (fun g => nget fs1 g) 3000 3 (.cons (.q (.inp 3 20 16)) (.cons (.q (.inp 3 18 11)) (.cons (.b true) .nil))) h0) = true := by kernel_rfl
end Go.Proofs.YtoenlbemfkedoaaGreatDoor
