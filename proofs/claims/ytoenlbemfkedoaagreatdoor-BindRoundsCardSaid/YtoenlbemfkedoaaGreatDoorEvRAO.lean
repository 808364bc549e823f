/- The law at some of its inputs, as the evaluator reckons it; conditions: none. -/
import Derived.Test.YtoenlbemfkedoaaGreatDoorEvFBindRounds
namespace Go.Proofs.YtoenlbemfkedoaaGreatDoor
open Go Go.Ev
theorem run15x4f : isT (callN (fun g => nget fs1 g) 3000 3 (.cons (.q (.inp 3 20 15)) (.cons (.q (.inp 3 17 4)) (.cons (.b false) .nil))) h0) = true := by kernel_rfl
theorem run15x4t : isT (callN (fun g => nget fs1 g) 3000 3 (.cons (.q (.inp 3 20 15)) (.cons (.q (.inp 3 17 4)) (.cons (.b true) .nil))) h0) = true := by kernel_rfl
theorem run15x5f : isT (callN (fun g => nget fs1 g) 3000 3 (.cons (.q (.inp 3 20 15)) (.cons (.q (.inp 3 17 5)) (.cons (.b false) .nil))) h0) = true := by kernel_rfl
theorem run15x5t : isT (callN (fun g => nget fs1 g) 3000 3 (.cons (.q (.inp 3 20 15)) (.cons (.q (.inp 3 17 5)) (.cons (.b true) .nil))) h0) = true := by kernel_rfl
theorem run15x6f : isT (callN (fun g => nget fs1 g) 3000 3 (.cons (.q (.inp 3 20 15)) (.cons (.q (.inp 3 17 6)) (.cons (.b false) .nil))) h0) = true := by kernel_rfl
theorem run15x6t : isT (callN (fun g => nget fs1 g) 3000 3 (.cons (.q (.inp 3 20 15)) (.cons (.q (.inp 3 17 6)) (.cons (.b true) .nil))) h0) = true := by kernel_rfl
theorem run15x7f : isT (callN (fun g => nget fs1 g) 3000 3 (.cons (.q (.inp 3 20 15)) (.cons (.q (.inp 3 17 7)) (.cons (.b false) .nil))) h0) = true := by kernel_rfl
theorem run15x7t : isT (callN (fun g => nget fs1 g) 3000 3 (.cons (.q (.inp 3 20 15)) (.cons (.q (.inp 3 17 7)) (.cons (.b true) .nil))) h0) = true := by kernel_rfl
theorem run15x8f : isT (callN (fun g => nget fs1 g) 3000 3 (.cons (.q (.inp 3 20 15)) (.cons (.q (.inp 3 17 8)) (.cons (.b false) .nil))) h0) = true := by kernel_rfl
theorem run15x8t : isT (callN (fun g => nget fs1 g) 3000 3 (.cons (.q (.inp 3 20 15)) (.cons (.q (.inp 3 17 8)) (.cons (.b true) .nil))) h0) = true := by kernel_rfl
theorem run15x9f : isT (callN (fun g => nget fs1 g) 3000 3 (.cons (.q (.inp 3 20 15)) (.cons (.q (.inp 3 17 9)) (.cons (.b false) .nil))) h0) = true := by kernel_rfl
theorem run15x9t : isT (callN (fun g => nget fs1 g) 3000 3 (.cons (.q (.inp 3 20 15)) (.cons (.q (.inp 3 17 9)) (.cons (.b true) .nil))) h0) = true := by kernel_rfl
theorem run15x10f : isT (callN (fun g => nget fs1 g) 3000 3 (.cons (.q (.inp 3 20 15)) (.cons (.q (.inp 3 17 10)) (.cons (.b false) .nil))) h0) = true := by kernel_rfl
end Go.Proofs.YtoenlbemfkedoaaGreatDoor
