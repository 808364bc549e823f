/- The law at some of its inputs, as the evaluator reckons it; conditions: none. -/
import Derived.Test.YtoenlbemfkedoaaGreatDoorEvFBindRounds
namespace Go.Proofs.YtoenlbemfkedoaaGreatDoor
open Go Go.Ev
theorem run14x13t : isT (callN (fun g => nget fs1 g) 3000 3 (.cons (.q (.inp 3 20 14)) (.cons (.q (.inp 3 16 13)) (.cons (.b true) .nil))) h0) = true := by kernel_rfl
theorem run14x14f : isT (callN (fun g => nget fs1 g) 3000 3 (.cons (.q (.inp 3 20 14)) (.cons (.q (.inp 3 16 14)) (.cons (.b false) .nil))) h0) = true := by kernel_rfl
theorem run14x14t : isT (callN (fun g => nget fs1 g) 3000 3 (.cons (.q (.inp 3 20 14)) (.cons (.q (.inp 3 16 14)) (.cons (.b true) .nil))) h0) = true := by kernel_rfl
theorem run14x15f : isT (callN (fun g => nget fs1 g) 3000 3 (.cons (.q (.inp 3 20 14)) (.cons (.q (.inp 3 16 15)) (.cons (.b false) .nil))) h0) = true := by kernel_rfl
theorem run14x15t : isT (callN (fun g => nget fs1 g) 3000 3 (.cons (.q (.inp 3 20 14)) (.cons (.q (.inp 3 16 15)) (.cons (.b true) .nil))) h0) = true := by kernel_rfl
theorem run15x0f : isT (callN (fun g => nget fs1 g) 3000 3 (.cons (.q (.inp 3 20 15)) (.cons (.q (.inp 3 17 0)) (.cons (.b false) .nil))) h0) = true := by kernel_rfl
theorem run15x0t : isT (callN (fun g => nget fs1 g) 3000 3 (.cons (.q (.inp 3 20 15)) (.cons (.q (.inp 3 17 0)) (.cons (.b true) .nil))) h0) = true := by kernel_rfl
theorem run15x1f : isT (callN (fun g => nget fs1 g) 3000 3 (.cons (.q (.inp 3 20 15)) (.cons (.q (.inp 3 17 1)) (.cons (.b false) .nil))) h0) = true := by kernel_rfl
theorem run15x1t : isT (callN (fun g => nget fs1 g) 3000 3 (.cons (.q (.inp 3 20 15)) (.cons (.q (.inp 3 17 1)) (.cons (.b true) .nil))) h0) = true := by kernel_rfl
theorem run15x2f : isT (callN (fun g => nget fs1 g) 3000 3 (.cons (.q (.inp 3 20 15)) (.cons (.q (.inp 3 17 2)) (.cons (.b false) .nil))) h0) = true := by kernel_rfl
theorem run15x2t : isT (callN (fun g => nget fs1 g) 3000 3 (.cons (.q (.inp 3 20 15)) (.cons (.q (.inp 3 17 2)) (.cons (.b true) .nil))) h0) = true := by kernel_rfl
theorem run15x3f : isT (callN (fun g => nget fs1 g) 3000 3 (.cons (.q (.inp 3 20 15)) (.cons (.q (.inp 3 17 3)) (.cons (.b false) .nil))) h0) = true := by kernel_rfl
theorem run15x3t : isT (callN (fun g => nget fs1 g) 3000 3 (.cons (.q (.inp 3 20 15)) (.cons (.q (.inp 3 17 3)) (.cons (.b true) .nil))) h0) = true := by kernel_rfl
end Go.Proofs.YtoenlbemfkedoaaGreatDoor
