/- The law at some of its inputs, as the evaluator reckons it; conditions: none. -/
import Derived.Test.YtoenlbemfkedoaaGreatDoorEvFBindRounds
namespace Go.Proofs.YtoenlbemfkedoaaGreatDoor
open Go Go.Ev
theorem run15x10t : isT (callN (fun g => nget fs1 g) 3000 3 (.cons (.q (.inp 3 20 15)) (.cons (.q (.inp 3 17 10)) (.cons (.b true) .nil))) h0) = true := by kernel_rfl
theorem run15x11f : isT (callN (fun g => nget fs1 g) 3000 3 (.cons (.q (.inp 3 20 15)) (.cons (.q (.inp 3 17 11)) (.cons (.b false) .nil))) h0) = true := by kernel_rfl
theorem run15x11t : isT (callN (fun g => nget fs1 g) 3000 3 (.cons (.q (.inp 3 20 15)) (.cons (.q (.inp 3 17 11)) (.cons (.b true) .nil))) h0) = true := by kernel_rfl
theorem run15x12f : isT (callN (fun g => nget fs1 g) 3000 3 (.cons (.q (.inp 3 20 15)) (.cons (.q (.inp 3 17 12)) (.cons (.b false) .nil))) h0) = true := by kernel_rfl
theorem run15x12t : isT (callN (fun g => nget fs1 g) 3000 3 (.cons (.q (.inp 3 20 15)) (.cons (.q (.inp 3 17 12)) (.cons (.b true) .nil))) h0) = true := by kernel_rfl
theorem run15x13f : isT (callN (fun g => nget fs1 g) 3000 3 (.cons (.q (.inp 3 20 15)) (.cons (.q (.inp 3 17 13)) (.cons (.b false) .nil))) h0) = true := by kernel_rfl
theorem run15x13t : isT (callN (fun g => nget fs1 g) 3000 3 (.cons (.q (.inp 3 20 15)) (.cons (.q (.inp 3 17 13)) (.cons (.b true) .nil))) h0) = true := by kernel_rfl
theorem run15x14f : isT (callN (fun g => nget fs1 g) 3000 3 (.cons (.q (.inp 3 20 15)) (.cons (.q (.inp 3 17 14)) (.cons (.b false) .nil))) h0) = true := by kernel_rfl
theorem run15x14t : isT (callN (fun g => nget fs1 g) 3000 3 (.cons (.q (.inp 3 20 15)) (.cons (.q (.inp 3 17 14)) (.cons (.b true) .nil))) h0) = true := by kernel_rfl
theorem run15x15f : isT (callN (fun g => nget fs1 g) 3000 3 (.cons (.q (.inp 3 20 15)) (.cons (.q (.inp 3 17 15)) (.cons (.b false) .nil))) h0) = true := by kernel_rfl
theorem run15x15t : isT (callN (fun g => nget fs1 g) 3000 3 (.cons (.q (.inp 3 20 15)) (.cons (.q (.inp 3 17 15)) (.cons (.b true) .nil))) h0) = true := by kernel_rfl
theorem run15x16f : isT (callN (fun g => nget fs1 g) 3000 3 (.cons (.q (.inp 3 20 15)) (.cons (.q (.inp 3 17 16)) (.cons (.b false) .nil))) h0) = true := by kernel_rfl
theorem run15x16t : isT (callN (fun g => nget fs1 g) 3000 3 (.cons (.q (.inp 3 20 15)) (.cons (.q (.inp 3 17 16)) (.cons (.b true) .nil))) h0) = true := by kernel_rfl
end Go.Proofs.YtoenlbemfkedoaaGreatDoor
