/- The law at all its inputs: its numbers by their remainders; conditions: none. -/
import Derived.Test.YtoenlbemfkedoaaGreatDoorEvRAA
import Derived.Test.YtoenlbemfkedoaaGreatDoorEvRAB
import Derived.Test.YtoenlbemfkedoaaGreatDoorEvRAC
import Derived.Test.YtoenlbemfkedoaaGreatDoorEvRAD
import Derived.Test.YtoenlbemfkedoaaGreatDoorEvRAE
import Derived.Test.YtoenlbemfkedoaaGreatDoorEvRAF
import Derived.Test.YtoenlbemfkedoaaGreatDoorEvRAG
import Derived.Test.YtoenlbemfkedoaaGreatDoorEvRAH
import Derived.Test.YtoenlbemfkedoaaGreatDoorEvRAI
import Derived.Test.YtoenlbemfkedoaaGreatDoorEvRAJ
import Derived.Test.YtoenlbemfkedoaaGreatDoorEvRAK
import Derived.Test.YtoenlbemfkedoaaGreatDoorEvRAL
import Derived.Test.YtoenlbemfkedoaaGreatDoorEvRAM
import Derived.Test.YtoenlbemfkedoaaGreatDoorEvRAN
import Derived.Test.YtoenlbemfkedoaaGreatDoorEvRAO
import Derived.Test.YtoenlbemfkedoaaGreatDoorEvRAP
import Derived.Test.YtoenlbemfkedoaaGreatDoorEvRAQ
import Derived.Test.YtoenlbemfkedoaaGreatDoorEvRAR
import Derived.Test.YtoenlbemfkedoaaGreatDoorEvRAS
import Derived.Test.YtoenlbemfkedoaaGreatDoorEvRAT
import Derived.Test.YtoenlbemfkedoaaGreatDoorEvRAU
import Derived.Test.YtoenlbemfkedoaaGreatDoorEvRAV
import Derived.Test.YtoenlbemfkedoaaGreatDoorEvRAW
import Derived.Test.YtoenlbemfkedoaaGreatDoorEvRAX
import Derived.Test.YtoenlbemfkedoaaGreatDoorEvRAY
import Derived.Test.YtoenlbemfkedoaaGreatDoorEvRAZ
import Derived.Test.YtoenlbemfkedoaaGreatDoorEvRBA
import Derived.Test.YtoenlbemfkedoaaGreatDoorEvRBB
import Derived.Test.YtoenlbemfkedoaaGreatDoorEvRBC
import Derived.Test.YtoenlbemfkedoaaGreatDoorEvRBD
import Derived.KernelRfl
import Derived.Below
namespace Go.Proofs.YtoenlbemfkedoaaGreatDoor
open Go Go.Ev Go.RowKit
theorem runs0 : ∀ (s : Nat) (t : Bool), s < 2 → isT (callN (fun g => nget fs1 g) 3000 3 (.cons (.q (.inp 3 20 0)) (.cons (.q (.inp 3 2 s)) (.cons (.b t) .nil))) h0) = true
  | 0, false, _ => run0x0f
  | 0, true, _ => run0x0t
  | 1, false, _ => run0x1f
  | 1, true, _ => run0x1t
  | n + 2, _, h => absurd h (by omega)
theorem runs1 : ∀ (s : Nat) (t : Bool), s < 3 → isT (callN (fun g => nget fs1 g) 3000 3 (.cons (.q (.inp 3 20 1)) (.cons (.q (.inp 3 3 s)) (.cons (.b t) .nil))) h0) = true
  | 0, false, _ => run1x0f
  | 0, true, _ => run1x0t
  | 1, false, _ => run1x1f
  | 1, true, _ => run1x1t
  | 2, false, _ => run1x2f
  | 2, true, _ => run1x2t
  | n + 3, _, h => absurd h (by omega)
theorem runs2 : ∀ (s : Nat) (t : Bool), s < 4 → isT (callN (fun g => nget fs1 g) 3000 3 (.cons (.q (.inp 3 20 2)) (.cons (.q (.inp 3 4 s)) (.cons (.b t) .nil))) h0) = true
  | 0, false, _ => run2x0f
  | 0, true, _ => run2x0t
  | 1, false, _ => run2x1f
  | 1, true, _ => run2x1t
  | 2, false, _ => run2x2f
  | 2, true, _ => run2x2t
  | 3, false, _ => run2x3f
  | 3, true, _ => run2x3t
  | n + 4, _, h => absurd h (by omega)
theorem runs3 : ∀ (s : Nat) (t : Bool), s < 5 → isT (callN (fun g => nget fs1 g) 3000 3 (.cons (.q (.inp 3 20 3)) (.cons (.q (.inp 3 5 s)) (.cons (.b t) .nil))) h0) = true
  | 0, false, _ => run3x0f
  | 0, true, _ => run3x0t
  | 1, false, _ => run3x1f
  | 1, true, _ => run3x1t
  | 2, false, _ => run3x2f
  | 2, true, _ => run3x2t
  | 3, false, _ => run3x3f
  | 3, true, _ => run3x3t
  | 4, false, _ => run3x4f
  | 4, true, _ => run3x4t
  | n + 5, _, h => absurd h (by omega)
theorem runs4 : ∀ (s : Nat) (t : Bool), s < 6 → isT (callN (fun g => nget fs1 g) 3000 3 (.cons (.q (.inp 3 20 4)) (.cons (.q (.inp 3 6 s)) (.cons (.b t) .nil))) h0) = true
  | 0, false, _ => run4x0f
  | 0, true, _ => run4x0t
  | 1, false, _ => run4x1f
  | 1, true, _ => run4x1t
  | 2, false, _ => run4x2f
  | 2, true, _ => run4x2t
  | 3, false, _ => run4x3f
  | 3, true, _ => run4x3t
  | 4, false, _ => run4x4f
  | 4, true, _ => run4x4t
  | 5, false, _ => run4x5f
  | 5, true, _ => run4x5t
  | n + 6, _, h => absurd h (by omega)
theorem runs5 : ∀ (s : Nat) (t : Bool), s < 7 → isT (callN (fun g => nget fs1 g) 3000 3 (.cons (.q (.inp 3 20 5)) (.cons (.q (.inp 3 7 s)) (.cons (.b t) .nil))) h0) = true
  | 0, false, _ => run5x0f
  | 0, true, _ => run5x0t
  | 1, false, _ => run5x1f
  | 1, true, _ => run5x1t
  | 2, false, _ => run5x2f
  | 2, true, _ => run5x2t
  | 3, false, _ => run5x3f
  | 3, true, _ => run5x3t
  | 4, false, _ => run5x4f
  | 4, true, _ => run5x4t
  | 5, false, _ => run5x5f
  | 5, true, _ => run5x5t
  | 6, false, _ => run5x6f
  | 6, true, _ => run5x6t
  | n + 7, _, h => absurd h (by omega)
theorem runs6 : ∀ (s : Nat) (t : Bool), s < 8 → isT (callN (fun g => nget fs1 g) 3000 3 (.cons (.q (.inp 3 20 6)) (.cons (.q (.inp 3 8 s)) (.cons (.b t) .nil))) h0) = true
  | 0, false, _ => run6x0f
  | 0, true, _ => run6x0t
  | 1, false, _ => run6x1f
  | 1, true, _ => run6x1t
  | 2, false, _ => run6x2f
  | 2, true, _ => run6x2t
  | 3, false, _ => run6x3f
  | 3, true, _ => run6x3t
  | 4, false, _ => run6x4f
  | 4, true, _ => run6x4t
  | 5, false, _ => run6x5f
  | 5, true, _ => run6x5t
  | 6, false, _ => run6x6f
  | 6, true, _ => run6x6t
  | 7, false, _ => run6x7f
  | 7, true, _ => run6x7t
  | n + 8, _, h => absurd h (by omega)
theorem runs7 : ∀ (s : Nat) (t : Bool), s < 9 → isT (callN (fun g => nget fs1 g) 3000 3 (.cons (.q (.inp 3 20 7)) (.cons (.q (.inp 3 9 s)) (.cons (.b t) .nil))) h0) = true
  | 0, false, _ => run7x0f
  | 0, true, _ => run7x0t
  | 1, false, _ => run7x1f
  | 1, true, _ => run7x1t
  | 2, false, _ => run7x2f
  | 2, true, _ => run7x2t
  | 3, false, _ => run7x3f
  | 3, true, _ => run7x3t
  | 4, false, _ => run7x4f
  | 4, true, _ => run7x4t
  | 5, false, _ => run7x5f
  | 5, true, _ => run7x5t
  | 6, false, _ => run7x6f
  | 6, true, _ => run7x6t
  | 7, false, _ => run7x7f
  | 7, true, _ => run7x7t
  | 8, false, _ => run7x8f
  | 8, true, _ => run7x8t
  | n + 9, _, h => absurd h (by omega)
theorem runs8 : ∀ (s : Nat) (t : Bool), s < 10 → isT (callN (fun g => nget fs1 g) 3000 3 (.cons (.q (.inp 3 20 8)) (.cons (.q (.inp 3 10 s)) (.cons (.b t) .nil))) h0) = true
  | 0, false, _ => run8x0f
  | 0, true, _ => run8x0t
  | 1, false, _ => run8x1f
  | 1, true, _ => run8x1t
  | 2, false, _ => run8x2f
  | 2, true, _ => run8x2t
  | 3, false, _ => run8x3f
  | 3, true, _ => run8x3t
  | 4, false, _ => run8x4f
  | 4, true, _ => run8x4t
  | 5, false, _ => run8x5f
  | 5, true, _ => run8x5t
  | 6, false, _ => run8x6f
  | 6, true, _ => run8x6t
  | 7, false, _ => run8x7f
  | 7, true, _ => run8x7t
  | 8, false, _ => run8x8f
  | 8, true, _ => run8x8t
  | 9, false, _ => run8x9f
  | 9, true, _ => run8x9t
  | n + 10, _, h => absurd h (by omega)
theorem runs9 : ∀ (s : Nat) (t : Bool), s < 11 → isT (callN (fun g => nget fs1 g) 3000 3 (.cons (.q (.inp 3 20 9)) (.cons (.q (.inp 3 11 s)) (.cons (.b t) .nil))) h0) = true
  | 0, false, _ => run9x0f
  | 0, true, _ => run9x0t
  | 1, false, _ => run9x1f
  | 1, true, _ => run9x1t
  | 2, false, _ => run9x2f
  | 2, true, _ => run9x2t
  | 3, false, _ => run9x3f
  | 3, true, _ => run9x3t
  | 4, false, _ => run9x4f
  | 4, true, _ => run9x4t
  | 5, false, _ => run9x5f
  | 5, true, _ => run9x5t
  | 6, false, _ => run9x6f
  | 6, true, _ => run9x6t
  | 7, false, _ => run9x7f
  | 7, true, _ => run9x7t
  | 8, false, _ => run9x8f
  | 8, true, _ => run9x8t
  | 9, false, _ => run9x9f
  | 9, true, _ => run9x9t
  | 10, false, _ => run9x10f
  | 10, true, _ => run9x10t
  | n + 11, _, h => absurd h (by omega)
theorem runs10 : ∀ (s : Nat) (t : Bool), s < 12 → isT (callN (fun g => nget fs1 g) 3000 3 (.cons (.q (.inp 3 20 10)) (.cons (.q (.inp 3 12 s)) (.cons (.b t) .nil))) h0) = true
  | 0, false, _ => run10x0f
  | 0, true, _ => run10x0t
  | 1, false, _ => run10x1f
  | 1, true, _ => run10x1t
  | 2, false, _ => run10x2f
  | 2, true, _ => run10x2t
  | 3, false, _ => run10x3f
  | 3, true, _ => run10x3t
  | 4, false, _ => run10x4f
  | 4, true, _ => run10x4t
  | 5, false, _ => run10x5f
  | 5, true, _ => run10x5t
  | 6, false, _ => run10x6f
  | 6, true, _ => run10x6t
  | 7, false, _ => run10x7f
  | 7, true, _ => run10x7t
  | 8, false, _ => run10x8f
  | 8, true, _ => run10x8t
  | 9, false, _ => run10x9f
  | 9, true, _ => run10x9t
  | 10, false, _ => run10x10f
  | 10, true, _ => run10x10t
  | 11, false, _ => run10x11f
  | 11, true, _ => run10x11t
  | n + 12, _, h => absurd h (by omega)
theorem runs11 : ∀ (s : Nat) (t : Bool), s < 13 → isT (callN (fun g => nget fs1 g) 3000 3 (.cons (.q (.inp 3 20 11)) (.cons (.q (.inp 3 13 s)) (.cons (.b t) .nil))) h0) = true
  | 0, false, _ => run11x0f
  | 0, true, _ => run11x0t
  | 1, false, _ => run11x1f
  | 1, true, _ => run11x1t
  | 2, false, _ => run11x2f
  | 2, true, _ => run11x2t
  | 3, false, _ => run11x3f
  | 3, true, _ => run11x3t
  | 4, false, _ => run11x4f
  | 4, true, _ => run11x4t
  | 5, false, _ => run11x5f
  | 5, true, _ => run11x5t
  | 6, false, _ => run11x6f
  | 6, true, _ => run11x6t
  | 7, false, _ => run11x7f
  | 7, true, _ => run11x7t
  | 8, false, _ => run11x8f
  | 8, true, _ => run11x8t
  | 9, false, _ => run11x9f
  | 9, true, _ => run11x9t
  | 10, false, _ => run11x10f
  | 10, true, _ => run11x10t
  | 11, false, _ => run11x11f
  | 11, true, _ => run11x11t
  | 12, false, _ => run11x12f
  | 12, true, _ => run11x12t
  | n + 13, _, h => absurd h (by omega)
theorem runs12 : ∀ (s : Nat) (t : Bool), s < 14 → isT (callN (fun g => nget fs1 g) 3000 3 (.cons (.q (.inp 3 20 12)) (.cons (.q (.inp 3 14 s)) (.cons (.b t) .nil))) h0) = true
  | 0, false, _ => run12x0f
  | 0, true, _ => run12x0t
  | 1, false, _ => run12x1f
  | 1, true, _ => run12x1t
  | 2, false, _ => run12x2f
  | 2, true, _ => run12x2t
  | 3, false, _ => run12x3f
  | 3, true, _ => run12x3t
  | 4, false, _ => run12x4f
  | 4, true, _ => run12x4t
  | 5, false, _ => run12x5f
  | 5, true, _ => run12x5t
  | 6, false, _ => run12x6f
  | 6, true, _ => run12x6t
  | 7, false, _ => run12x7f
  | 7, true, _ => run12x7t
  | 8, false, _ => run12x8f
  | 8, true, _ => run12x8t
  | 9, false, _ => run12x9f
  | 9, true, _ => run12x9t
  | 10, false, _ => run12x10f
  | 10, true, _ => run12x10t
  | 11, false, _ => run12x11f
  | 11, true, _ => run12x11t
  | 12, false, _ => run12x12f
  | 12, true, _ => run12x12t
  | 13, false, _ => run12x13f
  | 13, true, _ => run12x13t
  | n + 14, _, h => absurd h (by omega)
theorem runs13 : ∀ (s : Nat) (t : Bool), s < 15 → isT (callN (fun g => nget fs1 g) 3000 3 (.cons (.q (.inp 3 20 13)) (.cons (.q (.inp 3 15 s)) (.cons (.b t) .nil))) h0) = true
  | 0, false, _ => run13x0f
  | 0, true, _ => run13x0t
  | 1, false, _ => run13x1f
  | 1, true, _ => run13x1t
  | 2, false, _ => run13x2f
  | 2, true, _ => run13x2t
  | 3, false, _ => run13x3f
  | 3, true, _ => run13x3t
  | 4, false, _ => run13x4f
  | 4, true, _ => run13x4t
  | 5, false, _ => run13x5f
  | 5, true, _ => run13x5t
  | 6, false, _ => run13x6f
  | 6, true, _ => run13x6t
  | 7, false, _ => run13x7f
  | 7, true, _ => run13x7t
  | 8, false, _ => run13x8f
  | 8, true, _ => run13x8t
  | 9, false, _ => run13x9f
  | 9, true, _ => run13x9t
  | 10, false, _ => run13x10f
  | 10, true, _ => run13x10t
  | 11, false, _ => run13x11f
  | 11, true, _ => run13x11t
  | 12, false, _ => run13x12f
  | 12, true, _ => run13x12t
  | 13, false, _ => run13x13f
  | 13, true, _ => run13x13t
  | 14, false, _ => run13x14f
  | 14, true, _ => run13x14t
  | n + 15, _, h => absurd h (by omega)
theorem runs14 : ∀ (s : Nat) (t : Bool), s < 16 → isT (callN (fun g => nget fs1 g) 3000 3 (.cons (.q (.inp 3 20 14)) (.cons (.q (.inp 3 16 s)) (.cons (.b t) .nil))) h0) = true
  | 0, false, _ => run14x0f
  | 0, true, _ => run14x0t
  | 1, false, _ => run14x1f
  | 1, true, _ => run14x1t
  | 2, false, _ => run14x2f
  | 2, true, _ => run14x2t
  | 3, false, _ => run14x3f
  | 3, true, _ => run14x3t
  | 4, false, _ => run14x4f
  | 4, true, _ => run14x4t
  | 5, false, _ => run14x5f
  | 5, true, _ => run14x5t
  | 6, false, _ => run14x6f
  | 6, true, _ => run14x6t
  | 7, false, _ => run14x7f
  | 7, true, _ => run14x7t
  | 8, false, _ => run14x8f
  | 8, true, _ => run14x8t
  | 9, false, _ => run14x9f
  | 9, true, _ => run14x9t
  | 10, false, _ => run14x10f
  | 10, true, _ => run14x10t
  | 11, false, _ => run14x11f
  | 11, true, _ => run14x11t
  | 12, false, _ => run14x12f
  | 12, true, _ => run14x12t
  | 13, false, _ => run14x13f
  | 13, true, _ => run14x13t
  | 14, false, _ => run14x14f
  | 14, true, _ => run14x14t
  | 15, false, _ => run14x15f
  | 15, true, _ => run14x15t
  | n + 16, _, h => absurd h (by omega)
theorem runs15 : ∀ (s : Nat) (t : Bool), s < 17 → isT (callN (fun g => nget fs1 g) 3000 3 (.cons (.q (.inp 3 20 15)) (.cons (.q (.inp 3 17 s)) (.cons (.b t) .nil))) h0) = true
  | 0, false, _ => run15x0f
  | 0, true, _ => run15x0t
  | 1, false, _ => run15x1f
  | 1, true, _ => run15x1t
  | 2, false, _ => run15x2f
  | 2, true, _ => run15x2t
  | 3, false, _ => run15x3f
  | 3, true, _ => run15x3t
  | 4, false, _ => run15x4f
  | 4, true, _ => run15x4t
  | 5, false, _ => run15x5f
  | 5, true, _ => run15x5t
  | 6, false, _ => run15x6f
  | 6, true, _ => run15x6t
  | 7, false, _ => run15x7f
  | 7, true, _ => run15x7t
  | 8, false, _ => run15x8f
  | 8, true, _ => run15x8t
  | 9, false, _ => run15x9f
  | 9, true, _ => run15x9t
  | 10, false, _ => run15x10f
  | 10, true, _ => run15x10t
  | 11, false, _ => run15x11f
  | 11, true, _ => run15x11t
  | 12, false, _ => run15x12f
  | 12, true, _ => run15x12t
  | 13, false, _ => run15x13f
  | 13, true, _ => run15x13t
  | 14, false, _ => run15x14f
  | 14, true, _ => run15x14t
  | 15, false, _ => run15x15f
  | 15, true, _ => run15x15t
  | 16, false, _ => run15x16f
  | 16, true, _ => run15x16t
  | n + 17, _, h => absurd h (by omega)
theorem runs16 : ∀ (s : Nat) (t : Bool), s < 18 → isT (callN (fun g => nget fs1 g) 3000 3 (.cons (.q (.inp 3 20 16)) (.cons (.q (.inp 3 18 s)) (.cons (.b t) .nil))) h0) = true
  | 0, false, _ => run16x0f
  | 0, true, _ => run16x0t
  | 1, false, _ => run16x1f
  | 1, true, _ => run16x1t
  | 2, false, _ => run16x2f
  | 2, true, _ => run16x2t
  | 3, false, _ => run16x3f
  | 3, true, _ => run16x3t
  | 4, false, _ => run16x4f
  | 4, true, _ => run16x4t
  | 5, false, _ => run16x5f
  | 5, true, _ => run16x5t
  | 6, false, _ => run16x6f
  | 6, true, _ => run16x6t
  | 7, false, _ => run16x7f
  | 7, true, _ => run16x7t
  | 8, false, _ => run16x8f
  | 8, true, _ => run16x8t
  | 9, false, _ => run16x9f
  | 9, true, _ => run16x9t
  | 10, false, _ => run16x10f
  | 10, true, _ => run16x10t
  | 11, false, _ => run16x11f
  | 11, true, _ => run16x11t
  | 12, false, _ => run16x12f
  | 12, true, _ => run16x12t
  | 13, false, _ => run16x13f
  | 13, true, _ => run16x13t
  | 14, false, _ => run16x14f
  | 14, true, _ => run16x14t
  | 15, false, _ => run16x15f
  | 15, true, _ => run16x15t
  | 16, false, _ => run16x16f
  | 16, true, _ => run16x16t
  | 17, false, _ => run16x17f
  | 17, true, _ => run16x17t
  | n + 18, _, h => absurd h (by omega)
theorem runs17 : ∀ (s : Nat) (t : Bool), s < 19 → isT (callN (fun g => nget fs1 g) 3000 3 (.cons (.q (.inp 3 20 17)) (.cons (.q (.inp 3 19 s)) (.cons (.b t) .nil))) h0) = true
  | 0, false, _ => run17x0f
  | 0, true, _ => run17x0t
  | 1, false, _ => run17x1f
  | 1, true, _ => run17x1t
  | 2, false, _ => run17x2f
  | 2, true, _ => run17x2t
  | 3, false, _ => run17x3f
  | 3, true, _ => run17x3t
  | 4, false, _ => run17x4f
  | 4, true, _ => run17x4t
  | 5, false, _ => run17x5f
  | 5, true, _ => run17x5t
  | 6, false, _ => run17x6f
  | 6, true, _ => run17x6t
  | 7, false, _ => run17x7f
  | 7, true, _ => run17x7t
  | 8, false, _ => run17x8f
  | 8, true, _ => run17x8t
  | 9, false, _ => run17x9f
  | 9, true, _ => run17x9t
  | 10, false, _ => run17x10f
  | 10, true, _ => run17x10t
  | 11, false, _ => run17x11f
  | 11, true, _ => run17x11t
  | 12, false, _ => run17x12f
  | 12, true, _ => run17x12t
  | 13, false, _ => run17x13f
  | 13, true, _ => run17x13t
  | 14, false, _ => run17x14f
  | 14, true, _ => run17x14t
  | 15, false, _ => run17x15f
  | 15, true, _ => run17x15t
  | 16, false, _ => run17x16f
  | 16, true, _ => run17x16t
  | 17, false, _ => run17x17f
  | 17, true, _ => run17x17t
  | 18, false, _ => run17x18f
  | 18, true, _ => run17x18t
  | n + 19, _, h => absurd h (by omega)
theorem runs18 : ∀ (s : Nat) (t : Bool), s < 20 → isT (callN (fun g => nget fs1 g) 3000 3 (.cons (.q (.inp 3 20 18)) (.cons (.q (.inp 3 20 s)) (.cons (.b t) .nil))) h0) = true
  | 0, false, _ => run18x0f
  | 0, true, _ => run18x0t
  | 1, false, _ => run18x1f
  | 1, true, _ => run18x1t
  | 2, false, _ => run18x2f
  | 2, true, _ => run18x2t
  | 3, false, _ => run18x3f
  | 3, true, _ => run18x3t
  | 4, false, _ => run18x4f
  | 4, true, _ => run18x4t
  | 5, false, _ => run18x5f
  | 5, true, _ => run18x5t
  | 6, false, _ => run18x6f
  | 6, true, _ => run18x6t
  | 7, false, _ => run18x7f
  | 7, true, _ => run18x7t
  | 8, false, _ => run18x8f
  | 8, true, _ => run18x8t
  | 9, false, _ => run18x9f
  | 9, true, _ => run18x9t
  | 10, false, _ => run18x10f
  | 10, true, _ => run18x10t
  | 11, false, _ => run18x11f
  | 11, true, _ => run18x11t
  | 12, false, _ => run18x12f
  | 12, true, _ => run18x12t
  | 13, false, _ => run18x13f
  | 13, true, _ => run18x13t
  | 14, false, _ => run18x14f
  | 14, true, _ => run18x14t
  | 15, false, _ => run18x15f
  | 15, true, _ => run18x15t
  | 16, false, _ => run18x16f
  | 16, true, _ => run18x16t
  | 17, false, _ => run18x17f
  | 17, true, _ => run18x17t
  | 18, false, _ => run18x18f
  | 18, true, _ => run18x18t
  | 19, false, _ => run18x19f
  | 19, true, _ => run18x19t
  | n + 20, _, h => absurd h (by omega)
theorem runs19 : ∀ (s : Nat) (t : Bool), s < 21 → isT (callN (fun g => nget fs1 g) 3000 3 (.cons (.q (.inp 3 20 19)) (.cons (.q (.inp 3 21 s)) (.cons (.b t) .nil))) h0) = true
  | 0, false, _ => run19x0f
  | 0, true, _ => run19x0t
  | 1, false, _ => run19x1f
  | 1, true, _ => run19x1t
  | 2, false, _ => run19x2f
  | 2, true, _ => run19x2t
  | 3, false, _ => run19x3f
  | 3, true, _ => run19x3t
  | 4, false, _ => run19x4f
  | 4, true, _ => run19x4t
  | 5, false, _ => run19x5f
  | 5, true, _ => run19x5t
  | 6, false, _ => run19x6f
  | 6, true, _ => run19x6t
  | 7, false, _ => run19x7f
  | 7, true, _ => run19x7t
  | 8, false, _ => run19x8f
  | 8, true, _ => run19x8t
  | 9, false, _ => run19x9f
  | 9, true, _ => run19x9t
  | 10, false, _ => run19x10f
  | 10, true, _ => run19x10t
  | 11, false, _ => run19x11f
  | 11, true, _ => run19x11t
  | 12, false, _ => run19x12f
  | 12, true, _ => run19x12t
  | 13, false, _ => run19x13f
  | 13, true, _ => run19x13t
  | 14, false, _ => run19x14f
  | 14, true, _ => run19x14t
  | 15, false, _ => run19x15f
  | 15, true, _ => run19x15t
  | 16, false, _ => run19x16f
  | 16, true, _ => run19x16t
  | 17, false, _ => run19x17f
  | 17, true, _ => run19x17t
  | 18, false, _ => run19x18f
  | 18, true, _ => run19x18t
  | 19, false, _ => run19x19f
  | 19, true, _ => run19x19t
  | 20, false, _ => run19x20f
  | 20, true, _ => run19x20t
  | n + 21, _, h => absurd h (by omega)
theorem runs : ∀ (r s : Nat) (t : Bool), r < 20 → s < r + 2 → isT (callN (fun g => nget fs1 g) 3000 3 (.cons (.q (.inp 3 20 r)) (.cons (.q (.inp 3 (r + 2) s)) (.cons (.b t) .nil))) h0) = true
  | 0, s, t, _, h => runs0 s t h
  | 1, s, t, _, h => runs1 s t h
  | 2, s, t, _, h => runs2 s t h
  | 3, s, t, _, h => runs3 s t h
  | 4, s, t, _, h => runs4 s t h
  | 5, s, t, _, h => runs5 s t h
  | 6, s, t, _, h => runs6 s t h
  | 7, s, t, _, h => runs7 s t h
  | 8, s, t, _, h => runs8 s t h
  | 9, s, t, _, h => runs9 s t h
  | 10, s, t, _, h => runs10 s t h
  | 11, s, t, _, h => runs11 s t h
  | 12, s, t, _, h => runs12 s t h
  | 13, s, t, _, h => runs13 s t h
  | 14, s, t, _, h => runs14 s t h
  | 15, s, t, _, h => runs15 s t h
  | 16, s, t, _, h => runs16 s t h
  | 17, s, t, _, h => runs17 s t h
  | 18, s, t, _, h => runs18 s t h
  | 19, s, t, _, h => runs19 s t h
  | n + 20, s, t, h, _ => absurd h (by omega)
theorem law_calls (x y : Int) (t : Bool) (hx : IntKind.i64.wrap x = x) (hy : IntKind.i64.wrap y = y) (W : World) : Calls Tryz.prog 3 #[.int .i64 x, .int .i64 y, .bool t] W (fun e W' => e = .returned (.bool true) ∧ Below W.heap.size W W') := by
  have hr : (x % (2 ^ 64 : Int)).toNat % 20 < 20 := Nat.mod_lt _ (by decide)
  have hs : (y % (2 ^ 64 : Int)).toNat % ((x % (2 ^ 64 : Int)).toNat % 20 + 2) < (x % (2 ^ 64 : Int)).toNat % 20 + 2 := Nat.mod_lt _ (by omega)
  have ent := ent_true fs1_ok (l := #[.int .i64 x, .int .i64 y, .bool t]) (w := W) (runs _ _ t hr hs) ⟨_, _, rfl, ⟨x, rfl, hx, rfl⟩, ⟨_, _, rfl, ⟨y, rfl, hy, rfl⟩, ⟨_, _, rfl, rfl, rfl⟩⟩⟩
  refine (ent_calls Tryz.func3 (by kernel_rfl) (by kernel_rfl) ent).mono ?_
  intro e w' h
  cases e with
  | returned v => exact ⟨congrArg _ h.1, h.2⟩
  | _ => exact h.elim
end Go.Proofs.YtoenlbemfkedoaaGreatDoor
