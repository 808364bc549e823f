/- The law at all its inputs: its numbers by their remainders; conditions: none. -/
import Derived.Test.YtoenlbemfkedoaaGreatEvRAA
import Derived.Test.YtoenlbemfkedoaaGreatEvRAB
import Derived.Test.YtoenlbemfkedoaaGreatEvRAC
import Derived.Test.YtoenlbemfkedoaaGreatEvRAD
import Derived.Test.YtoenlbemfkedoaaGreatEvRAE
import Derived.Test.YtoenlbemfkedoaaGreatEvRAF
import Derived.Test.YtoenlbemfkedoaaGreatEvRAG
import Derived.Test.YtoenlbemfkedoaaGreatEvRAH
import Derived.Test.YtoenlbemfkedoaaGreatEvRAI
import Derived.Test.YtoenlbemfkedoaaGreatEvRAJ
import Derived.Test.YtoenlbemfkedoaaGreatEvRAK
import Derived.Test.YtoenlbemfkedoaaGreatEvRAL
import Derived.Test.YtoenlbemfkedoaaGreatEvRAM
import Derived.Test.YtoenlbemfkedoaaGreatEvRAN
import Derived.Test.YtoenlbemfkedoaaGreatEvRAO
import Derived.Test.YtoenlbemfkedoaaGreatEvRAP
import Derived.Test.YtoenlbemfkedoaaGreatEvRAQ
import Derived.Test.YtoenlbemfkedoaaGreatEvRAR
import Derived.Test.YtoenlbemfkedoaaGreatEvRAS
import Derived.Test.YtoenlbemfkedoaaGreatEvRAT
import Derived.Test.YtoenlbemfkedoaaGreatEvRAU
import Derived.Test.YtoenlbemfkedoaaGreatEvRAV
import Derived.Test.YtoenlbemfkedoaaGreatEvRAW
import Derived.KernelRfl
import Derived.Below
namespace Go.Proofs.YtoenlbemfkedoaaGreat
open Go Go.Ev Go.RowKit
theorem runs0 : ∀ s, s < 2 → isT (callN (fun g => nget fs1 g) 3000 3 (.cons (.q (.inp 3 20 0)) (.cons (.q (.inp 3 2 s)) .nil)) h0) = true
  | 0, _ => run0x0
  | 1, _ => run0x1
  | n + 2, h => absurd h (by omega)
theorem runs1 : ∀ s, s < 3 → isT (callN (fun g => nget fs1 g) 3000 3 (.cons (.q (.inp 3 20 1)) (.cons (.q (.inp 3 3 s)) .nil)) h0) = true
  | 0, _ => run1x0
  | 1, _ => run1x1
  | 2, _ => run1x2
  | n + 3, h => absurd h (by omega)
theorem runs2 : ∀ s, s < 4 → isT (callN (fun g => nget fs1 g) 3000 3 (.cons (.q (.inp 3 20 2)) (.cons (.q (.inp 3 4 s)) .nil)) h0) = true
  | 0, _ => run2x0
  | 1, _ => run2x1
  | 2, _ => run2x2
  | 3, _ => run2x3
  | n + 4, h => absurd h (by omega)
theorem runs3 : ∀ s, s < 5 → isT (callN (fun g => nget fs1 g) 3000 3 (.cons (.q (.inp 3 20 3)) (.cons (.q (.inp 3 5 s)) .nil)) h0) = true
  | 0, _ => run3x0
  | 1, _ => run3x1
  | 2, _ => run3x2
  | 3, _ => run3x3
  | 4, _ => run3x4
  | n + 5, h => absurd h (by omega)
theorem runs4 : ∀ s, s < 6 → isT (callN (fun g => nget fs1 g) 3000 3 (.cons (.q (.inp 3 20 4)) (.cons (.q (.inp 3 6 s)) .nil)) h0) = true
  | 0, _ => run4x0
  | 1, _ => run4x1
  | 2, _ => run4x2
  | 3, _ => run4x3
  | 4, _ => run4x4
  | 5, _ => run4x5
  | n + 6, h => absurd h (by omega)
theorem runs5 : ∀ s, s < 7 → isT (callN (fun g => nget fs1 g) 3000 3 (.cons (.q (.inp 3 20 5)) (.cons (.q (.inp 3 7 s)) .nil)) h0) = true
  | 0, _ => run5x0
  | 1, _ => run5x1
  | 2, _ => run5x2
  | 3, _ => run5x3
  | 4, _ => run5x4
  | 5, _ => run5x5
  | 6, _ => run5x6
  | n + 7, h => absurd h (by omega)
theorem runs6 : ∀ s, s < 8 → isT (callN (fun g => nget fs1 g) 3000 3 (.cons (.q (.inp 3 20 6)) (.cons (.q (.inp 3 8 s)) .nil)) h0) = true
  | 0, _ => run6x0
  | 1, _ => run6x1
  | 2, _ => run6x2
  | 3, _ => run6x3
  | 4, _ => run6x4
  | 5, _ => run6x5
  | 6, _ => run6x6
  | 7, _ => run6x7
  | n + 8, h => absurd h (by omega)
theorem runs7 : ∀ s, s < 9 → isT (callN (fun g => nget fs1 g) 3000 3 (.cons (.q (.inp 3 20 7)) (.cons (.q (.inp 3 9 s)) .nil)) h0) = true
  | 0, _ => run7x0
  | 1, _ => run7x1
  | 2, _ => run7x2
  | 3, _ => run7x3
  | 4, _ => run7x4
  | 5, _ => run7x5
  | 6, _ => run7x6
  | 7, _ => run7x7
  | 8, _ => run7x8
  | n + 9, h => absurd h (by omega)
theorem runs8 : ∀ s, s < 10 → isT (callN (fun g => nget fs1 g) 3000 3 (.cons (.q (.inp 3 20 8)) (.cons (.q (.inp 3 10 s)) .nil)) h0) = true
  | 0, _ => run8x0
  | 1, _ => run8x1
  | 2, _ => run8x2
  | 3, _ => run8x3
  | 4, _ => run8x4
  | 5, _ => run8x5
  | 6, _ => run8x6
  | 7, _ => run8x7
  | 8, _ => run8x8
  | 9, _ => run8x9
  | n + 10, h => absurd h (by omega)
theorem runs9 : ∀ s, s < 11 → isT (callN (fun g => nget fs1 g) 3000 3 (.cons (.q (.inp 3 20 9)) (.cons (.q (.inp 3 11 s)) .nil)) h0) = true
  | 0, _ => run9x0
  | 1, _ => run9x1
  | 2, _ => run9x2
  | 3, _ => run9x3
  | 4, _ => run9x4
  | 5, _ => run9x5
  | 6, _ => run9x6
  | 7, _ => run9x7
  | 8, _ => run9x8
  | 9, _ => run9x9
  | 10, _ => run9x10
  | n + 11, h => absurd h (by omega)
theorem runs10 : ∀ s, s < 12 → isT (callN (fun g => nget fs1 g) 3000 3 (.cons (.q (.inp 3 20 10)) (.cons (.q (.inp 3 12 s)) .nil)) h0) = true
  | 0, _ => run10x0
  | 1, _ => run10x1
  | 2, _ => run10x2
  | 3, _ => run10x3
  | 4, _ => run10x4
  | 5, _ => run10x5
  | 6, _ => run10x6
  | 7, _ => run10x7
  | 8, _ => run10x8
  | 9, _ => run10x9
  | 10, _ => run10x10
  | 11, _ => run10x11
  | n + 12, h => absurd h (by omega)
theorem runs11 : ∀ s, s < 13 → isT (callN (fun g => nget fs1 g) 3000 3 (.cons (.q (.inp 3 20 11)) (.cons (.q (.inp 3 13 s)) .nil)) h0) = true
  | 0, _ => run11x0
  | 1, _ => run11x1
  | 2, _ => run11x2
  | 3, _ => run11x3
  | 4, _ => run11x4
  | 5, _ => run11x5
  | 6, _ => run11x6
  | 7, _ => run11x7
  | 8, _ => run11x8
  | 9, _ => run11x9
  | 10, _ => run11x10
  | 11, _ => run11x11
  | 12, _ => run11x12
  | n + 13, h => absurd h (by omega)
theorem runs12 : ∀ s, s < 14 → isT (callN (fun g => nget fs1 g) 3000 3 (.cons (.q (.inp 3 20 12)) (.cons (.q (.inp 3 14 s)) .nil)) h0) = true
  | 0, _ => run12x0
  | 1, _ => run12x1
  | 2, _ => run12x2
  | 3, _ => run12x3
  | 4, _ => run12x4
  | 5, _ => run12x5
  | 6, _ => run12x6
  | 7, _ => run12x7
  | 8, _ => run12x8
  | 9, _ => run12x9
  | 10, _ => run12x10
  | 11, _ => run12x11
  | 12, _ => run12x12
  | 13, _ => run12x13
  | n + 14, h => absurd h (by omega)
theorem runs13 : ∀ s, s < 15 → isT (callN (fun g => nget fs1 g) 3000 3 (.cons (.q (.inp 3 20 13)) (.cons (.q (.inp 3 15 s)) .nil)) h0) = true
  | 0, _ => run13x0
  | 1, _ => run13x1
  | 2, _ => run13x2
  | 3, _ => run13x3
  | 4, _ => run13x4
  | 5, _ => run13x5
  | 6, _ => run13x6
  | 7, _ => run13x7
  | 8, _ => run13x8
  | 9, _ => run13x9
  | 10, _ => run13x10
  | 11, _ => run13x11
  | 12, _ => run13x12
  | 13, _ => run13x13
  | 14, _ => run13x14
  | n + 15, h => absurd h (by omega)
theorem runs14 : ∀ s, s < 16 → isT (callN (fun g => nget fs1 g) 3000 3 (.cons (.q (.inp 3 20 14)) (.cons (.q (.inp 3 16 s)) .nil)) h0) = true
  | 0, _ => run14x0
  | 1, _ => run14x1
  | 2, _ => run14x2
  | 3, _ => run14x3
  | 4, _ => run14x4
  | 5, _ => run14x5
  | 6, _ => run14x6
  | 7, _ => run14x7
  | 8, _ => run14x8
  | 9, _ => run14x9
  | 10, _ => run14x10
  | 11, _ => run14x11
  | 12, _ => run14x12
  | 13, _ => run14x13
  | 14, _ => run14x14
  | 15, _ => run14x15
  | n + 16, h => absurd h (by omega)
theorem runs15 : ∀ s, s < 17 → isT (callN (fun g => nget fs1 g) 3000 3 (.cons (.q (.inp 3 20 15)) (.cons (.q (.inp 3 17 s)) .nil)) h0) = true
  | 0, _ => run15x0
  | 1, _ => run15x1
  | 2, _ => run15x2
  | 3, _ => run15x3
  | 4, _ => run15x4
  | 5, _ => run15x5
  | 6, _ => run15x6
  | 7, _ => run15x7
  | 8, _ => run15x8
  | 9, _ => run15x9
  | 10, _ => run15x10
  | 11, _ => run15x11
  | 12, _ => run15x12
  | 13, _ => run15x13
  | 14, _ => run15x14
  | 15, _ => run15x15
  | 16, _ => run15x16
  | n + 17, h => absurd h (by omega)
theorem runs16 : ∀ s, s < 18 → isT (callN (fun g => nget fs1 g) 3000 3 (.cons (.q (.inp 3 20 16)) (.cons (.q (.inp 3 18 s)) .nil)) h0) = true
  | 0, _ => run16x0
  | 1, _ => run16x1
  | 2, _ => run16x2
  | 3, _ => run16x3
  | 4, _ => run16x4
  | 5, _ => run16x5
  | 6, _ => run16x6
  | 7, _ => run16x7
  | 8, _ => run16x8
  | 9, _ => run16x9
  | 10, _ => run16x10
  | 11, _ => run16x11
  | 12, _ => run16x12
  | 13, _ => run16x13
  | 14, _ => run16x14
  | 15, _ => run16x15
  | 16, _ => run16x16
  | 17, _ => run16x17
  | n + 18, h => absurd h (by omega)
theorem runs17 : ∀ s, s < 19 → isT (callN (fun g => nget fs1 g) 3000 3 (.cons (.q (.inp 3 20 17)) (.cons (.q (.inp 3 19 s)) .nil)) h0) = true
  | 0, _ => run17x0
  | 1, _ => run17x1
  | 2, _ => run17x2
  | 3, _ => run17x3
  | 4, _ => run17x4
  | 5, _ => run17x5
  | 6, _ => run17x6
  | 7, _ => run17x7
  | 8, _ => run17x8
  | 9, _ => run17x9
  | 10, _ => run17x10
  | 11, _ => run17x11
  | 12, _ => run17x12
  | 13, _ => run17x13
  | 14, _ => run17x14
  | 15, _ => run17x15
  | 16, _ => run17x16
  | 17, _ => run17x17
  | 18, _ => run17x18
  | n + 19, h => absurd h (by omega)
theorem runs18 : ∀ s, s < 20 → isT (callN (fun g => nget fs1 g) 3000 3 (.cons (.q (.inp 3 20 18)) (.cons (.q (.inp 3 20 s)) .nil)) h0) = true
  | 0, _ => run18x0
  | 1, _ => run18x1
  | 2, _ => run18x2
  | 3, _ => run18x3
  | 4, _ => run18x4
  | 5, _ => run18x5
  | 6, _ => run18x6
  | 7, _ => run18x7
  | 8, _ => run18x8
  | 9, _ => run18x9
  | 10, _ => run18x10
  | 11, _ => run18x11
  | 12, _ => run18x12
  | 13, _ => run18x13
  | 14, _ => run18x14
  | 15, _ => run18x15
  | 16, _ => run18x16
  | 17, _ => run18x17
  | 18, _ => run18x18
  | 19, _ => run18x19
  | n + 20, h => absurd h (by omega)
theorem runs19 : ∀ s, s < 21 → isT (callN (fun g => nget fs1 g) 3000 3 (.cons (.q (.inp 3 20 19)) (.cons (.q (.inp 3 21 s)) .nil)) h0) = true
  | 0, _ => run19x0
  | 1, _ => run19x1
  | 2, _ => run19x2
  | 3, _ => run19x3
  | 4, _ => run19x4
  | 5, _ => run19x5
  | 6, _ => run19x6
  | 7, _ => run19x7
  | 8, _ => run19x8
  | 9, _ => run19x9
  | 10, _ => run19x10
  | 11, _ => run19x11
  | 12, _ => run19x12
  | 13, _ => run19x13
  | 14, _ => run19x14
  | 15, _ => run19x15
  | 16, _ => run19x16
  | 17, _ => run19x17
  | 18, _ => run19x18
  | 19, _ => run19x19
  | 20, _ => run19x20
  | n + 21, h => absurd h (by omega)
theorem runs : ∀ r s, r < 20 → s < r + 2 → isT (callN (fun g => nget fs1 g) 3000 3 (.cons (.q (.inp 3 20 r)) (.cons (.q (.inp 3 (r + 2) s)) .nil)) h0) = true
  | 0, s, _, h => runs0 s h
  | 1, s, _, h => runs1 s h
  | 2, s, _, h => runs2 s h
  | 3, s, _, h => runs3 s h
  | 4, s, _, h => runs4 s h
  | 5, s, _, h => runs5 s h
  | 6, s, _, h => runs6 s h
  | 7, s, _, h => runs7 s h
  | 8, s, _, h => runs8 s h
  | 9, s, _, h => runs9 s h
  | 10, s, _, h => runs10 s h
  | 11, s, _, h => runs11 s h
  | 12, s, _, h => runs12 s h
  | 13, s, _, h => runs13 s h
  | 14, s, _, h => runs14 s h
  | 15, s, _, h => runs15 s h
  | 16, s, _, h => runs16 s h
  | 17, s, _, h => runs17 s h
  | 18, s, _, h => runs18 s h
  | 19, s, _, h => runs19 s h
  | n + 20, s, h, _ => absurd h (by omega)
theorem law_calls (x y : Int) (hx : IntKind.i64.wrap x = x) (hy : IntKind.i64.wrap y = y) (W : World) : Calls Tryz.prog 3 #[.int .i64 x, .int .i64 y] W (fun e W' => e = .returned (.bool true) ∧ Below W.heap.size W W') := by
  have hr : (x % (2 ^ 64 : Int)).toNat % 20 < 20 := Nat.mod_lt _ (by decide)
  have hs : (y % (2 ^ 64 : Int)).toNat % ((x % (2 ^ 64 : Int)).toNat % 20 + 2) < (x % (2 ^ 64 : Int)).toNat % 20 + 2 := Nat.mod_lt _ (by omega)
  have ent := ent_true fs1_ok (l := #[.int .i64 x, .int .i64 y]) (w := W) (runs _ _ hr hs) ⟨_, _, rfl, ⟨x, rfl, hx, rfl⟩, ⟨_, _, rfl, ⟨y, rfl, hy, rfl⟩, rfl⟩⟩
  refine (ent_calls Tryz.func3 (by kernel_rfl) (by kernel_rfl) ent).mono ?_
  intro e w' h
  cases e with
  | returned v => exact ⟨congrArg _ h.1, h.2⟩
  | _ => exact h.elim
end Go.Proofs.YtoenlbemfkedoaaGreat
