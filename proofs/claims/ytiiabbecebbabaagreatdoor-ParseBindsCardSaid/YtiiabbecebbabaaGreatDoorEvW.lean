/- The law at all its inputs: its numbers by their remainders; conditions: none. -/
import Derived.Test.YtiiabbecebbabaaGreatDoorEvRA
import Derived.KernelRfl
import Derived.Below
import Derived.Test.YtiiabbecebbabaaGreatDoorEvRB
import Derived.Test.YtiiabbecebbabaaGreatDoorEvRC
import Derived.Test.YtiiabbecebbabaaGreatDoorEvRD
import Derived.Test.YtiiabbecebbabaaGreatDoorEvRE
import Derived.Test.YtiiabbecebbabaaGreatDoorEvRF
import Derived.Test.YtiiabbecebbabaaGreatDoorEvRG
namespace Go.Proofs.YtiiabbecebbabaaGreatDoor
open Go Go.Ev Go.RowKit
theorem runs0 : ∀ s, s < 13 → isT (callN (fun g => nget fs1 g) 3000 3 (.cons (.q (.inp 3 13 0)) (.cons (.q (.inp 3 13 s)) .nil)) h0) = true
  | 0, _ => run0x0
  | 1, _ => run0x1
  | 2, _ => run0x2
  | 3, _ => run0x3
  | 4, _ => run0x4
  | 5, _ => run0x5
  | 6, _ => run0x6
  | 7, _ => run0x7
  | 8, _ => run0x8
  | 9, _ => run0x9
  | 10, _ => run0x10
  | 11, _ => run0x11
  | 12, _ => run0x12
  | n + 13, h => absurd h (by omega)
theorem runs1 : ∀ s, s < 13 → isT (callN (fun g => nget fs1 g) 3000 3 (.cons (.q (.inp 3 13 1)) (.cons (.q (.inp 3 13 s)) .nil)) h0) = true
  | 0, _ => run1x0
  | 1, _ => run1x1
  | 2, _ => run1x2
  | 3, _ => run1x3
  | 4, _ => run1x4
  | 5, _ => run1x5
  | 6, _ => run1x6
  | 7, _ => run1x7
  | 8, _ => run1x8
  | 9, _ => run1x9
  | 10, _ => run1x10
  | 11, _ => run1x11
  | 12, _ => run1x12
  | n + 13, h => absurd h (by omega)
theorem runs2 : ∀ s, s < 13 → isT (callN (fun g => nget fs1 g) 3000 3 (.cons (.q (.inp 3 13 2)) (.cons (.q (.inp 3 13 s)) .nil)) h0) = true
  | 0, _ => run2x0
  | 1, _ => run2x1
  | 2, _ => run2x2
  | 3, _ => run2x3
  | 4, _ => run2x4
  | 5, _ => run2x5
  | 6, _ => run2x6
  | 7, _ => run2x7
  | 8, _ => run2x8
  | 9, _ => run2x9
  | 10, _ => run2x10
  | 11, _ => run2x11
  | 12, _ => run2x12
  | n + 13, h => absurd h (by omega)
theorem runs3 : ∀ s, s < 13 → isT (callN (fun g => nget fs1 g) 3000 3 (.cons (.q (.inp 3 13 3)) (.cons (.q (.inp 3 13 s)) .nil)) h0) = true
  | 0, _ => run3x0
  | 1, _ => run3x1
  | 2, _ => run3x2
  | 3, _ => run3x3
  | 4, _ => run3x4
  | 5, _ => run3x5
  | 6, _ => run3x6
  | 7, _ => run3x7
  | 8, _ => run3x8
  | 9, _ => run3x9
  | 10, _ => run3x10
  | 11, _ => run3x11
  | 12, _ => run3x12
  | n + 13, h => absurd h (by omega)
theorem runs4 : ∀ s, s < 13 → isT (callN (fun g => nget fs1 g) 3000 3 (.cons (.q (.inp 3 13 4)) (.cons (.q (.inp 3 13 s)) .nil)) h0) = true
  | 0, _ => run4x0
  | 1, _ => run4x1
  | 2, _ => run4x2
  | 3, _ => run4x3
  | 4, _ => run4x4
  | 5, _ => run4x5
  | 6, _ => run4x6
  | 7, _ => run4x7
  | 8, _ => run4x8
  | 9, _ => run4x9
  | 10, _ => run4x10
  | 11, _ => run4x11
  | 12, _ => run4x12
  | n + 13, h => absurd h (by omega)
theorem runs5 : ∀ s, s < 13 → isT (callN (fun g => nget fs1 g) 3000 3 (.cons (.q (.inp 3 13 5)) (.cons (.q (.inp 3 13 s)) .nil)) h0) = true
  | 0, _ => run5x0
  | 1, _ => run5x1
  | 2, _ => run5x2
  | 3, _ => run5x3
  | 4, _ => run5x4
  | 5, _ => run5x5
  | 6, _ => run5x6
  | 7, _ => run5x7
  | 8, _ => run5x8
  | 9, _ => run5x9
  | 10, _ => run5x10
  | 11, _ => run5x11
  | 12, _ => run5x12
  | n + 13, h => absurd h (by omega)
theorem runs6 : ∀ s, s < 13 → isT (callN (fun g => nget fs1 g) 3000 3 (.cons (.q (.inp 3 13 6)) (.cons (.q (.inp 3 13 s)) .nil)) h0) = true
  | 0, _ => run6x0
  | 1, _ => run6x1
  | 2, _ => run6x2
  | 3, _ => run6x3
  | 4, _ => run6x4
  | 5, _ => run6x5
  | 6, _ => run6x6
  | 7, _ => run6x7
  | 8, _ => run6x8
  | 9, _ => run6x9
  | 10, _ => run6x10
  | 11, _ => run6x11
  | 12, _ => run6x12
  | n + 13, h => absurd h (by omega)
theorem runs7 : ∀ s, s < 13 → isT (callN (fun g => nget fs1 g) 3000 3 (.cons (.q (.inp 3 13 7)) (.cons (.q (.inp 3 13 s)) .nil)) h0) = true
  | 0, _ => run7x0
  | 1, _ => run7x1
  | 2, _ => run7x2
  | 3, _ => run7x3
  | 4, _ => run7x4
  | 5, _ => run7x5
  | 6, _ => run7x6
  | 7, _ => run7x7
  | 8, _ => run7x8
  | 9, _ => run7x9
  | 10, _ => run7x10
  | 11, _ => run7x11
  | 12, _ => run7x12
  | n + 13, h => absurd h (by omega)
theorem runs8 : ∀ s, s < 13 → isT (callN (fun g => nget fs1 g) 3000 3 (.cons (.q (.inp 3 13 8)) (.cons (.q (.inp 3 13 s)) .nil)) h0) = true
  | 0, _ => run8x0
  | 1, _ => run8x1
  | 2, _ => run8x2
  | 3, _ => run8x3
  | 4, _ => run8x4
  | 5, _ => run8x5
  | 6, _ => run8x6
  | 7, _ => run8x7
  | 8, _ => run8x8
  | 9, _ => run8x9
  | 10, _ => run8x10
  | 11, _ => run8x11
  | 12, _ => run8x12
  | n + 13, h => absurd h (by omega)
theorem runs9 : ∀ s, s < 13 → isT (callN (fun g => nget fs1 g) 3000 3 (.cons (.q (.inp 3 13 9)) (.cons (.q (.inp 3 13 s)) .nil)) h0) = true
  | 0, _ => run9x0
  | 1, _ => run9x1
  | 2, _ => run9x2
  | 3, _ => run9x3
  | 4, _ => run9x4
  | 5, _ => run9x5
  | 6, _ => run9x6
  | 7, _ => run9x7
  | 8, _ => run9x8
  | 9, _ => run9x9
  | 10, _ => run9x10
  | 11, _ => run9x11
  | 12, _ => run9x12
  | n + 13, h => absurd h (by omega)
theorem runs10 : ∀ s, s < 13 → isT (callN (fun g => nget fs1 g) 3000 3 (.cons (.q (.inp 3 13 10)) (.cons (.q (.inp 3 13 s)) .nil)) h0) = true
  | 0, _ => run10x0
  | 1, _ => run10x1
  | 2, _ => run10x2
  | 3, _ => run10x3
  | 4, _ => run10x4
  | 5, _ => run10x5
  | 6, _ => run10x6
  | 7, _ => run10x7
  | 8, _ => run10x8
  | 9, _ => run10x9
  | 10, _ => run10x10
  | 11, _ => run10x11
  | 12, _ => run10x12
  | n + 13, h => absurd h (by omega)
theorem runs11 : ∀ s, s < 13 → isT (callN (fun g => nget fs1 g) 3000 3 (.cons (.q (.inp 3 13 11)) (.cons (.q (.inp 3 13 s)) .nil)) h0) = true
  | 0, _ => run11x0
  | 1, _ => run11x1
  | 2, _ => run11x2
  | 3, _ => run11x3
  | 4, _ => run11x4
  | 5, _ => run11x5
  | 6, _ => run11x6
  | 7, _ => run11x7
  | 8, _ => run11x8
  | 9, _ => run11x9
  | 10, _ => run11x10
  | 11, _ => run11x11
  | 12, _ => run11x12
  | n + 13, h => absurd h (by omega)
theorem runs12 : ∀ s, s < 13 → isT (callN (fun g => nget fs1 g) 3000 3 (.cons (.q (.inp 3 13 12)) (.cons (.q (.inp 3 13 s)) .nil)) h0) = true
  | 0, _ => run12x0
  | 1, _ => run12x1
  | 2, _ => run12x2
  | 3, _ => run12x3
  | 4, _ => run12x4
  | 5, _ => run12x5
  | 6, _ => run12x6
  | 7, _ => run12x7
  | 8, _ => run12x8
  | 9, _ => run12x9
  | 10, _ => run12x10
  | 11, _ => run12x11
  | 12, _ => run12x12
  | n + 13, h => absurd h (by omega)
theorem runs : ∀ r s, r < 13 → s < 13 → isT (callN (fun g => nget fs1 g) 3000 3 (.cons (.q (.inp 3 13 r)) (.cons (.q (.inp 3 13 s)) .nil)) h0) = true
  | 0, s, _, h => runs0 s h
  | 1, s, _, h => runs1 s h
  | 2, s, _, h => runs2 s h
  | 3, s, _, h => runs3 s h
  | 4, s, _, h => runs4 s h
  | 5, s, _, h => runs5 s h
  | 6, s, _, h => runs6 s h
  | 7, s, _, h => runs7 s h
  | 8, s, _, h => runs8 s h
  | 9, s, _, h => runs9 s h
  | 10, s, _, h => runs10 s h
  | 11, s, _, h => runs11 s h
  | 12, s, _, h => runs12 s h
  | n + 13, s, h, _ => absurd h (by omega)
theorem law_calls (x y : Int) (hx : IntKind.i64.wrap x = x) (hy : IntKind.i64.wrap y = y) (W : World) : Calls Tryz.prog 3 #[.int .i64 x, .int .i64 y] W (fun e W' => e = .returned (.bool true) ∧ Below W.heap.size W W') := by
  have hr : (x % (2 ^ 64 : Int)).toNat % 13 < 13 := Nat.mod_lt _ (by decide)
  have hs : (y % (2 ^ 64 : Int)).toNat % 13 < 13 := Nat.mod_lt _ (by decide)
  have ent := ent_true fs1_ok (l := #[.int .i64 x, .int .i64 y]) (w := W) (runs _ _ hr hs) ⟨_, _, rfl, ⟨x, rfl, hx, rfl⟩, ⟨_, _, rfl, ⟨y, rfl, hy, rfl⟩, rfl⟩⟩
  refine (ent_calls Tryz.func3 (by kernel_rfl) (by kernel_rfl) ent).mono ?_
  intro e w' h
  cases e with
  | returned v => exact ⟨congrArg _ h.1, h.2⟩
  | _ => exact h.elim
end Go.Proofs.YtiiabbecebbabaaGreatDoor
