/- The law at all its inputs: its number by its remainder; conditions: none. -/
import Derived.Test.YteafkhbcbhigaaaDoorEvR
import Derived.KernelRfl
import Derived.Below
namespace Go.Proofs.YteafkhbcbhigaaaDoor
open Go Go.Ev Go.RowKit
theorem runs : ∀ (a b p q : Bool) (r : Nat), r < 4 → isT (callN (fun g => nget fs1 g) 3000 3 (.cons (.b a) (.cons (.b b) (.cons (.agg (.cons (.b p) (.cons (.b q) .nil))) (.cons (.q (.inp 3 4 r)) .nil)))) h0) = true
  | false, false, false, false, 0, _ => runffff0
  | false, false, false, false, 1, _ => runffff1
  | false, false, false, false, 2, _ => runffff2
  | false, false, false, false, 3, _ => runffff3
  | false, false, false, true, 0, _ => runffft0
  | false, false, false, true, 1, _ => runffft1
  | false, false, false, true, 2, _ => runffft2
  | false, false, false, true, 3, _ => runffft3
  | false, false, true, false, 0, _ => runfftf0
  | false, false, true, false, 1, _ => runfftf1
  | false, false, true, false, 2, _ => runfftf2
  | false, false, true, false, 3, _ => runfftf3
  | false, false, true, true, 0, _ => runfftt0
  | false, false, true, true, 1, _ => runfftt1
  | false, false, true, true, 2, _ => runfftt2
  | false, false, true, true, 3, _ => runfftt3
  | false, true, false, false, 0, _ => runftff0
  | false, true, false, false, 1, _ => runftff1
  | false, true, false, false, 2, _ => runftff2
  | false, true, false, false, 3, _ => runftff3
  | false, true, false, true, 0, _ => runftft0
  | false, true, false, true, 1, _ => runftft1
  | false, true, false, true, 2, _ => runftft2
  | false, true, false, true, 3, _ => runftft3
  | false, true, true, false, 0, _ => runfttf0
  | false, true, true, false, 1, _ => runfttf1
  | false, true, true, false, 2, _ => runfttf2
  | false, true, true, false, 3, _ => runfttf3
  | false, true, true, true, 0, _ => runfttt0
  | false, true, true, true, 1, _ => runfttt1
  | false, true, true, true, 2, _ => runfttt2
  | false, true, true, true, 3, _ => runfttt3
  | true, false, false, false, 0, _ => runtfff0
  | true, false, false, false, 1, _ => runtfff1
  | true, false, false, false, 2, _ => runtfff2
  | true, false, false, false, 3, _ => runtfff3
  | true, false, false, true, 0, _ => runtfft0
  | true, false, false, true, 1, _ => runtfft1
  | true, false, false, true, 2, _ => runtfft2
  | true, false, false, true, 3, _ => runtfft3
  | true, false, true, false, 0, _ => runtftf0
  | true, false, true, false, 1, _ => runtftf1
  | true, false, true, false, 2, _ => runtftf2
  | true, false, true, false, 3, _ => runtftf3
  | true, false, true, true, 0, _ => runtftt0
  | true, false, true, true, 1, _ => runtftt1
  | true, false, true, true, 2, _ => runtftt2
  | true, false, true, true, 3, _ => runtftt3
  | true, true, false, false, 0, _ => runttff0
  | true, true, false, false, 1, _ => runttff1
  | true, true, false, false, 2, _ => runttff2
  | true, true, false, false, 3, _ => runttff3
  | true, true, false, true, 0, _ => runttft0
  | true, true, false, true, 1, _ => runttft1
  | true, true, false, true, 2, _ => runttft2
  | true, true, false, true, 3, _ => runttft3
  | true, true, true, false, 0, _ => runtttf0
  | true, true, true, false, 1, _ => runtttf1
  | true, true, true, false, 2, _ => runtttf2
  | true, true, true, false, 3, _ => runtttf3
  | true, true, true, true, 0, _ => runtttt0
  | true, true, true, true, 1, _ => runtttt1
  | true, true, true, true, 2, _ => runtttt2
  | true, true, true, true, 3, _ => runtttt3
  | _, _, _, _, n + 4, h => absurd h (by omega)
theorem law_calls (a b p q : Bool) (n : Int) (hn : IntKind.i64.wrap n = n) (W : World) : Calls Tryd.prog 3 #[.bool a, .bool b, .agg #[.bool p, .bool q], .int .i64 n] W (fun e W' => e = .returned (.bool true) ∧ Below W.heap.size W W') := by
  have hr : (n % (2 ^ 64 : Int)).toNat % 4 < 4 := Nat.mod_lt _ (by decide)
  have ent := ent_true fs1_ok (l := #[.bool a, .bool b, .agg #[.bool p, .bool q], .int .i64 n]) (w := W) (runs a b p q _ hr)
    ⟨_, _, rfl, rfl, ⟨_, _, rfl, rfl, ⟨_, _, rfl, ⟨#[.bool p, .bool q], rfl, ⟨_, _, rfl, rfl, ⟨_, _, rfl, rfl, rfl⟩⟩, by intro x hx; simp at hx; rcases hx with rfl | rfl <;> rfl⟩, ⟨_, _, rfl, ⟨n, rfl, hn, rfl⟩, rfl⟩⟩⟩⟩
  refine (ent_calls Tryd.func3 (by kernel_rfl) (by kernel_rfl) ent).mono ?_
  intro e w' h
  cases e with
  | returned v => exact ⟨congrArg _ h.1, h.2⟩
  | _ => exact h.elim
end Go.Proofs.YteafkhbcbhigaaaDoor
