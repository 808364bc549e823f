/- Arguments that are facts, opened; conditions: none but that they can be read as data. -/
import Derived.Test.YtoaajblkbbfikaaLatLeast
import Derived.Lib.SmallJoins
import Derived.ChangeSlices
import Derived.ChangeSame
import Derived.Carry
namespace Go.Proofs.Ytoaajblkbbfikaa
open Go.ChangeShapes Go.WideShapes Go.Deep Go.RowKit Go.Joins
set_option linter.unusedVariables false
set_option maxRecDepth 100000

section
variable {H : Type} {enc : TypeId × Value → H} {W : World} {spare : Nat → Bool} {held : Bool}
theorem open_cells {fuel : Nat} {v : Value} {x : DataW H × List MemPlace} (h : DataW.trod enc Try.prog W 0 spare held fuel 30 [v] = some x) :
    ∃ A n c xs, v = .slice A n c ∧ RI W W.heap.size A n xs ∧ n ≤ maxLen := by
  rcases open_ints Try.underlying30 Try.underlying3 (by kernel_rfl) h with ⟨h0, _⟩ | ⟨a, len, cap, zs, hcs, _, hl, hm, hz, _, hat, _⟩
  · simp only [List.cons.injEq, and_true] at h0
    exact ⟨none, 0, 0, [], h0, ⟨rfl, Reads.none_⟩, Nat.zero_le _⟩
  · simp only [List.cons.injEq, and_true] at hcs
    have hle : len ≤ zs.length := by rw [hz]; split <;> omega
    refine ⟨some a, len, cap, zs.take len, hcs, ⟨by simp; omega, by simp; omega, fun hn => ⟨a, rfl, ?_, fun j u hu => ?_⟩⟩, by omega⟩
    · have h0 := hat 0 (by omega)
      have := World.block_lt_of_cell? W _ h0
      rwa [block_of_add] at this
    · rw [List.getElem?_map] at hu
      obtain ⟨y, hy, rfl⟩ := Option.map_eq_some_iff.1 hu
      have hj := (List.getElem?_eq_some_iff.1 hy).1
      simp at hj
      have hc := hat j (by omega)
      rw [List.getElem?_take_of_lt (by omega)] at hy
      rw [hc, List.getD_eq_getElem?_getD, hy]
      rfl

theorem open_known {r : Reach} {b0 : Nat} {v : Value} {d : DataW H} {p : List MemPlace} (hv : Value.okWide Try.prog W r b0 103 v) (h : DataW.Trod enc Try.prog W 0 spare held 103 v d p) :
    ∃ (cm : Bool) (A : Option Addr) (n c : Nat) (xs : List Int), v = .agg #[.bool cm, .slice A n c] ∧ RI W W.heap.size A n xs ∧ n ≤ maxLen := by
  obtain ⟨v0, v1, y0, y1, n, rfl, _, _, t0, t1⟩ := open_agg2 Try.underlying103 (by kernel_rfl) (by kernel_rfl) hv h
  obtain ⟨b, e0, _⟩ := DataW.trod_bool Try.underlying4 t0
  obtain ⟨A, n, c, xs, rfl, hR, hn⟩ := open_cells t1
  simp only [List.cons.injEq, and_true] at e0
  subst e0
  exact ⟨b, A, n, c, xs, rfl, hR, hn⟩
end

end Go.Proofs.Ytoaajblkbbfikaa
