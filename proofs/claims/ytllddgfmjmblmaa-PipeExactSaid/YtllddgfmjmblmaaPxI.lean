/- A row of calls of layer 16, opened; conditions: none but that it can be read as data. -/
import Derived.Test.YtllddgfmjmblmaaPxH
namespace Go.Proofs.Ytllddgfmjmblmaa
open Go.ChangeShapes Go.WideShapes Go.Deep Go.RowKit Go.Joins
set_option linter.unusedVariables false
set_option maxRecDepth 100000

theorem list4 {α : Type} {l : List α} (h : l.length = 4) : ∃ a b c d, l = [a, b, c, d] := by
  match l, h with
  | [a, b, c, d], _ => exact ⟨a, b, c, d, rfl⟩
section
variable {H : Type} {enc : TypeId × Value → H} {W : World} {spare : Nat → Bool} {held : Bool}
theorem open_acts16 {fuel : Nat} {A : Option Addr} {n c : Nat} {x : DataW H × List MemPlace} (h : DataW.trod enc Try.prog W 0 spare held fuel 62 [.slice A n c] = some x) :
    ∃ xs : List A16, RA16 W W.heap.size A n xs ∧ n ≤ c ∧ c ≤ maxLen := by
  obtain ⟨xs, h1, h2, h3, h4, h5⟩ := open_flats A16.cells A16.cells_length (by omega) (fun x => RV W W.heap.size x.A x.m x.vs ∧ (∀ v ∈ x.vs, v.s.size ≤ maxLen) ∧ x.m ≤ maxLen) Try.underlying62 (by kernel_rfl) h fun cs m y hl ht => by
    obtain ⟨c0, c1, c2, c3, rfl⟩ := list4 hl
    have e1 : Try.prog.cellsOf 3 = 1 := by kernel_rfl
    have e2 : Try.prog.cellsOf 66 = 1 := by kernel_rfl
    obtain ⟨n0, y0, t0⟩ := trod_field Try.underlying68 ht 0 _ rfl
    obtain ⟨n1, y1, t1⟩ := trod_field Try.underlying68 ht 1 _ rfl
    obtain ⟨n2, y2, t2⟩ := trod_field Try.underlying68 ht 2 _ rfl
    obtain ⟨n3, y3, t3⟩ := trod_field Try.underlying68 ht 3 _ rfl
    simp [e1, e2] at t0 t1 t2 t3
    obtain ⟨k, q0, _⟩ := DataW.trod_int Try.underlying3 t0
    obtain ⟨a, q1, _⟩ := DataW.trod_int Try.underlying3 t1
    obtain ⟨i, q2, _⟩ := DataW.trod_int Try.underlying3 t2
    have hu : ∃ A' n' c', c3 = .slice A' n' c' := by
      rcases open_slice Try.underlying66 t3 with ⟨h0, _⟩ | ⟨a', len', cap', _, _, _, _, hcs', _⟩
      · simp only [List.cons.injEq, and_true] at h0; exact ⟨_, _, _, h0⟩
      · simp only [List.cons.injEq, and_true] at hcs'; exact ⟨_, _, _, hcs'⟩
    obtain ⟨A', n', c', rfl⟩ := hu
    obtain ⟨vs, hR, hs, hn, hc⟩ := open_vals t3
    simp only [List.cons.injEq, and_true] at q0 q1 q2
    subst q0 q1 q2
    exact ⟨⟨k, a, i, A', n', c', vs⟩, rfl, hR, hs, (show n' ≤ maxLen by omega)⟩
  exact ⟨xs, ⟨h1, h2, h3⟩, h4, h5⟩
end
end Go.Proofs.Ytllddgfmjmblmaa
