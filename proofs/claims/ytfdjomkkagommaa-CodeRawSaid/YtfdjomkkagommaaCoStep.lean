/- Steps of a builder that come as an argument, opened; conditions: none but that they can be read as data. -/
import Derived.Test.YtfdjomkkagommaaCoArgs
import Derived.Test.YtfdjomkkagommaaCoAd
namespace Go.Proofs.Ytfdjomkkagommaa
open Go.ChangeShapes Go.WideShapes Go.Deep Go.RowKit Go.Joins
set_option linter.unusedVariables false
set_option linter.unusedSimpArgs false
set_option maxRecDepth 100000

section
variable {H : Type} {enc : TypeId × Value → H} {W : World} {spare : Nat → Bool} {held : Bool}
theorem list24C {α : Type} {l : List α} (h : l.length = 24) : ∃ a b r, l = a :: b :: r ∧ r.length = 22 := by
  match l, h with
  | a :: b :: r, h => exact ⟨a, b, r, rfl, by simpa using h⟩
theorem open_stepC {cs : List Value} {m : Nat} {y : DataW H × List MemPlace} (hl : cs.length = 24) (h : DataW.trod enc Try.prog W 0 spare held m 57 cs = some y) : ∃ s : Stp, cs = s.enc ∧ InsOk W s.x.i s.x.av s.x.rv := by
  obtain ⟨a, b, r, rfl, hr⟩ := list24C hl
  have e1 : Try.prog.cellsOf 3 = 1 := by kernel_rfl
  have e2 : Try.prog.cellsOf 39 = 22 := by kernel_rfl
  obtain ⟨n0, y0, t0⟩ := trod_fieldC Try.underlying57 h 0 _ rfl
  obtain ⟨n1, y1, t1⟩ := trod_fieldC Try.underlying57 h 1 _ rfl
  obtain ⟨n2, y2, t2⟩ := trod_fieldC Try.underlying57 h 2 _ rfl
  simp [e1] at t0 t1
  have t2 : DataW.trod enc Try.prog W 0 spare held n2 39 (r.take (Try.prog.cellsOf 39)) = some y2 := t2
  rw [e2, List.take_of_length_le (by omega)] at t2
  obtain ⟨k, q0, _⟩ := DataW.trod_int Try.underlying3 t0
  obtain ⟨n, q1, _⟩ := DataW.trod_int Try.underlying3 t1
  obtain ⟨x, hx, hok⟩ := open_insC hr t2
  simp only [List.cons.injEq, and_true] at q0 q1
  subst q0 q1 hx
  exact ⟨⟨k, n, x⟩, rfl, hok⟩
end
end Go.Proofs.Ytfdjomkkagommaa
