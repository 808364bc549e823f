/- Any row of truths as an argument; no conditions. -/
import Derived.Test.YtaaadbaakhjkcaaCoArgs
import Derived.Test.YtaaadbaakhjkcaaRcGI
namespace Go.Proofs.Ytaaadbaakhjkcaa
open Go.ChangeShapes Go.WideShapes Go.Deep Go.RowKit Go.Joins
set_option linter.unusedVariables false
set_option linter.unusedSimpArgs false
section
variable {H : Type} {enc : TypeId × Value → H} {W : World} {spare : Nat → Bool} {held : Bool}
theorem open_boolsC {fuel : Nat} {v : Value} {x : DataW H × List MemPlace} (h : DataW.trod enc Try.prog W 0 spare held fuel 46 [v] = some x) : ∃ l, BoolsAt W v l := by
  obtain ⟨l, h2, _⟩ := open_rowsC encB (s := 1) (fun _ => rfl) (by omega) (fun _ => True) Try.underlying46 (by kernel_rfl) h (fun cs m y hl ht => by
    match cs, hl with
    | [u], _ =>
      obtain ⟨k, q0, _⟩ := DataW.trod_bool Try.underlying4 ht
      exact ⟨k, by rw [q0]; rfl, trivial⟩)
  exact ⟨l, h2⟩
end
end Go.Proofs.Ytaaadbaakhjkcaa
