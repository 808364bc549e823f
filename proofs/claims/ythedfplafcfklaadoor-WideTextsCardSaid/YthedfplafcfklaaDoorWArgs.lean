/- Arguments that are numbers of 128 bits, opened; conditions: none but that they can be read as data. -/
import Derived.Test.YthedfplafcfklaaDoorWMath
import Derived.Test.YthedfplafcfklaaDoorRows
import Derived.Lib.SmallJoins
import Derived.ChangeSlices
import Derived.ChangeSame
import Derived.Carry
import Derived.OpenShut
namespace Go.Proofs.YthedfplafcfklaaDoor
open Go.ChangeShapes Go.WideShapes Go.Deep Go.RowKit Go.Joins
set_option linter.unusedVariables false
set_option maxRecDepth 100000

section
variable {H : Type} {enc : TypeId × Value → H} {W : World} {spare : Nat → Bool} {held : Bool}
theorem open_wide {r : Reach} {b0 : Nat} {v : Value} {d : DataW H} {p : List MemPlace} (hv : Value.okWide Tryd.prog W r b0 24 v) (h : DataW.Trod enc Tryd.prog W 0 spare held 24 v d p) :
    ∃ x, Fits x ∧ v = .agg #[.int .u64 (hiW x), .int .u64 (loW x)] := by
  obtain ⟨v0, v1, y0, y1, n, rfl, _, _, t0, t1⟩ := open_agg2 Tryd.underlying24 (by kernel_rfl) (by kernel_rfl) hv h
  obtain ⟨a, e0, _, wa⟩ := DataW.trod_int Tryd.underlying22 t0
  obtain ⟨b, e1, _, wb⟩ := DataW.trod_int Tryd.underlying22 t1
  simp only [List.cons.injEq, and_true] at e0 e1
  subst e0 e1
  have ha := bounds_u64 wa
  have hb := bounds_u64 wb
  have ka : Word a := ⟨ha.1, by omega⟩
  have kb : Word b := ⟨hb.1, by omega⟩
  exact ⟨numW a b, numW_fits ka kb, by rw [hiW_num ka kb, loW_num ka kb]⟩
end
end Go.Proofs.YthedfplafcfklaaDoor
