/- No func of the program starts a goroutine: so no call does; conditions: none. -/
import Derived.Test.YtoenlbemfkedoaaGreatDoorChecked
import GoSem.ClaimGoes
import Derived.KernelRfl
namespace Go.Proofs.YtoenlbemfkedoaaGreatDoor
open Go
set_option maxRecDepth 1000000
theorem goes_none {P : Program} (h : P.funcs.any Func.goes = false) (c : OpenClaim) : c.goesBy P = false := by
  have one : ∀ g : FuncId, (P.funcs[g]?).any Func.goes = false := by
    intro g
    cases hg : P.funcs[g]? with
    | none => rfl
    | some fn =>
      rw [Array.any_eq_false] at h
      obtain ⟨hl, he⟩ := Array.getElem?_eq_some_iff.1 hg
      have := h g hl
      rw [he] at this
      simpa using this
  have all : ∀ f : FuncId, P.goes f = false := by
    intro f
    unfold Program.goes
    rw [h, Bool.and_false, Bool.or_false, List.any_eq_false]
    intro g _
    rw [one g]
    exact Bool.false_ne_true
  unfold OpenClaim.goesBy Program.goesAt Program.goesFrom
  have h1 : (P.funcNamed c.func).any P.goes = false := by
    cases P.funcNamed c.func with
    | none => rfl
    | some f => exact all f
  rw [h1, Bool.false_or]
  cases c.start with
  | entering => rfl
  | _ => exact List.any_eq_false.2 fun f _ => by rw [all f]; exact Bool.false_ne_true
theorem goes_off : Tryz.prog.funcs.any Func.goes = false := by kernel_rfl
theorem goes_by (c : OpenClaim) : c.goesBy Tryz.prog = false := goes_none goes_off c
end Go.Proofs.YtoenlbemfkedoaaGreatDoor
