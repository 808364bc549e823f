/- The row's closed facts, each a lemma of its own; conditions: none. -/
import Derived.Test.YtoenlbemfkedoaaGreatDoorBindRoundsRowA
namespace Go.Proofs.YtoenlbemfkedoaaGreatDoor.bindRounds
open Go.ChangeShapes Go.WideShapes Go.ChangeAt Go.RowKit Go.Ev
set_option linter.unusedVariables false

theorem both {a b : Bool} (h : a = true) (k : b = true) : (a && b) = true := by rw [h, k]; rfl
set_option maxRecDepth 1000000 in
set_option maxHeartbeats 0 in
theorem facts : joinedFacts Tryz.prog 3 Tryz.f3 Rows.bindRoundsSpec Rows.bindRoundsRow = true := by
  unfold joinedFacts
  repeat' (with_reducible apply both)
  all_goals as_aux_lemma => kernel_rfl
theorem over : Rows.BindRoundsSaid :=
  OpenClaim.holds_of_wide 3 Tryz.f3 rfl rfl rfl rfl rfl rfl rfl ⟨rfl, rfl, rfl, rfl, rfl⟩ rfl rfl rfl rfl rfl (by kernel_rfl) Tryz.func3 facts
    (of_decide_eq_true (by kernel_rfl)) (by unfold Func.isWrapper; first | (rw [if_pos (by decide +kernel)]; kernel_rfl) | (rw [if_neg (by decide +kernel)]; exact ⟨rfl, rfl⟩))
    (fun os started H enc _ => lifted os started H enc)

end Go.Proofs.YtoenlbemfkedoaaGreatDoor.bindRounds
