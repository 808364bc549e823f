/- The reference's Letter and Digit; conditions: none. -/
import Derived.Test.YtkhfciinbdhbpaaSnD
namespace Go.Proofs.Ytkhfciinbdhbpaa
open Go.RowKit Go.WideShapes Go.ChangeShapes
set_option linter.unusedVariables false
set_option maxRecDepth 100000

theorem ref_letter (c : Int) (w : World) : Calls Try.prog 31 #[.int .u8 c] w fun e w' => e = .returned (.bool (letterC c)) ∧ w = w' := by
  obtain ⟨r, hr⟩ : ∃ r, r = letterC c := ⟨_, rfl⟩
  rw [← hr]
  have HRB := hide hr
  clear hr
  go_enter Try.func31, Try.ntmps31
  go_wp2_with fail
  all_goals go_ret
  all_goals exact ⟨ret_bS (by rw [HRB.out]; unfold letterC; first | (apply decide_eq_decide.2; omega) | (symm; apply decide_eq_false; omega) | (symm; apply decide_eq_true; omega) | (rw [Bool.eq_iff_iff]; simp; omega)), rfl⟩

theorem ref_digit (c : Int) (w : World) : Calls Try.prog 32 #[.int .u8 c] w fun e w' => e = .returned (.bool (digitC c)) ∧ w = w' := by
  obtain ⟨r, hr⟩ : ∃ r, r = digitC c := ⟨_, rfl⟩
  rw [← hr]
  have HRB := hide hr
  clear hr
  go_enter Try.func32, Try.ntmps32
  go_wp2_with fail
  all_goals go_ret
  all_goals exact ⟨ret_bS (by rw [HRB.out]; unfold digitC; first | (apply decide_eq_decide.2; omega) | (symm; apply decide_eq_false; omega) | (symm; apply decide_eq_true; omega) | (rw [Bool.eq_iff_iff]; simp; omega)), rfl⟩
end Go.Proofs.Ytkhfciinbdhbpaa
