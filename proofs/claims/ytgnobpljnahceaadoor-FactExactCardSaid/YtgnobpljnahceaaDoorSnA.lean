/- The small functions of package scan, each by a contract: isLetter, isDigit, isPart, escaped; conditions: none. -/
import Derived.Test.YtgnobpljnahceaaDoorRows
import Derived.Test.YtgnobpljnahceaaDoorWords
import Derived.WalkSmall
namespace Go.Proofs.YtgnobpljnahceaaDoor
open Go.RowKit Go.WideShapes Go.ChangeShapes
set_option linter.unusedVariables false
set_option maxRecDepth 100000

/-- Whether a byte is a letter, or the low line. -/
def letterC (c : Int) : Bool := decide ((97 ≤ c ∧ c ≤ 122) ∨ (65 ≤ c ∧ c ≤ 90) ∨ c = 95)
/-- Whether a byte is a digit. -/
def digitC (c : Int) : Bool := decide (48 ≤ c ∧ c ≤ 57)
def partC (c : Int) : Bool := letterC c || digitC c
theorem ret_bS {a b : Bool} (h : a = b) : Ending.returned (.bool a) = Ending.returned (.bool b) := by rw [h]

theorem is_letter (c : Int) (w : World) : Calls Tryd.prog 68 #[.int .u8 c] w fun e w' => e = .returned (.bool (letterC c)) ∧ w = w' := by
  obtain ⟨r, hr⟩ : ∃ r, r = letterC c := ⟨_, rfl⟩
  rw [← hr]
  have HRB := hide hr
  clear hr
  go_enter Tryd.func68, Tryd.ntmps68
  go_wp2_with fail
  all_goals go_ret
  all_goals exact ⟨ret_bS (by rw [HRB.out]; unfold letterC; first | (apply decide_eq_decide.2; omega) | (symm; apply decide_eq_false; omega) | (symm; apply decide_eq_true; omega) | (rw [Bool.eq_iff_iff]; simp; omega)), rfl⟩

theorem is_digit (c : Int) (w : World) : Calls Tryd.prog 71 #[.int .u8 c] w fun e w' => e = .returned (.bool (digitC c)) ∧ w = w' := by
  obtain ⟨r, hr⟩ : ∃ r, r = digitC c := ⟨_, rfl⟩
  rw [← hr]
  have HRB := hide hr
  clear hr
  go_enter Tryd.func71, Tryd.ntmps71
  go_wp2_with fail
  all_goals go_ret
  all_goals exact ⟨ret_bS (by rw [HRB.out]; unfold digitC; first | (apply decide_eq_decide.2; omega) | (symm; apply decide_eq_false; omega) | (symm; apply decide_eq_true; omega) | (rw [Bool.eq_iff_iff]; simp; omega)), rfl⟩

theorem is_part (c : Int) (w : World) : Calls Tryd.prog 70 #[.int .u8 c] w fun e w' => e = .returned (.bool (partC c)) ∧ w = w' := by
  have hl := is_letter c w
  have hd := is_digit c w
  unfold partC
  generalize letterC c = l at hl ⊢
  generalize digitC c = d at hd ⊢
  have HL := hide hl
  have HD := hide hd
  clear hl hd
  go_enter Tryd.func70, Tryd.ntmps70
  go_wp2_with fail
  refine HL.out.mono ?_
  rintro e w' ⟨rfl, rfl⟩
  cases l with
  | true =>
    go_wp2_with fail
    all_goals go_ret
    all_goals exact ⟨rfl, rfl⟩
  | false =>
    go_wp2_with fail
    refine HD.out.mono ?_
    rintro e w' ⟨rfl, rfl⟩
    go_wp2_with fail
    all_goals go_ret
    all_goals exact ⟨by simp, rfl⟩

/-- What the byte behind a 5C stands for; 0, if for nothing. -/
def escC (c : Int) : Int := if c = 110 then 10 else if c = 116 then 9 else if c = 34 ∨ c = 92 then c else 0

end Go.Proofs.YtgnobpljnahceaaDoor
