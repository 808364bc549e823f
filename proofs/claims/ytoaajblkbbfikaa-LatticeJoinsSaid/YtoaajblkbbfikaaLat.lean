/- What the calls of package lattice do, each by a contract; conditions: the facts' cells are in memory, and are cells of the lattice where that is asked. -/
import Derived.Test.YtoaajblkbbfikaaRows
import Derived.Test.YtoaajblkbbfikaaWords
import Derived.BigQuiet
import Derived.WalkSmall
import Derived.IntWalk
namespace Go.Proofs.Ytoaajblkbbfikaa
open Go.RowKit Go.WideShapes Go.ChangeShapes
set_option linter.unusedVariables false
set_option maxRecDepth 100000

theorem intInfo_ : (Try.prog.info? 3).map (fun i => (i.zero, i.size, i.bytes)) = some (some (.int .i64 0), 1, 8) := by kernel_rfl

/-- Whether a number is a cell of the lattice with this tag. -/
def cellB (tag c : Int) : Bool := decide ((tag = 1 ∧ 0 ≤ c ∧ c ≤ 3) ∨ (tag = 2 ∧ (c = 0 ∨ c = 1)))
/-- Two cells joined. -/
def jn (tag a b : Int) : Int := if tag = 1 ∧ a ≠ b ∧ a ≠ 0 ∧ b ≠ 0 then 3 else max a b

theorem cellB_one (c : Int) : cellB 1 c = decide (0 ≤ c ∧ c ≤ 3) := by simp [cellB]
theorem cellB_two (c : Int) : cellB 2 c = decide (c = 0 ∨ c = 1) := by simp [cellB]
theorem cellB_no {tag : Int} (h1 : tag ≠ 1) (h2 : tag ≠ 2) (c : Int) : cellB tag c = false := by simp [cellB, h1, h2]
theorem ret_b {a b : Bool} (h : a = b) : Ending.returned (.bool a) = Ending.returned (.bool b) := by rw [h]
theorem ret_i {a b : Int} (h : a = b) : Ending.returned (.int .i64 a) = Ending.returned (.int .i64 b) := by rw [h]

theorem isCell_any (tag c : Int) (w : World) : Calls Try.prog 77 #[.int .i64 tag, .int .i64 c] w fun e w' => e = .returned (.bool (cellB tag c)) ∧ w = w' := by
  by_cases h1 : tag = 1
  · subst h1
    go_enter Try.func77, Try.ntmps77
    go_wp2
    all_goals go_ret
    all_goals exact ⟨ret_b (by rw [cellB_one, Bool.eq_iff_iff]; simp <;> omega), rfl⟩
  · by_cases h2 : tag = 2
    · subst h2
      go_enter Try.func77, Try.ntmps77
      go_wp2
      all_goals go_ret
      all_goals exact ⟨ret_b (by rw [cellB_two, Bool.eq_iff_iff]; simp <;> omega), rfl⟩
    · have q1 : (tag == 1) = false := beq_eq_false_iff_ne.2 h1
      have q2 : (tag == 2) = false := beq_eq_false_iff_ne.2 h2
      have H := hide (cellB_no h1 h2 c)
      go_enter Try.func77, Try.ntmps77
      go_wp2
      all_goals go_ret
      all_goals exact ⟨ret_b (by rw [H.out]), rfl⟩

theorem joined_ok (tag a b : Int) (w : World) (ht : tag = 1 ∨ tag = 2) (ha : cellB tag a = true) (hb : cellB tag b = true) :
    Calls Try.prog 79 #[.int .i64 tag, .int .i64 a, .int .i64 b] w fun e w' => e = .returned (.int .i64 (jn tag a b)) ∧ w = w' := by
  rcases ht with rfl | rfl
  · have H1 := isCell_any 1 a w
    have H2 := isCell_any 1 b w
    rw [ha] at H1
    rw [hb] at H2
    have H1 := hide H1
    have H2 := hide H2
    clear ha hb
    by_cases h2 : a = b
    · subst h2
      go_enter Try.func79, Try.ntmps79
      go_wp2_with fail
      go_ret
      exact ⟨ret_i (by unfold jn; omega), rfl⟩
    · have q2 : (a == b) = false := beq_eq_false_iff_ne.2 h2
      by_cases h3 : a = 0
      · subst h3
        go_enter Try.func79, Try.ntmps79
        go_wp2_with fail
        all_goals go_ret
        all_goals exact ⟨ret_i (by unfold jn; omega), rfl⟩
      · have q3 : (a == 0) = false := beq_eq_false_iff_ne.2 h3
        by_cases h4 : b = 0
        · subst h4
          go_enter Try.func79, Try.ntmps79
          go_wp2_with fail
          all_goals go_ret
          all_goals exact ⟨ret_i (by unfold jn; omega), rfl⟩
        · have q4 : (b == 0) = false := beq_eq_false_iff_ne.2 h4
          go_enter Try.func79, Try.ntmps79
          go_wp2_with fail
          refine H1.out.mono ?_
          rintro e w' ⟨rfl, rfl⟩
          go_wp2_with fail
          refine H2.out.mono ?_
          rintro e w' ⟨rfl, rfl⟩
          go_wp2_with fail
          go_ret
          exact ⟨ret_i (by unfold jn; rw [if_pos ⟨rfl, h2, h3, h4⟩]), rfl⟩
  · clear ha hb
    go_enter Try.func79, Try.ntmps79
    go_wp2_with fail
    all_goals go_ret
    all_goals exact ⟨ret_i (by unfold jn; omega), rfl⟩

end Go.Proofs.Ytoaajblkbbfikaa
