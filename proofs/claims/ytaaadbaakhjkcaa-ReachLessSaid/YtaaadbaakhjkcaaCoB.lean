/- The simple funcs of package code; conditions: as each says. -/
import Derived.Test.YtaaadbaakhjkcaaCoA
namespace Go.Proofs.Ytaaadbaakhjkcaa
open Go.RowKit Go.WideShapes Go.ChangeShapes
set_option linter.unusedVariables false
set_option linter.unusedSimpArgs false
set_option maxRecDepth 100000

def endsB (op : Int) : Bool := op == 19 || op == 37 || op == 23 || op == 26
theorem ends_any (i : Ins) (av rv : Value) (w : World) : Calls Try.prog 30 #[i.val av rv] w (BoolP w (endsB i.op)) := by
  obtain ⟨a, ha⟩ : ∃ a, a = w.heap.size := ⟨_, rfl⟩
  obtain ⟨W1, hW1⟩ : ∃ W1, W1 = w.alloc (.cells (i.arr av rv) 45) := ⟨_, rfl⟩
  have hb1 : Below w.heap.size w W1 := by rw [hW1]; exact (Below.refl _ _).alloc (Nat.le_refl _) _
  have hba : Blk W1 a 45 (i.arr av rv) := by rw [hW1, ha]; exact Blk.new _ _ _
  have z0 : W1.cell? ⟨a, 0, none⟩ = some (.int .i64 i.op) := hba.cell 0
  have HB1 := hide hb1
  have HW1 := hide hW1
  have HA := hide ha
  have HBA := hide hba
  obtain ⟨o, ho⟩ : ∃ o, o = i.op := ⟨_, rfl⟩
  rw [← ho] at z0 ⊢
  clear hb1 hW1 ha hba ho
  go_enter Try.func30, Try.ntmps30
  go_upto_region 1 with (fail)
  rw [← HW1.out, ← HA.out]
  go_wp2_with fail
  all_goals go_ret
  all_goals exact ⟨ret_bS (by unfold endsB; first | rfl | simp_all), HB1.out⟩
def countB (n : Int) : Bool := decide (0 ≤ n ∧ n ≤ 65536)
theorem count_any (n : Int) (w : World) : Calls Try.prog 52 #[.int .i64 n] w fun e w' => e = .returned (.bool (countB n)) ∧ w = w' := by
  by_cases h1 : 0 ≤ n
  · by_cases h2 : n ≤ 65536
    · have HE := hide (show countB n = true from decide_eq_true ⟨h1, h2⟩)
      go_enter Try.func52, Try.ntmps52
      go_wp2_with fail
      go_ret
      exact ⟨ret_bS HE.out.symm, rfl⟩
    · have HE := hide (show countB n = false from decide_eq_false (fun h => h2 h.2))
      go_enter Try.func52, Try.ntmps52
      go_wp2_with fail
      go_ret
      exact ⟨ret_bS HE.out.symm, rfl⟩
  · have HE := hide (show countB n = false from decide_eq_false (fun h => h1 h.1))
    go_enter Try.func52, Try.ntmps52
    go_wp2_with fail
    go_ret
    exact ⟨ret_bS HE.out.symm, rfl⟩
def meantI (i : Ins) : List Int := if i.op = 19 ∨ i.op = 20 then [i.to_] else if i.op = 37 then i.arms.map Arm.to_ else []
def RowP (w : World) (l : List Int) (e : Ending) (w' : World) : Prop := ∃ v', e = .returned v' ∧ w'.ownsRow w.heap.size 3 1 v' l.length (l.map iI) ∧ Below w.heap.size w w'
end Go.Proofs.Ytaaadbaakhjkcaa
