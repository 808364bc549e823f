/- What WideParts answers, of any two numbers; no conditions. -/
import Derived.Test.YthedfplafcfklaaDoorWideF
namespace Go.Proofs.YthedfplafcfklaaDoor
open Go.RowKit Go.WideShapes Go.ChangeShapes
set_option linter.unusedVariables false
set_option maxRecDepth 100000
theorem cmp_neg {z : Int} (h : z < 0) : cmpI z 0 = -1 := by unfold cmpI; rw [if_pos h]
theorem cmp_pos {z : Int} (h : 0 < z) : cmpI z 0 = 1 := by unfold cmpI; rw [if_neg (by omega), if_pos h]
theorem cmp_lt {z y : Int} (h : z < y) : cmpI z y = -1 := by unfold cmpI; rw [if_pos h]
theorem parts_law {x y : Int} (hx : Fits x) (hy : Fits y) (w : World) :
    Calls Tryd.prog 7 #[wv (hiW x) (loW x), wv (hiW y) (loW y)] w fun e w' => e = .returned (.bool true) ∧ Below w.heap.size w w' := by
  by_cases h0 : y = 0
  · subst h0
    exact parts_zero _ _ w
  have hq := fun W => quo_any hx hy h0 W
  have hrm := fun W => rem_any hx hy h0 W
  have fr := rem_fits (x := x) hy h0
  rw [ansW_val] at hq hrm
  rw [(valW_yes fr).1, (valW_yes fr).2] at hrm
  have hca := fun W => cmp_any hx fits_zero W
  by_cases hf : Fits (quoW x y)
  · rw [(valW_yes hf).1, (valW_yes hf).2] at hq
    have fp := prod_fits hx h0
    have hp := fun W => mul_any hf hy W
    rw [ansW_val, (valW_yes fp).1, (valW_yes fp).2] at hp
    have ha := fun W => add_any fp fr W
    rw [quo_rem h0, ansW_val, (valW_yes hx).1, (valW_yes hx).2] at ha
    have hcr := fun W => cmp_any fr fits_zero W
    have hcb := fun W => cmp_any hy fits_zero W
    obtain ⟨hlt, hsg⟩ := rem_lt (x := x) h0
    have fa : Fits (absW (remW x y)) := by
      have a0 : 0 ≤ absW (remW x y) := by unfold absW; split <;> omega
      have a1 : absW y ≤ 170141183460469231731687303715884105728 := by unfold Fits at hy; unfold absW; split <;> omega
      unfold Fits; omega
    have fm : Fits (-absW (remW x y)) := by
      have a0 : 0 ≤ absW (remW x y) := by unfold absW; split <;> omega
      unfold Fits at *; omega
    refine parts_walk _ _ _ _ _ _ _ _ _ _ (hiW (absW (remW x y))) (loW (absW (remW x y))) (hiW (-absW (remW x y))) (loW (-absW (remW x y))) _ _ _ (fun e => h0 ((zero_iff hy).1 e)) (hide hq) (hide hrm) (hide hp) (hide ha) (hide hcr) (hide hca) (hide hcb) (hide ?_) (hide ?_) (hide ?_) w
    · rcases hsg with h | ⟨h, h'⟩ | ⟨h, h'⟩
      · refine .inl ⟨((zero_iff fr).2 h).1, ((zero_iff fr).2 h).2, ?_⟩
        rw [h]; rfl
      · exact .inr ⟨fun e => by have := (zero_iff fr).1 e; omega, .inl ⟨cmp_pos h, cmp_pos h'⟩⟩
      · exact .inr ⟨fun e => by have := (zero_iff fr).1 e; omega, .inr ⟨cmp_neg h, cmp_neg h'⟩⟩
    · by_cases hn : remW x y < 0
      · refine .inr ⟨cmp_neg hn, fun W => ?_⟩
        have e : absW (remW x y) = -remW x y := by unfold absW; rw [if_pos hn]
        have h := neg_any fr W
        rw [e] at fa
        rw [ansW_val, (valW_yes fa).1, (valW_yes fa).2] at h
        rw [e]
        exact h
      · have e : absW (remW x y) = remW x y := by unfold absW; rw [if_neg hn]
        rw [e]
        refine .inl ⟨?_, rfl, rfl⟩
        unfold cmpI
        rw [if_neg hn]
        split
        · exact .inr rfl
        · exact .inl rfl
    · by_cases hyp : 0 < y
      · refine .inl ⟨cmp_pos hyp, fun W => ?_⟩
        have h := cmp_any fa hy W
        rw [cmp_lt (by unfold absW at hlt ⊢; split at hlt <;> split at hlt <;> (try split) <;> omega)] at h
        exact h
      · refine .inr ⟨cmp_neg (by omega), fun W => ?_, fun W => ?_⟩
        · have h := neg_any fa W
          rw [ansW_val, (valW_yes fm).1, (valW_yes fm).2] at h
          exact h
        · have h := cmp_any hy fm W
          rw [cmp_lt (by unfold absW at hlt ⊢; split at hlt <;> split at hlt <;> (try split) <;> omega)] at h
          exact h
  · obtain ⟨rfl, hr0, hxn⟩ := quo_over hx hy h0 hf
    rw [(valW_no hf).2] at hq
    rw [hr0] at hrm
    rw [cmp_neg hxn] at hca
    exact parts_over _ _ _ _ (hide hq) (hide hrm) (hide hca) w
end Go.Proofs.YthedfplafcfklaaDoor
