/- The labels' places, and where what is placed goes on; no conditions. -/
import Derived.Test.YtfdjomkkagommaaCoAa
namespace Go.Proofs.Ytfdjomkkagommaa
open Go.RowKit Go.WideShapes Go.ChangeShapes
set_option linter.unusedVariables false
set_option linter.unusedSimpArgs false
set_option maxRecDepth 100000

/-- Each label lies nowhere or among what was put. -/
def LabOk (b : Bd) : Prop := ∀ v ∈ b.labels, -1 ≤ v ∧ v ≤ b.put
theorem LabOk.label {b : Bd} (h : LabOk b) (hp : 0 ≤ b.put) (lv : Value) : LabOk { b with labels := b.labels ++ [-1], lv := lv } := fun v hv => by
  rcases List.mem_append.1 hv with hv | hv
  · exact h v hv
  · rw [List.mem_singleton.1 hv]
    exact ⟨by omega, by show (-1 : Int) ≤ b.put; omega⟩
theorem LabOk.mark {b : Bd} (h : LabOk b) (hp : 0 ≤ b.put) (x : Int) : LabOk (markB b x) := by
  unfold markB
  split
  · intro v hv
    rcases List.mem_or_eq_of_mem_set hv with hv | hv
    · exact h v hv
    · rw [hv]
      exact ⟨by omega, Int.le_refl _⟩
  · exact h
theorem LabOk.more {b b' : Bd} (h : LabOk b) (hl : b'.labels = b.labels) (hp : b.put ≤ b'.put) : LabOk b' := fun v hv => by
  rw [hl] at hv
  have := h v hv
  omega
theorem stands_at {b : Bd} {x : Int} (h : LabOk b) (hs : standsB b x = true) : 0 ≤ labelAt b x ∧ labelAt b x < b.put := by
  unfold standsB at hs
  rw [Bool.and_eq_true, Bool.and_eq_true, decide_eq_true_iff, decide_eq_true_iff, decide_eq_true_iff] at hs
  obtain ⟨⟨h1, h2⟩, h3, h4⟩ := hs
  obtain ⟨k, rfl⟩ : ∃ k : Nat, x = (k : Int) := ⟨x.toNat, by omega⟩
  have hk : k < b.labels.length := by omega
  have e : labelAt b (k : Int) = b.labels[k] := labelAt_at (List.getElem?_eq_getElem hk)
  have := h _ (List.getElem_mem hk)
  rw [e] at h3 h4 ⊢
  omega
theorem placed_dest {b : Bd} {i : Ins} {pc y : Int} (h : LabOk b) (hs : standB b (meantI i) = true) (hy : y ∈ dest (placedI b i) pc) : (0 ≤ y ∧ y < b.put) ∨ (y = IntKind.i64.wrap (pc + 1) ∧ endsB i.op = false) := by
  have hall := List.all_eq_true.1 hs
  by_cases h19 : i.op = 19
  · have e : dest (placedI b i) pc = [labelAt b i.to_] := by unfold placedI dest; simp [h19]
    rw [e] at hy
    rw [List.mem_singleton.1 hy]
    exact .inl (stands_at h (hall _ (by unfold meantI; simp [h19])))
  · by_cases h20 : i.op = 20
    · have e : dest (placedI b i) pc = [labelAt b i.to_, IntKind.i64.wrap (pc + 1)] := by unfold placedI dest; simp [h20]
      rw [e] at hy
      rcases List.mem_cons.1 hy with hy | hy
      · rw [hy]
        exact .inl (stands_at h (hall _ (by unfold meantI; simp [h20])))
      · exact .inr ⟨List.mem_singleton.1 hy, by unfold endsB; rw [h20]; rfl⟩
    · by_cases h37 : i.op = 37
      · have e : dest (placedI b i) pc = (i.arms.map (placedA b)).map Arm.to_ := by unfold placedI dest; simp [h37]
        rw [e] at hy
        obtain ⟨x, hx, rfl⟩ := List.mem_map.1 hy
        obtain ⟨z, hz, rfl⟩ := List.mem_map.1 hx
        exact .inl (stands_at h (hall _ (by unfold meantI; simp [h37]; exact ⟨z, hz, rfl⟩)))
      · have ep : placedI b i = i := by unfold placedI; rw [if_neg (by omega), if_neg h37]
        rw [ep] at hy
        unfold dest at hy
        rw [if_neg h19, if_neg h20, if_neg h37] at hy
        by_cases h23 : i.op = 23 ∨ i.op = 26
        · rw [if_pos h23] at hy
          cases hy
        · rw [if_neg h23] at hy
          refine .inr ⟨List.mem_singleton.1 hy, ?_⟩
          unfold endsB
          simp
          omega
end Go.Proofs.Ytfdjomkkagommaa
