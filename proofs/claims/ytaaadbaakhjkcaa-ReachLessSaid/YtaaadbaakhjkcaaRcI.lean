/- What code comes to without a graph; the union of two rows; what isn't great is small; conditions: the func is in memory. -/
import Derived.Test.YtaaadbaakhjkcaaRcH
namespace Go.Proofs.Ytaaadbaakhjkcaa
open Go.RowKit Go.WideShapes Go.ChangeShapes
set_option linter.unusedVariables false
set_option linter.unusedSimpArgs false
set_option maxRecDepth 100000

set_option maxHeartbeats 4000000 in
theorem codr_none (p : Pr) (hs : List Bool) (code : List IV) (ns : Nat) (vn : Value) (w : World) (h : PrOk w p hs code ns) :
    Calls Try.prog 19 #[p.val, .agg #[.slice none 0 0, .slice none 0 0, .slice none 0 0], vn] w fun e w' => e = .returned (.slice none 0 0) ∧ Below w.heap.size w w' := by
  obtain ⟨gp, hgp⟩ : ∃ gp, gp = w.heap.size := ⟨_, rfl⟩
  obtain ⟨W1, hW1⟩ : ∃ W1, W1 = (w.alloc (.cells p.arr 29)).alloc (.cells #[.slice none 0 0, .slice none 0 0, .slice none 0 0] 34) := ⟨_, rfl⟩
  obtain ⟨g, hg⟩ : ∃ g, g = gp + 1 := ⟨_, rfl⟩
  have hb1 : Below w.heap.size w W1 := by rw [hW1]; exact ((Below.refl _ _).alloc (Nat.le_refl _) _).alloc (by simp) _
  have HBG := hide (show Blk W1 g 34 #[.slice none 0 0, .slice none 0 0, .slice none 0 0] by
    have h := Blk.new (w.alloc (.cells p.arr 29)) 34 #[.slice none 0 0, .slice none 0 0, .slice none 0 0]
    rw [← hW1] at h
    rw [hg, hgp]
    simpa using h)
  obtain ⟨PV, hPV⟩ : ∃ PV, PV = p.val := ⟨_, rfl⟩
  have HPV := hide (show PV = .agg p.arr from hPV)
  have HPV2 := hide (show PV = p.val from hPV)
  have g0 : W1.cell? ⟨g, 0, none⟩ = some (.slice none 0 0) := HBG.out.cell 0
  have HB1 := hide hb1
  have HW1 := hide hW1
  have HGP := hide hgp
  have HG := hide hg
  clear h hb1 hW1 hgp hg hPV
  go_enter Try.func19, Try.ntmps19
  go_upto_region 1 with (fail)
  rw [← HPV2.out, ← HGP.out]
  rw [HPV.out, ← HG.out, ← HW1.out, ← HPV.out]
  go_wp2_with fail
  go_ret
  exact ⟨rfl, HB1.out⟩
def getB (l : List Bool) (q : Nat) : Bool := (l[q]?).getD false
def bothL (a b : List Bool) (k : Nat) : List Bool := (List.range k).map (fun q => getB a q || getB b q)
theorem bothL_succ (a b : List Bool) (k : Nat) : bothL a b (k + 1) = bothL a b k ++ [getB a k || getB b k] := by
  unfold bothL
  rw [List.range_succ, List.map_append]
  rfl
theorem bothL_len (a b : List Bool) (k : Nat) : (bothL a b k).length = k := by unfold bothL; simp
theorem inB_get (l : List Bool) (i : Int) : inB l i = (decide (0 ≤ i) && getB l i.toNat) := by
  unfold inB getB
  cases l[i.toNat]? <;> rfl
theorem both_more (a b : List Bool) {k : Nat} (hk : a.length ≤ k) (i : Int) (h : inB a i = true) : inB (bothL a b k) i = true := by
  rw [inB_get, Bool.and_eq_true] at h ⊢
  refine ⟨h.1, ?_⟩
  have hl : i.toNat < a.length := by
    rcases Nat.lt_or_ge i.toNat a.length with h1 | h1
    · exact h1
    · have h2 := h.2
      unfold getB at h2
      rw [List.getElem?_eq_none h1] at h2
      cases h2
  unfold getB bothL
  rw [List.getElem?_map, List.getElem?_range (by omega)]
  show (getB a i.toNat || getB b i.toNat) = true
  rw [h.2]
  rfl
theorem getB_at {l : List Bool} {q : Nat} {b : Bool} (h : l[q]? = some b) : getB l q = b := by unfold getB; rw [h]; rfl
theorem getB_none {l : List Bool} {q : Nat} (h : l.length ≤ q) : getB l q = false := by unfold getB; rw [List.getElem?_eq_none h]; rfl
theorem small_of22 {hs : List Bool} {code : List IV} {ns : Nat} (h : greatC hs code ns = false) : code.length ≤ 40 ∧ ns ≤ 40 ∧ ∀ x ∈ code, x.i.arms.length ≤ 100 ∧ x.i.args.length ≤ 100 := by
  unfold greatC at h
  rw [Bool.or_eq_false_iff, Bool.or_eq_false_iff, Bool.or_eq_false_iff] at h
  obtain ⟨h1, h2, h3, h4⟩ := h
  refine ⟨by have := of_decide_eq_false h1; omega, by have := of_decide_eq_false h3; omega, fun x hx => ?_⟩
  have h5 := List.any_eq_false.1 h4 x hx
  have h6 : greatX x.i = false := by simpa using h5
  unfold greatX at h6
  rw [Bool.or_eq_false_iff, Bool.or_eq_false_iff] at h6
  have h7 := of_decide_eq_false h6.1
  have h8 := of_decide_eq_false h6.2.1
  omega
end Go.Proofs.Ytaaadbaakhjkcaa
