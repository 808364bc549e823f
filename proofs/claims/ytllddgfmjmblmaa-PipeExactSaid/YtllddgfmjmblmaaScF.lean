/- The reference's Change of layer 7; conditions: its scopes are ones of the call's own. -/
import Derived.Test.YtllddgfmjmblmaaScE
namespace Go.Proofs.Ytllddgfmjmblmaa
open Go.RowKit Go.WideShapes Go.ChangeShapes
set_option linter.unusedVariables false
set_option maxRecDepth 100000

section
variable {w w' : World} {B r : Nat} {xo xi xl : Value} {outer ins : List Int} {objs : List ObjV} {tbl : List ((Int × ByteArray) × Nat)}
theorem RS.st13 (h : RS w B r xo xi xl outer ins objs) {g : Nat} (hg : xl.ownBlock = some g) (m : Nat) (h1 : 1 ≤ m) (hm : m < objs.length + 1) (o : ObjV) : RS (st13 w g (m * 13) o) B r xo xi xl outer ins (objs.set (m - 1) o) := by
  have hr : r ≠ g := fun e => by subst e; exact own_blk_ne h.ob h.bl (by decide) hg
  have hne : ∀ {v : Value} {n : Nat} {xs : List Value}, w.ownsRow B 3 1 v n xs → ∀ i, v.ownBlock = some i → i ≠ g := fun {v n xs} hv i hi e => by
    subst e
    rcases own_ne_own7 hv h.ob (by decide) with x | x
    · rw [x] at hi; cases hi
    · exact x (hi.trans hg.symm)
  refine ⟨(out_st13 (w' := w) hr).trans h.bl, own_fr h.ou fun i hi => out_st13 (w' := w) (hne h.ou i hi), own_fr h.is fun i hi => out_st13 (w' := w) (hne h.is i hi), ?_, h.rB, h.ne⟩
  have := own_st13 h.ob hg (m * 13) o
  rw [set13_at o (zeroO :: objs) m (by simpa using hm)] at this
  rw [show m = (m - 1) + 1 by omega, List.set_cons_succ] at this
  simpa [show m - 1 + 1 = m by omega] using this

def RChangePost (w : World) (B r : Nat) (xo xi xl : Value) (outer ins : List Int) (objs : List ObjV) (i : Int) (o : ObjV) (e : Ending) (w' : World) : Prop :=
  e = .returned (.int .i64 (if chNo objs i o then 1 else 0)) ∧ RS w' B r xo xi xl outer ins (if chNo objs i o then objs else objs.set (i - 1).toNat o) ∧ Below B w w' ∧ Fr (fpR r xo xi xl) w w'

set_option maxHeartbeats 1000000 in
theorem ref_change_any (h : RS w B r xo xi xl outer ins objs) (i : Int) (o : ObjV) (hn : objs.length ≤ 70000) :
    Calls Try.prog 51 #[.pointer (some ⟨r, 0, none⟩), .int .i64 i, o.val] w (RChangePost w B r xo xi xl outer ins objs i o) := by
  obtain ⟨W0, hW0⟩ : ∃ W : World, W = w.alloc (.cells o.arr 42) := ⟨_, rfl⟩
  obtain ⟨bo, hbo⟩ : ∃ n, n = w.heap.size := ⟨_, rfl⟩
  have hb0 : Blk W0 bo 42 o.arr := by rw [hW0, hbo]; exact Blk.new _ _ _
  have h0 : RS W0 B r xo xi xl outer ins objs := by rw [hW0]; exact h.alloc _
  have hbw : Below B w W0 := by rw [hW0]; exact (Below.refl _ _).alloc h.lt _
  have hf0 : Fr (fpR r xo xi xl) w W0 := by rw [hW0]; exact (Fr.refl _ _).alloc _
  have o0 := hb0.cell 0
  have o1 := hb0.cell 1
  simp at o0 o1
  obtain ⟨c0, c1, c2⟩ := h0.cells
  obtain ⟨gl, cl, hxl, hl1, hl2, hlc⟩ := own_cell h0.ob (by omega)
  rw [hxl] at c2
  have HXL := hide hxl
  have HB0 := hide hb0
  have HH := hide h0
  have HWE := hide hW0
  have HBE := hide hbo
  have HLC := hide hlc
  have HE := hide (show chNo objs i o = true → ∀ q, RChangePost w B r xo xi xl outer ins objs i o (.returned (.int .i64 1)) (W0.drewN q) from fun e q => ⟨by rw [e]; rfl, by rw [e]; exact h0.drewN q, below_drewN hbw q, hf0⟩)
  have HBF := hide (And.intro hbw hf0)
  have HBL := hide (And.intro hl1 hl2)
  clear h h0 hb0 hbw hW0 hbo hf0 hxl hlc hl1 hl2
  by_cases h1 : i < 1
  · have HN := hide (HE.out (by have : hasB objs.length i = false := (by unfold hasB; exact decide_eq_false (by omega)); simp [chNo, this]))
    have s1 : decide (i < 1) = true := decide_eq_true h1
    clear HE h1
    unfold ObjV.val
    go_enter Try.func51, Try.ntmps51
    go_wp2_with fail
    rw [← HWE.out]
    rw [← HBE.out]
    go_quiet (fail)
    go_wp2_with fail
    go_ret
    exact HN.out _
  have s1 : decide (i < 1) = false := decide_eq_false h1
  by_cases h2 : (objs.length : Int) + 1 ≤ i
  · have HN := hide (HE.out (by have : hasB objs.length i = false := (by unfold hasB; exact decide_eq_false (by omega)); simp [chNo, this]))
    have s2 : decide ((objs.length : Int) + 1 ≤ i) = true := decide_eq_true h2
    have s3 : decide (((objs.length + 1 : Nat) : Int) ≤ i) = true := decide_eq_true (by omega)
    clear HE h1 h2
    unfold ObjV.val
    go_enter Try.func51, Try.ntmps51
    go_wp2_with fail
    rw [← HWE.out]
    rw [← HBE.out]
    go_quiet (fail)
    go_wp2_with fail
    go_ret
    exact HN.out _
  have s2 : decide ((objs.length : Int) + 1 ≤ i) = false := decide_eq_false h2
  have s3 : decide (((objs.length + 1 : Nat) : Int) ≤ i) = false := decide_eq_false (by omega)
  by_cases h3 : o.k < 1
  · have HN := hide (HE.out (by have : decide (1 ≤ o.k ∧ o.k ≤ 9) = false := decide_eq_false (by omega); simp only [chNo, this]; simp))
    have s4 : decide (o.k < 1) = true := decide_eq_true h3
    clear HE h1 h2 h3
    unfold ObjV.val
    go_enter Try.func51, Try.ntmps51
    go_wp2_with fail
    rw [← HWE.out]
    rw [← HBE.out]
    go_quiet (fail)
    go_wp2_with fail
    go_ret
    exact HN.out _
  have s4 : decide (o.k < 1) = false := decide_eq_false h3
  by_cases h4 : 9 < o.k
  · have HN := hide (HE.out (by have : decide (1 ≤ o.k ∧ o.k ≤ 9) = false := decide_eq_false (by omega); simp only [chNo, this]; simp))
    have s5 : decide (9 < o.k) = true := decide_eq_true h4
    clear HE h1 h2 h3 h4
    unfold ObjV.val
    go_enter Try.func51, Try.ntmps51
    go_wp2_with fail
    rw [← HWE.out]
    rw [← HBE.out]
    go_quiet (fail)
    go_wp2_with fail
    go_ret
    exact HN.out _
  have s5 : decide (9 < o.k) = false := decide_eq_false h4
  obtain ⟨m, hm⟩ : ∃ m : Nat, m = i.toNat := ⟨_, rfl⟩
  obtain rfl : i = (m : Int) := by omega
  have hm1 : 1 ≤ m := by omega
  have hm2 : m < objs.length + 1 := by omega
  have hml : m - 1 < objs.length := by omega
  obtain ⟨x, hxe⟩ : ∃ x, x = objs[m - 1] := ⟨_, rfl⟩
  have hx : objs[m - 1]? = some x := by rw [hxe]; exact List.getElem?_eq_getElem hml
  have hno : chNo objs (m : Int) o = !(decide (x.name = o.name)) := by
    have e1 : hasB objs.length (m : Int) = true := by rw [hasB_iff]; omega
    have e2 : decide (1 ≤ o.k ∧ o.k ≤ 9) = true := decide_eq_true (by omega)
    have e3 : objs.getD ((m : Int) - 1).toNat zeroO = x := by rw [show ((m : Int) - 1).toNat = m - 1 by omega, List.getD_eq_getElem?_getD, hx]; rfl
    unfold chNo
    rw [e1, e2, e3]
    rfl
  have hxa : ∀ (j : Nat) (u : Value), x.cells[j]? = some u → W0.cell? ⟨gl, m * 13 + j, none⟩ = some u := fun j u hu =>
    HLC.out _ _ (objects_at (zeroO :: objs) m x (by rw [show m = (m - 1) + 1 by omega, List.getElem?_cons_succ]; exact hx) j u hu)
  have hxn := hxa 1 _ rfl
  have HXA := hide hxa
  have HNO := hide hno
  have t1 : (m : Int) < (objs.length : Int) + 1 := by omega
  have t2 : (m : Int) < ((objs.length + 1 : Nat) : Int) := by omega
  have HM := hide (And.intro hm1 hm2)
  clear hx hxe hno hxa hm h1 h2 h3 h4 hml
  by_cases hnm : x.name = o.name
  · have HE2 := hide (show ∀ k, RChangePost w B r xo xi xl outer ins objs (m : Int) o (.returned (.int .i64 0)) (st13 (W0.drewN k) gl (m * 13) o).drew from fun k => by
      have e : chNo objs (m : Int) o = false := by rw [HNO.out, hnm]; simp
      have hgo : xl.ownBlock = some gl := by rw [HXL.out]; rfl
      have h13 := (HH.out.drewN k).st13 hgo m hm1 hm2 o
      refine ⟨by rw [e]; rfl, by rw [e]; simpa [show ((m : Int) - 1).toNat = m - 1 by omega] using h13.drew, (below_st13 (below_drewN HBF.out.1 k) (HH.out.ob.lt _ hgo).1 _ _).drew, (fr_st13 (HBF.out.2.drewN k) (mem_fpR.2 (.inr (.inr (.inr hgo)))) _ _).drew⟩)
    have hnb : (o.name.toList == x.name.toList) = true := by rw [hnm]; simp
    have hnc : (o.name.toList != x.name.toList) = false := by unfold bne; rw [hnb]; rfl
    have HFZ : Hid (∀ j, W0.frozen? ⟨gl, j, none⟩ = false) := hide (by
      rcases HH.out.ob.2 with ⟨_, hz⟩ | ⟨g, cap, cur, hv, _, hg, _⟩
      · omega
      · rw [HXL.out] at hv
        injection hv with hv _ _
        injection hv with hv
        injection hv with hv _ _
        subst hv
        intro j
        exact Blk.frozen (t := 42) (cs := cur) hg j)
    rw [hnm] at hxn hnb hnc
    clear hnm hm1 hm2 HE HNO
    unfold ObjV.val
    go_enter Try.func51, Try.ntmps51
    go_wp2_with fail
    rw [← HWE.out]
    rw [← HBE.out]
    go_quiet (fail)
    go_wp2_with fail
    have HE0 := HE2.out nq
    obtain ⟨W1, hW1⟩ : ∃ W, W = W0.drewN nq := ⟨_, rfl⟩
    rw [← hW1] at HE0
    unfold st13 at HE0
    have HE1 := hide HE0
    have y0 : W1.cell? ⟨r, 2, none⟩ = some (.slice (some ⟨gl, 0, none⟩) (objs.length + 1) cl) := by rw [hW1]; exact c2
    have fz1 : ∀ j, W1.frozen? ⟨gl, j, none⟩ = false := by rw [hW1]; exact HFZ.out
    have hb1 : Blk W1 bo 42 o.arr := by rw [hW1]; exact HB0.out.drewN nq
    have z0 := hb1.cell 0
    have z1 := hb1.cell 1
    have z2 := hb1.cell 2
    have z3 := hb1.cell 3
    have z4 := hb1.cell 4
    have z5 := hb1.cell 5
    have z6 := hb1.cell 6
    have z7 := hb1.cell 7
    have z8 := hb1.cell 8
    have z9 := hb1.cell 9
    have z10 := hb1.cell 10
    have z11 := hb1.cell 11
    have z12 := hb1.cell 12
    simp at z0 z1 z2 z3 z4 z5 z6 z7 z8 z9 z10 z11 z12
    have HXA1 : Hid (∀ (j : Nat) (u : Value), x.cells[j]? = some u → W1.cell? ⟨gl, m * 13 + j, none⟩ = some u) := hide (by rw [hW1]; exact HXA.out)
    have e0 := HXA1.out 0 _ rfl
    have e1 := HXA1.out 1 _ rfl
    have e2 := HXA1.out 2 _ rfl
    have e3 := HXA1.out 3 _ rfl
    have e4 := HXA1.out 4 _ rfl
    have e5 := HXA1.out 5 _ rfl
    have e6 := HXA1.out 6 _ rfl
    have e7 := HXA1.out 7 _ rfl
    have e8 := HXA1.out 8 _ rfl
    have e9 := HXA1.out 9 _ rfl
    have e10 := HXA1.out 10 _ rfl
    have e11 := HXA1.out 11 _ rfl
    have e12 := HXA1.out 12 _ rfl
    simp only [Nat.add_zero] at e0
    rw [← hW1]
    clear HE0 HE2 hW1 hb1 o0 o1 c0 c1 c2 HB0 hxn
    go_still_tail 7, (by kernel_rfl)
    go_wp2_with fail
    go_ret
    exact HE1.out
  · have HN := hide (HE.out (by rw [HNO.out]; simp [hnm]))
    have hnb : (o.name.toList == x.name.toList) = false := str_ne (fun e => hnm e.symm)
    have hnc : (o.name.toList != x.name.toList) = true := by unfold bne; rw [hnb]; rfl
    clear HE hnm hm1 hm2
    unfold ObjV.val
    go_enter Try.func51, Try.ntmps51
    go_wp2_with fail
    rw [← HWE.out]
    rw [← HBE.out]
    go_quiet (fail)
    go_wp2_with fail
    go_ret
    exact HN.out _
end
end Go.Proofs.Ytllddgfmjmblmaa
