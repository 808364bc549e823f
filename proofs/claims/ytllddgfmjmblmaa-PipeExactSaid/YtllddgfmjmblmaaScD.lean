/- Change of package scope; conditions: the scopes are ones of the call's own. -/
import Derived.Test.YtllddgfmjmblmaaScC
import Derived.StillTailTactics
namespace Go.Proofs.Ytllddgfmjmblmaa
open Go.RowKit Go.WideShapes Go.ChangeShapes
set_option linter.unusedVariables false
set_option maxRecDepth 100000

theorem own_set {w : World} {B e s n g : Nat} {v : Value} {xs : List Value} (h : w.ownsRow B e s v n xs) (hv : v.ownBlock = some g) (j : Nat) (u : Value) : (w.setCell ⟨g, j, none⟩ u).ownsRow B e s v n (xs.set j u) := by
  refine ⟨by simpa using h.1, ?_⟩
  rcases h.2 with ⟨rfl, _⟩ | ⟨g', cap, cur, rfl, h1, h2, h3, h4, h5, h6⟩
  · simp [Value.ownBlock] at hv
  · obtain rfl : g' = g := by simpa [Value.ownBlock] using hv
    have hb : Blk w g' e cur := h2
    refine .inr ⟨g', cap, cur.setIfInBounds j u, rfl, h1, hb.set_ j u, h3, h4, by simpa using h5, ?_⟩
    rw [Array.toList_setIfInBounds, List.take_set, h6]
def set13 (xs : List Value) (k : Nat) (o : ObjV) : List Value :=
  ((((((((((((xs.set k (.int .i64 o.k)).set (k + 1) (.string o.name)).set (k + 2) (.int .i64 o.t)).set (k + 3) (.int .i64 o.node)).set (k + 4) (.int .i64 o.num)).set (k + 5) (.int .i64 o.ck)).set (k + 6) (.int .u64 o.hi)).set (k + 7) (.int .u64 o.lo)).set (k + 8) (.bool o.b)).set (k + 9) (.string o.s)).set (k + 10) (.int .i64 o.f)).set (k + 11) (.int .i64 o.l)).set (k + 12) (.int .i64 o.c)
theorem set13_at (o : ObjV) : ∀ (objs : List ObjV) (q : Nat), q < objs.length → set13 (objs.flatMap ObjV.cells) (q * 13) o = (objs.set q o).flatMap ObjV.cells
  | [], q, h => by simp at h
  | x :: xs, 0, _ => by
    simp [set13, ObjV.cells]
  | x :: xs, q + 1, h => by
    have ih := set13_at o xs q (by simpa using h)
    rw [List.set_cons_succ, List.flatMap_cons, List.flatMap_cons, ← ih]
    have e0 : (q + 1) * 13 = q * 13 + 13 := by omega
    simp only [set13, e0]
    simp [ObjV.cells]
/-- The thirteen stores of an object. -/
def st13 (w : World) (g k : Nat) (o : ObjV) : World :=
  ((((((((((((w.setCell ⟨g, k, none⟩ (.int .i64 o.k)).setCell ⟨g, k + 1, none⟩ (.string o.name)).setCell ⟨g, k + 2, none⟩ (.int .i64 o.t)).setCell ⟨g, k + 3, none⟩ (.int .i64 o.node)).setCell ⟨g, k + 4, none⟩ (.int .i64 o.num)).setCell ⟨g, k + 5, none⟩ (.int .i64 o.ck)).setCell ⟨g, k + 6, none⟩ (.int .u64 o.hi)).setCell ⟨g, k + 7, none⟩ (.int .u64 o.lo)).setCell ⟨g, k + 8, none⟩ (.bool o.b)).setCell ⟨g, k + 9, none⟩ (.string o.s)).setCell ⟨g, k + 10, none⟩ (.int .i64 o.f)).setCell ⟨g, k + 11, none⟩ (.int .i64 o.l)).setCell ⟨g, k + 12, none⟩ (.int .i64 o.c)
theorem own_st13 {w : World} {B e s n g : Nat} {v : Value} {xs : List Value} (h : w.ownsRow B e s v n xs) (hv : v.ownBlock = some g) (k : Nat) (o : ObjV) : (st13 w g k o).ownsRow B e s v n (set13 xs k o) :=
  own_set (own_set (own_set (own_set (own_set (own_set (own_set (own_set (own_set (own_set (own_set (own_set (own_set h hv _ _) hv _ _) hv _ _) hv _ _) hv _ _) hv _ _) hv _ _) hv _ _) hv _ _) hv _ _) hv _ _) hv _ _) hv _ _
theorem fr_st13 {L : List Nat} {w w' : World} (h : Fr L w w') {g : Nat} (hg : g ∈ L) (k : Nat) (o : ObjV) : Fr L w (st13 w' g k o) := by
  unfold st13
  exact ((((((((((((h.setCell (.inl hg) _).setCell (.inl hg) _).setCell (.inl hg) _).setCell (.inl hg) _).setCell (.inl hg) _).setCell (.inl hg) _).setCell (.inl hg) _).setCell (.inl hg) _).setCell (.inl hg) _).setCell (.inl hg) _).setCell (.inl hg) _).setCell (.inl hg) _).setCell (.inl hg) _
theorem below_st13 {B : Nat} {w w' : World} (h : Below B w w') {g : Nat} (hg : B ≤ g) (k : Nat) (o : ObjV) : Below B w (st13 w' g k o) := by
  unfold st13
  exact ((((((((((((h.setCell (p := ⟨g, k, none⟩) hg _).setCell (p := ⟨g, k + 1, none⟩) hg _).setCell (p := ⟨g, k + 2, none⟩) hg _).setCell (p := ⟨g, k + 3, none⟩) hg _).setCell (p := ⟨g, k + 4, none⟩) hg _).setCell (p := ⟨g, k + 5, none⟩) hg _).setCell (p := ⟨g, k + 6, none⟩) hg _).setCell (p := ⟨g, k + 7, none⟩) hg _).setCell (p := ⟨g, k + 8, none⟩) hg _).setCell (p := ⟨g, k + 9, none⟩) hg _).setCell (p := ⟨g, k + 10, none⟩) hg _).setCell (p := ⟨g, k + 11, none⟩) hg _).setCell (p := ⟨g, k + 12, none⟩) hg _
theorem out_st13 {w w' : World} {g k i : Nat} {o : ObjV} (h : i ≠ g) : (st13 w g k o).heap[i]? = w.heap[i]? := by
  have f : Fr [g] w (st13 w g k o) := fr_st13 (Fr.refl _ _) (by simp) k o
  rcases Nat.lt_or_ge i w.heap.size with x | x
  · exact f.2 i x (by simpa using h)
  · rw [Array.getElem?_eq_none x, Array.getElem?_eq_none]
    have : (st13 w g k o).heap.size = w.heap.size := by simp [st13, World.setCell]
    omega

section
variable {w : World} {B b gm : Nat} {vo vj : Value} {outer : List Int} {objs : List ObjV} {tbl : List ((Int × ByteArray) × Nat)}
theorem SC.st13 (h : SC w B b gm vo vj outer objs tbl) {g : Nat} (hg : vj.ownBlock = some g) (q : Nat) (hq : q < objs.length) (o : ObjV) : SC (st13 w g (q * 13) o) B b gm vo vj outer (objs.set q o) tbl := by
  have hne : ∀ i ∈ [b, gm], i ≠ g := by
    intro i hi e
    subst e
    simp at hi
    rcases hi with rfl | rfl
    · exact own_blk_ne h.ob h.bl (by decide) hg
    · exact h.mp.ne_own h.ob hg
  have hvo : ∀ i, vo.ownBlock = some i → i ≠ g := fun i hi e => by
    subst e
    rcases own_ne_own7 h.ou h.ob (by decide) with x | x
    · rw [x] at hi; cases hi
    · exact x (hi.trans hg.symm)
  refine ⟨(out_st13 (w' := w) (hne b (by simp))).trans h.bl, own_fr h.ou fun i hi => out_st13 (w' := w) (hvo i hi), ?_, h.mp.same (out_st13 (w' := w) (hne gm (by simp))), h.bb, h.bm⟩
  have := own_st13 h.ob hg (q * 13) o
  rw [set13_at o objs q hq] at this
  simpa using this

/-- What Change refuses. -/
def chNo (objs : List ObjV) (i : Int) (o : ObjV) : Bool := !hasB objs.length i || !(decide (1 ≤ o.k ∧ o.k ≤ 9)) || !(decide (((objs.getD (i - 1).toNat zeroO)).name = o.name))
def ChangePost (w : World) (B b gm : Nat) (vo vj : Value) (outer : List Int) (objs : List ObjV) (tbl : List ((Int × ByteArray) × Nat)) (i : Int) (o : ObjV) (e : Ending) (w' : World) : Prop :=
  e = .returned (.int .i64 (if chNo objs i o then 1 else 0)) ∧ SC w' B b gm vo vj outer (if chNo objs i o then objs else objs.set (i - 1).toNat o) tbl ∧ Below B w w' ∧ Fr (fpS b gm vo vj) w w'

set_option maxHeartbeats 1000000 in
theorem change_any (h : SC w B b gm vo vj outer objs tbl) (i : Int) (o : ObjV) (hn : objs.length ≤ 70000) :
    Calls Try.prog 22 #[.pointer (some ⟨b, 0, none⟩), .int .i64 i, o.val] w (ChangePost w B b gm vo vj outer objs tbl i o) := by
  obtain ⟨W0, hW0⟩ : ∃ W : World, W = w.alloc (.cells o.arr 42) := ⟨_, rfl⟩
  obtain ⟨bo, hbo⟩ : ∃ n, n = w.heap.size := ⟨_, rfl⟩
  have hb0 : Blk W0 bo 42 o.arr := by rw [hW0, hbo]; exact Blk.new _ _ _
  have h0 : SC W0 B b gm vo vj outer objs tbl := by rw [hW0]; exact h.alloc _
  have hbw : Below B w W0 := by rw [hW0]; exact (Below.refl _ _).alloc h.lt _
  have hf0 : Fr (fpS b gm vo vj) w W0 := by rw [hW0]; exact (Fr.refl _ _).alloc _
  have hsc : ∀ n, Calls Try.prog 52 #[.pointer (some ⟨b, 0, none⟩), .int .i64 i] (W0.drewN n) fun e w' => e = .returned (.bool (hasB objs.length i)) ∧ W0.drewN n = w' := fun n => has_object (h0.drewN n) i
  have hki : ∀ n, Calls Try.prog 55 #[.int .i64 o.k] (W0.drewN n) fun e w' => e = .returned (.bool (decide (1 ≤ o.k ∧ o.k ≤ 9))) ∧ W0.drewN n = w' := fun n => is_kind o.k (W0.drewN n)
  have o0 := hb0.cell 0
  have o1 := hb0.cell 1
  simp at o0 o1
  obtain ⟨c0, c1, c2⟩ := h0.cells
  obtain ⟨d1, hd1⟩ : ∃ c, c = hasB objs.length i := ⟨_, rfl⟩
  obtain ⟨d2, hd2⟩ : ∃ c, c = decide (1 ≤ o.k ∧ o.k ≤ 9) := ⟨_, rfl⟩
  have hno : chNo objs i o = (!d1 || !d2 || !(decide (((objs.getD (i - 1).toNat zeroO)).name = o.name))) := by rw [hd1, hd2]; rfl
  rw [← hd1] at hsc
  rw [← hd2] at hki
  have HSC := hide hsc
  have HKI := hide hki
  have HB0 := hide hb0
  have HBW := hide hbw
  have HF0 := hide hf0
  have HH := hide h0
  have HWE := hide hW0
  have HBE := hide hbo
  have HNO := hide hno
  have HD1 := hide hd1
  clear h hsc hki h0 hb0 hbw hd1 hd2 hno hW0 hbo hf0
  unfold ObjV.val
  cases d1 with
  | false =>
    have HE := hide (show ∀ q, ChangePost w B b gm vo vj outer objs tbl i o (.returned (.int .i64 1)) (W0.drewN q) from fun q => by
      have e : chNo objs i o = true := by rw [HNO.out]; rfl
      exact ⟨by rw [e]; rfl, by rw [e]; exact HH.out.drewN q, below_drewN HBW.out q, HF0.out⟩)
    go_enter Try.func22, Try.ntmps22
    go_wp2_with fail
    rw [← HWE.out]
    rw [← HBE.out]
    go_quiet ((go_at_call 52; exact quiet_left (HSC.out _)))
    go_wp2_with fail
    go_ret
    exact HE.out _
  | true =>
    cases d2 with
    | false =>
      have HE := hide (show ∀ q, ChangePost w B b gm vo vj outer objs tbl i o (.returned (.int .i64 1)) (W0.drewN q) from fun q => by
        have e : chNo objs i o = true := by rw [HNO.out]; rfl
        exact ⟨by rw [e]; rfl, by rw [e]; exact HH.out.drewN q, below_drewN HBW.out q, HF0.out⟩)
      go_enter Try.func22, Try.ntmps22
      go_wp2_with fail
      rw [← HWE.out]
      rw [← HBE.out]
      go_quiet (first | ((go_at_call 52; exact quiet_left (HSC.out _))) | ((go_at_call 55; exact quiet_left (HKI.out _))))
      go_wp2_with fail
      go_ret
      exact HE.out _
    | true =>
      have hi := HD1.out.symm
      rw [hasB_iff] at hi
      have hql : (i - 1).toNat < objs.length := by omega
      obtain ⟨q, hq⟩ : ∃ q : Nat, q = (i - 1).toNat := ⟨_, rfl⟩
      obtain rfl : i = (q : Int) + 1 := by omega
      rw [← hq] at hql HNO
      have hx := List.getElem?_eq_getElem hql
      have hgd : objs.getD q zeroO = objs[q] := by rw [List.getD_eq_getElem?_getD, hx]; rfl
      rw [hgd] at HNO
      obtain ⟨x, hxe⟩ : ∃ x, x = objs[q] := ⟨_, rfl⟩
      rw [← hxe] at hx HNO
      rcases HH.out.ob.2 with ⟨_, hz⟩ | ⟨g, cap, cur, hvj, hgB, hg, hcap, hcm, hcs, htk⟩
      · omega
      have hxa : ∀ (j : Nat) (u : Value), x.cells[j]? = some u → W0.cell? ⟨g, q * 13 + j, none⟩ = some u := fun j u hu => by
        have h1 := HH.out.ob.cells (g := g) (by rw [hvj]; rfl) (q * 13 + j) u (objects_at objs q x hx j u hu)
        rw [Addr.add_lit, Nat.zero_add] at h1
        exact h1
      have hxn := hxa 1 _ rfl
      have HXA := hide hxa
      clear hxa
      have hw1 : IntKind.i64.wrap ((q : Int) + 1 - 1) = q := by rw [show (q : Int) + 1 - 1 = q by omega]; exact IntWalk.i64_in _ (by omega)
      have hlt : (q : Int) < (objs.length : Int) := by omega
      have hltn : q < objs.length := hql
      have HVJ := hide hvj
      have HQ := hide hq
      have HGB := hide hgB
      rw [hvj] at c1
      have HXF : Hid (Blk W0 g 42 cur ∧ cur.size = cap * 13 ∧ objs.length ≤ cap) := hide ⟨hg, hcs, hcap⟩
      by_cases hnm : x.name = o.name
      · have HE := hide (show ∀ k, ChangePost w B b gm vo vj outer objs tbl ((q : Int) + 1) o (.returned (.int .i64 0)) (st13 (W0.drewN k) g (q * 13) o).drew from fun k => by
          have e : chNo objs ((q : Int) + 1) o = false := by rw [HNO.out, hnm]; simp
          have hgo : vj.ownBlock = some g := by rw [hvj]; rfl
          have h13 := (HH.out.drewN k).st13 hgo q hql o
          refine ⟨by rw [e]; rfl, by rw [e]; simpa [← hq] using h13.drew, (below_st13 (below_drewN HBW.out k) hgB _ _).drew, (fr_st13 (HF0.out.drewN k) (mem_fpS.2 (.inr (.inr (.inr hgo)))) _ _).drew⟩)
        have hnb : (o.name.toList == x.name.toList) = true := by rw [hnm]; simp
        have hnc : (o.name.toList != x.name.toList) = false := by unfold bne; rw [hnb]; rfl
        have o2 := HB0.out.cell 2
        have o3 := HB0.out.cell 3
        have o4 := HB0.out.cell 4
        have o5 := HB0.out.cell 5
        have o6 := HB0.out.cell 6
        have o7 := HB0.out.cell 7
        have o8 := HB0.out.cell 8
        have o9 := HB0.out.cell 9
        have o10 := HB0.out.cell 10
        have o11 := HB0.out.cell 11
        have o12 := HB0.out.cell 12
        simp at o2 o3 o4 o5 o6 o7 o8 o9 o10 o11 o12
        have fz : ∀ j, W0.frozen? ⟨g, j, none⟩ = false := fun j => HXF.out.1.frozen j
        clear hx hxe hq hi hg htk hvj hcs hgd hql hgB HNO HD1 hcap hcm HBW HF0 HVJ HQ HGB
        rw [hnm] at hxn hnb hnc
        clear hnm
        go_enter Try.func22, Try.ntmps22
        go_wp2_with fail
        rw [← HWE.out]
        rw [← HBE.out]
        go_quiet (first | ((go_at_call 52; exact quiet_left (HSC.out _))) | ((go_at_call 55; exact quiet_left (HKI.out _))))
        go_wp2_with fail
        have HE0 := HE.out nq
        obtain ⟨W1, hW1⟩ : ∃ W, W = W0.drewN nq := ⟨_, rfl⟩
        rw [← hW1] at HE0
        unfold st13 at HE0
        have HE1 := hide HE0
        have y0 : W1.cell? ⟨b, 1, none⟩ = some (.slice (some ⟨g, 0, none⟩) objs.length cap) := by rw [hW1]; exact c1
        have fz1 : ∀ j, W1.frozen? ⟨g, j, none⟩ = false := by rw [hW1]; exact fz
        have hb1 : Blk W1 bo 42 o.arr := by rw [hW1]; exact HB0.out.drewN nq
        have z0 := hb1.cell 0
        have z1 := hb1.cell 1
        have z2 := hb1.cell 2
        have z3 := hb1.cell 3
        have z4 := hb1.cell 4
        have z5 := hb1.cell 5
        have z6 := hb1.cell 6
        have z7 := hb1.cell 7
        have z8 := hb1.cell 8
        have z9 := hb1.cell 9
        have z10 := hb1.cell 10
        have z11 := hb1.cell 11
        have z12 := hb1.cell 12
        simp at z0 z1 z2 z3 z4 z5 z6 z7 z8 z9 z10 z11 z12
        have HXA1 : Hid (∀ (j : Nat) (u : Value), x.cells[j]? = some u → W1.cell? ⟨g, q * 13 + j, none⟩ = some u) := hide (by rw [hW1]; exact HXA.out)
        have e0 := HXA1.out 0 _ rfl
        have e1 := HXA1.out 1 _ rfl
        have e2 := HXA1.out 2 _ rfl
        have e3 := HXA1.out 3 _ rfl
        have e4 := HXA1.out 4 _ rfl
        have e5 := HXA1.out 5 _ rfl
        have e6 := HXA1.out 6 _ rfl
        have e7 := HXA1.out 7 _ rfl
        have e8 := HXA1.out 8 _ rfl
        have e9 := HXA1.out 9 _ rfl
        have e10 := HXA1.out 10 _ rfl
        have e11 := HXA1.out 11 _ rfl
        have e12 := HXA1.out 12 _ rfl
        simp only [Nat.add_zero] at e0
        rw [← hW1]
        clear HE HE0 hW1 hb1 o0 o1 o2 o3 o4 o5 o6 o7 o8 o9 o10 o11 o12 c0 c1 c2 fz HB0 hxn
        have hw2 : IntKind.i64.wrap (q : Int) = q := IntWalk.i64_in _ (by omega)
        go_still_tail 8, (by kernel_rfl)
        go_wp2_with fail
        go_ret
        exact HE1.out
      · have HE := hide (show ∀ k, ChangePost w B b gm vo vj outer objs tbl ((q : Int) + 1) o (.returned (.int .i64 1)) (W0.drewN k) from fun k => by
          have e : chNo objs ((q : Int) + 1) o = true := by rw [HNO.out]; simp [hnm]
          exact ⟨by rw [e]; rfl, by rw [e]; exact HH.out.drewN k, below_drewN HBW.out k, HF0.out⟩)
        have hnb : (o.name.toList == x.name.toList) = false := str_ne (fun e => hnm e.symm)
        have hnc : (o.name.toList != x.name.toList) = true := by unfold bne; rw [hnb]; rfl
        clear hx hxe hq hi hg htk hvj hcs hgd hql hgB hnm
        go_enter Try.func22, Try.ntmps22
        go_wp2_with fail
        rw [← HWE.out]
        rw [← HBE.out]
        go_quiet (first | ((go_at_call 52; exact quiet_left (HSC.out _))) | ((go_at_call 55; exact quiet_left (HKI.out _))))
        go_wp2_with fail
        go_ret
        exact HE.out _
end
end Go.Proofs.Ytllddgfmjmblmaa
