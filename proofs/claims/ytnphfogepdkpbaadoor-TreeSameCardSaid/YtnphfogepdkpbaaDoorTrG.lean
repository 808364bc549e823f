/- Add of package tree, of a node that can be; conditions: the tree is the call's own. -/
import Derived.Test.YtnphfogepdkpbaaDoorTrF
import Derived.Test.YtnphfogepdkpbaaDoorTail
namespace Go.Proofs.YtnphfogepdkpbaaDoor
open Go.RowKit Go.WideShapes Go.ChangeShapes
set_option linter.unusedVariables false
set_option linter.unusedSimpArgs false
set_option maxRecDepth 100000

theorem itemInfoT : (Tryd.prog.info? 59).map (fun i => (i.zero, i.size, i.bytes)) = some (some (.agg #[.int .i64 0, .int .i64 0, .int .i64 0, .int .i64 0, .string ByteArray.empty, .slice none 0 0, .slice none 0 0, .int .i64 0, .int .i64 0]), 9, 112) := by kernel_rfl
/-- Blocks of other types than those that a tree is kept in are as they were. -/
def OthersT (w w' : World) : Prop := ∀ (k : Nat) (t : TypeId) (cs : Array Value), t ≠ 56 → t ≠ 59 → Blk w k t cs → Blk w' k t cs
theorem OthersT.trans {w w' w'' : World} (h : OthersT w w') (h' : OthersT w' w'') : OthersT w w'' := fun k t cs h1 h2 hk => h' k t cs h1 h2 (h k t cs h1 h2 hk)
theorem OthersT.below {w w' : World} (h : Below w.heap.size w w') : OthersT w w' := fun k t cs _ _ hk => hk.below h hk.lt
theorem OthersT.refl (w : World) : OthersT w w := fun _ _ _ _ _ h => h
/-- What stands of a node that is about to be put behind the others, but for the parts that are there. -/
structure AddX (w W : World) (B tb a bx : Nat) (v : Value) (rows : List It) (n : Nd) (kv tv : Value) (sz dp : Nat) : Prop where
  tr : TO W B tb v rows
  bt : Blk W a 25 #[.pointer (some ⟨tb, 0, none⟩)]
  bi : Blk W bx 59 (It.arr ⟨n, kv, tv, sz, dp⟩)
  ok : W.ownsRow B 3 1 kv n.kids.length (n.kids.map (Value.int .i64))
  be : Below B w W
  ab : a ≠ bx
  xB : B ≤ bx
  cl : Clear W B tb v rows bx
  oth : OthersT w W
  fk : ∀ q, kv.ownBlock = some q → w.heap.size ≤ q
section
variable {w W V : World} {B tb a bx : Nat} {v kv tv tv' : Value} {rows : List It} {n : Nd} {sz dp : Nat}
theorem own_item_ne {e n s : Nat} {x : Value} {xs : List Value} {cs : Array Value} (h : w.ownsRow B e s x n xs) (hb : Blk w bx 59 cs) (hne : e ≠ 59) : x.ownBlock ≠ some bx := own_blk_ne h hb hne
theorem AddX.later (h : AddX w W B tb a bx v rows n kv tv sz dp) (hb : Below W.heap.size W V) : AddX w V B tb a bx v rows n kv tv sz dp :=
  ⟨h.tr.later hb, h.bt.below hb h.bt.lt, h.bi.below hb h.bi.lt, own_belowT h.ok hb, h.be.trans (hb.mono (by have := h.xB; have := h.bi.lt; omega)), h.ab, h.xB, ⟨h.cl.t, h.cl.v, h.cl.e⟩, h.oth.trans (OthersT.below hb), h.fk⟩
theorem AddX.set_ (h : AddX w W B tb a bx v rows n kv tv sz dp) (i : Nat) (u : Value) (sz' dp' : Nat) (hu : (It.arr ⟨n, kv, tv, sz, dp⟩).setIfInBounds i u = It.arr ⟨n, kv, tv', sz', dp'⟩) : AddX w (W.setCell ⟨bx, i, none⟩ u) B tb a bx v rows n kv tv' sz' dp' := by
  refine ⟨h.tr.setCell h.cl u, h.bt.far (p := ⟨bx, i, none⟩) h.ab u, ?_, ownsRow_setCell_other (a := ⟨bx, i, none⟩) h.ok (own_item_ne h.ok h.bi (by decide)) u, h.be.setCell (p := ⟨bx, i, none⟩) h.xB u, h.ab, h.xB, ⟨h.cl.t, h.cl.v, h.cl.e⟩, fun k t cs h1 h2 hk => (h.oth k t cs h1 h2 hk).far (p := ⟨bx, i, none⟩) (Blk.ne_ (h.oth k t cs h1 h2 hk) h.bi h2) u, h.fk⟩
  have := h.bi.set_ i u
  rw [hu] at this
  exact this
/-- What stands between two rounds. -/
structure AddL (w W : World) (B tb a bx : Nat) (v : Value) (rows : List It) (n : Nd) (kv tv : Value) (sz dp : Nat) : Prop where
  x : AddX w W B tb a bx v rows n kv tv sz dp
  ot : W.ownsRow B 3 1 tv (thrI n.kids).length ((thrI n.kids).map (Value.int .i64))
  ft : ∀ q, tv.ownBlock = some q → w.heap.size ≤ q
theorem AddL.drewN (h : AddL w W B tb a bx v rows n kv tv sz dp) (q : Nat) : AddL w (W.drewN q) B tb a bx v rows n kv tv sz dp :=
  ⟨h.x.later (below_drewL (Below.refl _ _) q), h.ot, h.ft⟩
theorem AddL.drew (h : AddL w W B tb a bx v rows n kv tv sz dp) : AddL w W.drew B tb a bx v rows n kv tv sz dp := h.drewN 1
theorem AddL.set_ (h : AddL w W B tb a bx v rows n kv tv sz dp) (i : Nat) (u : Value) (sz' dp' : Nat) (hu : (It.arr ⟨n, kv, tv, sz, dp⟩).setIfInBounds i u = It.arr ⟨n, kv, tv, sz', dp'⟩) : AddL w (W.setCell ⟨bx, i, none⟩ u) B tb a bx v rows n kv tv sz' dp' :=
  ⟨h.x.set_ i u sz' dp' hu, ownsRow_setCell_other (a := ⟨bx, i, none⟩) h.ot (own_item_ne h.ot h.x.bi (by decide)) u, h.ft⟩
end
def AddP (w : World) (B tb : Nat) (rows : List It) (n : Nd) (e : Ending) (w' : World) : Prop :=
  e = .returned (.tuple #[.int .i64 ((rows.length : Int) + 1), .int .i64 0]) ∧ ∃ v' r, r.n = n ∧ (∀ q, r.k.ownBlock = some q → w.heap.size ≤ q) ∧ (∀ q, r.t.ownBlock = some q → w.heap.size ≤ q) ∧ TO w' B tb v' (rows ++ [r]) ∧ Below B w w' ∧ OthersT w w'
theorem AddL.push {w W w6 : World} {B tb a bx : Nat} {v kv tv v6 : Value} {rows : List It} {n : Nd} {sz dp : Nat} (h : AddL w W B tb a bx v rows n kv tv sz dp) (hg : goodN n rows.length = true) (hl : rows.length < 65536)
    (hsz : sz = szF (nds rows) ((thrI n.kids).map Int.toNat)) (hdp : dp = dpF (nds rows) ((thrI n.kids).map Int.toNat) + 1)
    (hown : w6.ownsRow B 59 9 v6 (rows.length + 1) (rows.flatMap It.cells ++ (It.mk n kv tv sz dp).cells)) (hg6 : W.grownBy w6 v.ownBlock) : TO (w6.setCell ⟨tb, 0, none⟩ v6) B tb v6 (rows ++ [⟨n, kv, tv, sz, dp⟩]) ∧ Below B w (w6.setCell ⟨tb, 0, none⟩ v6) ∧ OthersT w (w6.setCell ⟨tb, 0, none⟩ v6) := by
  have hto := h.x.tr
  have hlt : Below B w w6 := h.x.be.trans ((Below.refl B W).grown hg6 (Nat.le_trans hto.tB (Nat.le_of_lt hto.lt)) (fun k hk => (hto.it.lt k hk).1))
  have hbl6 : Blk w6 tb 56 #[v] := hto.bl.grown hg6 (fun e => own_blk_ne hto.it hto.bl (by decide) e.symm)
  have keep : ∀ {m : Nat} {x : Value} {xs : List Value}, W.ownsRow B 3 1 x m xs → (w6.setCell ⟨tb, 0, none⟩ v6).ownsRow B 3 1 x m xs := fun hx =>
    ownsRow_setCell_other (a := ⟨tb, 0, none⟩) (hx.kept hg6 (rows_ne hx hto.it (by decide))) (own_blk_ne (hx.kept hg6 (rows_ne hx hto.it (by decide))) hbl6 (by decide)) v6
  have hL : nds (rows ++ [⟨n, kv, tv, sz, dp⟩]) = nds rows ++ [n] := by simp
  have hg' : goodN n (nds rows).length = true := by rw [nds_length]; exact hg
  refine ⟨⟨by have h := hbl6.set_ 0 v6; simpa using h, ?_, ?_, by rw [hL]; exact okl_add hto.ok hg', by simp; omega, hto.tB⟩, hlt.setCell (p := ⟨tb, 0, none⟩) hto.tB v6, fun k t cs h1 h2 hk => ?_⟩
  · have h7 := ownsRow_setCell_other (a := ⟨tb, 0, none⟩) hown (own_blk_ne hown hbl6 (by decide)) v6
    simpa [List.flatMap_append] using h7
  · intro i r hr
    rcases Nat.lt_or_ge i rows.length with h1 | h1
    · rw [List.getElem?_append_left h1] at hr
      have ho := hto.el i r hr
      exact ⟨by rw [hL, W_app hto.ok _ (by rw [nds_length]; omega)]; exact ho.hs, by rw [hL, D_app hto.ok _ (by rw [nds_length]; omega)]; exact ho.hd, keep ho.hk, keep ho.ht⟩
    · rw [List.getElem?_append_right h1] at hr
      have hi := (List.getElem?_eq_some_iff.1 hr).1
      simp at hi
      have h0 : i = rows.length := by omega
      subst h0
      simp at hr
      subst hr
      refine ⟨?_, ?_, keep h.x.ok, keep h.ot⟩
      · show sz = _
        rw [hL, hsz, sz_new hto.ok hg', nds_length]
      · show dp = _
        rw [hL, hdp, ← D_new hto.ok hg', nds_length]
  · have hk9 := h.x.oth k t cs h1 h2 hk
    have hk6 := hk9.grown hg6 (fun e => own_blk_ne hto.it hk9 (fun e2 => h2 e2.symm) e.symm)
    exact hk6.far (p := ⟨tb, 0, none⟩) (Blk.ne_ hk6 hbl6 h1) v6

set_option maxHeartbeats 4000000 in
theorem add_ok (B tb : Nat) (v : Value) (rows : List It) (n : Nd) (kv : Value) (w : World) (h : TO w B tb v rows) (hk : IntsAt w kv n.kids) (hg : goodN n rows.length = true) (hl : rows.length < 65536) (hn : n.kids.length ≤ 65536) :
    Calls Tryd.prog 21 #[.pointer (some ⟨tb, 0, none⟩), n.val kv] w (AddP w B tb rows n) := by
  obtain ⟨W2, hW2⟩ : ∃ W2, W2 = (w.alloc (.cells #[.pointer (some ⟨tb, 0, none⟩)] 25)).alloc (.cells (n.arr kv) 34) := ⟨_, rfl⟩
  have hcn : ∀ k, w.heap.size ≤ k → Clear w B tb v rows k := fun k hk => h.clear_new hk
  have hb : Below w.heap.size w W2 := by rw [hW2]; exact ((Below.refl _ _).alloc (Nat.le_refl _) _).alloc (by simp) _
  have h2 := h.later hb
  have hk2 := hk.below hb (Nat.le_refl _)
  have b1 : Blk W2 w.heap.size 25 #[.pointer (some ⟨tb, 0, none⟩)] := by rw [hW2]; exact (Blk.new _ _ _).alloc _
  have b2 : Blk W2 (w.heap.size + 1) 34 (n.arr kv) := by
    have h := Blk.new (w.alloc (.cells #[.pointer (some ⟨tb, 0, none⟩)] 25)) 34 (n.arr kv)
    rw [← hW2] at h
    simpa using h
  have hsz2 : W2.heap.size = w.heap.size + 2 := by rw [hW2]; simp
  obtain ⟨A, c, rfl, hc⟩ := h2.form
  have hBw : B ≤ w.heap.size := Nat.le_trans h.tB (Nat.le_of_lt h.lt)
  obtain ⟨a, ha⟩ : ∃ a, a = w.heap.size := ⟨_, rfl⟩
  have hki := is_kind n.kind W2
  have hcb := contains_bad a tb rows.length c A kv n.kids W2 hk2 (by omega) (by rw [ha]; exact b1.cell 0) hc
  have hci := clone_ints kv n.kids W2 hk2 (by omega)
  have hgg := hg
  rw [goodN_any] at hgg
  have hkd : (decide (1 ≤ n.kind) && decide (n.kind ≤ 47)) = true := by revert hgg; cases (decide (1 ≤ n.kind) && decide (n.kind ≤ 47)) <;> simp
  have hbd : n.kids.any (badK rows.length) = false := by revert hgg; cases n.kids.any (badK rows.length) <;> simp
  rw [hkd] at hki
  rw [hbd] at hcb
  rw [← ha] at b1 b2 hsz2 hBw hcn
  have HCN := hide hcn
  clear hcn
  obtain ⟨Ak, ck, hkv⟩ := hk2.form
  have HB := hide hb
  have HW := hide hW2
  have HA := hide ha
  have H2 := hide h2
  have HG := hide hg
  have HSZ := hide hsz2
  have HBW := hide hBw
  have HL := hide (And.intro hl hn)
  have HKI := hide hki
  have HCB := hide hcb
  have HCI := hide hci
  have HB1 := hide b1
  have HB2 := hide b2
  have c0 : W2.cell? ⟨a, 0, none⟩ = some (.pointer (some ⟨tb, 0, none⟩)) := b1.cell 0
  have d0 : W2.cell? ⟨a + 1, 0, none⟩ = some (.int .i64 n.kind) := b2.cell 0
  have d5 : W2.cell? ⟨a + 1, 5, none⟩ = some kv := b2.cell 5
  have df := b2.frozen 5
  rw [hkv] at d5
  have HKV := hide hkv
  have i1 : decide ((65536 : Int) ≤ (rows.length : Int)) = false := decide_eq_false (by omega)
  have i2 : decide ((65536 : Int) < (n.kids.length : Int)) = false := decide_eq_false (by omega)
  clear hki hcb hci hkd hbd hgg h h2 hk hk2 b1 b2 hb hW2 ha hn hg hl hsz2 hBw hkv
  go_enter Tryd.func21, Tryd.ntmps21
  go_wp2_with fail
  rw [← HW.out]
  refine HKI.out.mono ?_
  rintro e w' ⟨rfl, rfl⟩
  rw [← HA.out]
  go_wp2_with fail
  rw [← HKV.out]
  refine HCB.out.mono ?_
  rintro e w' ⟨rfl, rfl⟩
  go_wp2_with fail
  rw [← HKV.out]
  refine HCI.out.mono ?_
  rintro e w3 ⟨kv3, rfl, hown3, hb3⟩
  obtain ⟨A3, c3, rfl⟩ := own_formT hown3
  have hz3 := hb3.size
  have f0 : w3.cell? ⟨a + 1, 5, none⟩ = some kv := ((HB2.out.below hb3 HB2.out.lt).cell 5)
  have j3 : a + 1 < w3.heap.size := by have := HSZ.out; omega
  have e0 := (HB2.out.below hb3 HB2.out.lt).cell 0
  have e1 := (HB2.out.below hb3 HB2.out.lt).cell 1
  have e2 := (HB2.out.below hb3 HB2.out.lt).cell 2
  have e3 := (HB2.out.below hb3 HB2.out.lt).cell 3
  have e4 := (HB2.out.below hb3 HB2.out.lt).cell 4
  simp at e0 e1 e2 e3 e4
  have f1 := (HB2.out.below hb3 HB2.out.lt).frozen 5
  obtain ⟨W4, hW4⟩ : ∃ W4, W4 = w3.setCell ⟨a + 1, 5, none⟩ (.slice A3 n.kids.length c3) := ⟨_, rfl⟩
  have b4n : Blk W4 (a + 1) 34 (n.arr (.slice A3 n.kids.length c3)) := by
    have h := (HB2.out.below hb3 HB2.out.lt).set_ 5 (.slice A3 n.kids.length c3)
    rw [← hW4] at h
    simpa using h
  have hne4 : ∀ {e s m : Nat} {x : Value} {xs : List Value}, w3.ownsRow W2.heap.size e s x m xs → W4.ownsRow W2.heap.size e s x m xs := fun {e s m x xs} hx => by
    rw [hW4]
    exact ownsRow_setCell_other (a := ⟨a + 1, 5, none⟩) hx (fun e => by have h1 : W2.heap.size ≤ a + 1 := (hx.lt _ e).1; have := HSZ.out; omega) _
  have hown4 := hne4 hown3
  have hcl3 : Clear w3 B tb (.slice A rows.length c) rows (a + 1) := by
    have := HCN.out (a + 1) (by omega)
    exact ⟨this.t, this.v, this.e⟩
  have H4 : Hid (TO W4 B tb (.slice A rows.length c) rows) := hide (by rw [hW4]; exact (H2.out.later hb3).setCell hcl3 _)
  have b4t : Blk W4 a 25 #[.pointer (some ⟨tb, 0, none⟩)] := by rw [hW4]; exact (HB1.out.below hb3 HB1.out.lt).far (p := ⟨a + 1, 5, none⟩) (by show a ≠ a + 1; omega) _
  have hb4 : Below a w W4 := by rw [hW4]; have := HB.out; rw [← HA.out] at this; exact (this.trans (hb3.mono (by have := HSZ.out; omega))).setCell (p := ⟨a + 1, 5, none⟩) (by show a ≤ a + 1; omega) _
  have hs4 : W4.heap.size = w3.heap.size := by rw [hW4]; simp
  have HW4 := hide hW4
  have HO4 := hide hown4
  have HB4N := hide b4n
  have HB4T := hide b4t
  have HB4 := hide hb4
  have HS4 := hide (And.intro hs4 hz3)
  clear hz3 hW4 b4n hne4 hown4 hcl3 b4t hb4 hs4 hown3 hb3 d5 df c0 d0 hc
  rw [HKV.out] at f0
  go_wp2_with fail
  rw [← HW4.out]
  obtain ⟨bx, hbx⟩ : ∃ b, b = w3.heap.size := ⟨_, rfl⟩
  rw [← hbx]
  obtain ⟨W5, hW5⟩ : ∃ W5, W5 = W4.alloc (.cells #[.int .i64 n.kind, .int .i64 n.f, .int .i64 n.l, .int .i64 n.c, .string n.text, .slice A3 n.kids.length c3, .slice A3 n.kids.length c3, .int .i64 1, .int .i64 0] 59) := ⟨_, rfl⟩
  rw [← hW5]
  have hBW := HBW.out
  have hSZ := HSZ.out
  have hS4 := HS4.out
  have hX5 : AddX w W5 B tb a bx (.slice A rows.length c) rows n (.slice A3 n.kids.length c3) (.slice A3 n.kids.length c3) 1 0 := by
    have hcl := HCN.out bx (by omega)
    rw [hW5]
    refine ⟨H4.out.alloc _, HB4T.out.alloc _, ?_, own_monoT (own_belowT HO4.out ((Below.refl _ _).alloc (Nat.le_refl _) _)) (by omega), (HB4.out.mono hBW).alloc (by omega) _, by omega, by omega, ⟨hcl.t, hcl.v, hcl.e⟩, OthersT.below ((by have h4 := HB4.out; rw [HA.out] at h4; exact h4 : Below w.heap.size w W4).alloc (by have := HA.out; omega) _), fun q hq => by have := (HO4.out.lt q hq).1; have := HA.out; omega⟩
    have h := Blk.new W4 59 (It.arr ⟨n, .slice A3 n.kids.length c3, .slice A3 n.kids.length c3, 1, 0⟩)
    rw [hS4.1, ← hbx] at h
    exact h
  have hN5 : Blk W5 (a + 1) 34 (n.arr (.slice A3 n.kids.length c3)) := by rw [hW5]; exact HB4N.out.alloc _
  have hI5 : IntsAt W5 (.slice A3 n.kids.length c3) n.kids := IntsAt.own hX5.ok
  have HCZ := hide (contains_zero _ n.kids W5 hI5 (by have := HL.out; omega))
  have HCC := hide (clone_ints _ n.kids W5 hI5 (by have := HL.out; omega))
  have HX5 := hide hX5
  have HN5 := hide hN5
  have HBX := hide hbx
  clear hX5 hN5 hI5 hbx hW5 hBW hSZ hS4 f0 f1 e0 e1 e2 e3 e4 j3
  cases hz : n.kids.any isZ with
  | true =>
    have HZ := hide hz
    rw [hz] at HCZ
    clear hz
    refine HCZ.out.mono ?_
    rintro e w' ⟨rfl, rfl⟩
    have c5 := HN5.out.cell 5
    simp at c5
    go_wp2_with fail
    refine HCC.out.mono ?_
    rintro e w6 ⟨v6, rfl, hown6, hb6⟩
    have HDL := hide (delete_zero _ v6 n.kids w6 hown6 HZ.out (by have := HL.out; omega))
    have HB6 := hide hb6
    clear hown6 hb6 c5
    go_wp2_with fail
    refine HDL.out.mono ?_
    rintro e w7 ⟨v7, rfl, hown7, hb7⟩
    have hb57 := HB6.out.trans hb7
    have hX7 := HX5.out.later hb57
    have c6 := hX7.bi.cell 6
    have f6 := hX7.bi.frozen 6
    simp at c6
    have hX8 := hX7.set_ (tv' := v7) 6 v7 1 0 rfl
    have ho8 : (w7.setCell ⟨bx, 6, none⟩ v7).ownsRow B 3 1 v7 (thrI n.kids).length ((thrI n.kids).map (Value.int .i64)) :=
      ownsRow_setCell_other (a := ⟨bx, 6, none⟩) (own_monoT hown7 (by have := HX5.out.be.size; have := HX5.out.bi.lt; have := HX5.out.xB; omega)) (own_item_ne hown7 hX7.bi (by decide)) v7
    have hL8 : AddL w (w7.setCell ⟨bx, 6, none⟩ v7) B tb a bx (.slice A rows.length c) rows n (.slice A3 n.kids.length c3) v7 1 0 := ⟨hX8, ho8, fun q hq => by have := (hown7.lt q hq).1; have := HX5.out.be.size; omega⟩
    obtain ⟨A7, c7, rfl⟩ := own_formT hown7
    obtain ⟨W8, hW8⟩ : ∃ W8, W8 = w7.setCell ⟨bx, 6, none⟩ (.slice A7 (thrI n.kids).length c7) := ⟨_, rfl⟩
    rw [← hW8] at hL8
    have HL8 := hide hL8
    have HW8 := hide hW8
    clear hown7 hb7 hb57 hX7 hX8 ho8 hL8 hW8
    go_wp2_with fail
    rw [← HW8.out]
    obtain ⟨m, hm⟩ : ∃ m, m = (thrI n.kids).length := ⟨_, rfl⟩
    rw [← hm] at HL8 ⊢
    have HM := hide hm
    clear hm HCC HCZ HDL HW8 HZ
    go_loopw [52] (fun i wr => ∃ j : Nat, j ≤ m ∧ i = .int .i64 j ∧ Hid (AddL w wr B tb a bx (.slice A rows.length c) rows n (.slice A3 n.kids.length c3) (.slice A7 m c7) (szF (nds rows) (((thrI n.kids).take j).map Int.toNat)) (dpF (nds rows) (((thrI n.kids).take j).map Int.toNat)))) (fun i _ => m - (intOf i).toNat)
    case atStart => exact ⟨0, Nat.zero_le _, rfl, hide (by have := HL8.out; simpa [szF, dpF] using this)⟩
    case round =>
      obtain ⟨j, hj, rfl, HR⟩ := hrel
      have hI := IntsAt.own HR.out.ot
      have p0 := HR.out.x.bt.cell 0
      simp at p0
      have f7 := HR.out.x.bi.frozen 7
      have f8 := HR.out.x.bi.frozen 8
      have s7 := HR.out.x.bi.cell 7
      have s8 := HR.out.x.bi.cell 8
      simp only [It.arr] at s7 s8
      obtain ⟨s, hs⟩ : ∃ s, s = szF (nds rows) (((thrI n.kids).take j).map Int.toNat) := ⟨_, rfl⟩
      obtain ⟨d, hd⟩ : ∃ d, d = dpF (nds rows) (((thrI n.kids).take j).map Int.toNat) := ⟨_, rfl⟩
      rw [← hs, ← hd] at HR
      rw [← hs] at s7
      rw [← hd] at s8
      simp at s7 s8
      have hsl : s ≤ 65537 := by rw [hs]; exact szF_le _ _
      have HS := hide (And.intro hs hd)
      clear hs hd
      by_cases hlt : j < m
      · obtain ⟨b, off, x, rfl, _, hx, hcell⟩ := hI.at_ (k := j) (by rw [← HM.out]; exact hlt)
        obtain ⟨k, r, rfl, hkl, hr⟩ : ∃ (k : Nat) (r : It), x = ((k + 1 : Nat) : Int) ∧ k < rows.length ∧ rows[k]? = some r := by
          have hm := List.mem_filter.1 (List.mem_of_getElem? hx)
          have h1 := (goodN_iff.1 HG.out).2 x hm.1
          have h2 : x ≠ 0 := by have := hm.2; simpa using this
          exact ⟨x.toNat - 1, rows[x.toNat - 1]'(by omega), by omega, by omega, List.getElem?_eq_getElem _⟩
        obtain ⟨g, cc, hv, ht, hcs⟩ := HR.out.x.tr.at_ hr
        injection hv with hv1 _ hv2
        subst hv1 hv2
        have k7 := hcs 7 _ rfl
        have k8 := hcs 8 _ rfl
        have hek := HR.out.x.tr.el k r hr
        obtain ⟨z, hz⟩ : ∃ z, z = r.sz := ⟨_, rfl⟩
        obtain ⟨y, hy⟩ : ∃ y, y = r.dp := ⟨_, rfl⟩
        rw [← hz] at k7
        rw [← hy] at k8
        have hzl : z ≤ 65537 := by rw [hz, hek.hs]; omega
        have HZY := hide (And.intro (hz.trans hek.hs) (hy.trans hek.hd))
        have HX := hide hx
        have HRK := hide hr
        have HYY := hide hy.symm
        have HLE := hide HR.out.x.tr.le
        obtain ⟨i, hi⟩ : ∃ i : Int, i = ((k + 1 : Nat) : Int) := ⟨_, rfl⟩
        rw [← hi] at hcell
        obtain ⟨mm, hmm⟩ : ∃ mm, mm = rows.length := ⟨_, rfl⟩
        rw [← hmm] at ht
        have HMM := hide hmm.symm
        have q1 : IntKind.i64.wrap (i - 1) = (k : Int) := by rw [hi, show ((k + 1 : Nat) : Int) - 1 = (k : Int) by omega]; exact IntWalk.i64_in _ (by have := HLE.out; omega)
        have q2 : IntKind.i64.wrap ((s : Int) + (z : Int)) = (s : Int) + (z : Int) := IntWalk.i64_in _ (by omega)
        have hml : m ≤ 65536 := by have h1 := HM.out; have h2 := List.length_filter_le (fun k : Int => !(k == 0)) n.kids; have h3 := HL.out.2; unfold thrI at h1; omega
        have q3 : IntKind.i64.wrap ((j : Int) + 1) = (j : Int) + 1 := IntWalk.i64_in _ (by omega)
        clear hml
        have j1 : (k : Int) < (mm : Int) := by omega
        have j2 : (0 : Int) ≤ (k : Int) := by omega
        obtain ⟨s2, hs2⟩ : ∃ s2, s2 = min 65537 (s + z) := ⟨_, rfl⟩
        have HMIN := hide (show (if (s : Int) + (z : Int) < 65537 then (s : Int) + (z : Int) else 65537) = (s2 : Int) by rw [hs2]; split <;> omega)
        have HS2 := hide hs2
        obtain ⟨d2, hd2⟩ : ∃ d2, d2 = max d y := ⟨_, rfl⟩
        have HMAX := hide (show (if d < y then (y : Int) else (d : Int)) = (d2 : Int) by rw [hd2]; split <;> omega)
        have HD2 := hide hd2
        clear hd2
        clear hz hy hek hx hcs hi hI hkl hr hmm hs2 hzl hsl
        go_wp2_with fail
        go_still_tail 14, (by kernel_rfl)
        rw [HMIN.out]
        go_wp2_with fail
        have hR9 := (HR.out.set_ 7 (.int .i64 (s2 : Int)) s2 d rfl).drew
        obtain ⟨W9, hW9⟩ : ∃ W9, W9 = (wr.setCell ⟨bx, 7, none⟩ (.int .i64 (s2 : Int))).drew := ⟨_, rfl⟩
        rw [← hW9] at hR9 ⊢
        clear p0 f7 f8 s7 s8 hcell ht k7 k8
        obtain ⟨g9, cc9, hv9, ht, hcs⟩ := hR9.x.tr.at_ (HRK.out)
        injection hv9 with hv1 _ hv2
        injection hv1 with hv1
        injection hv1 with hv1
        subst hv1 hv2
        have k8 := hcs 8 _ rfl
        have p0 := hR9.x.bt.cell 0
        simp at p0
        have s8 := hR9.x.bi.cell 8
        simp only [It.arr] at s8
        simp at s8
        have f8 := hR9.x.bi.frozen 8
        rw [HYY.out] at k8
        rw [HMM.out] at ht
        have HR9 := hide hR9
        have HW9 := hide hW9
        clear hcs hR9 hW9
        go_still_tail 13, (by kernel_rfl)
        rw [HMAX.out]
        go_wp2_with fail
        go_roundw
        case rel =>
          have hR := (HR9.out.set_ 8 (.int .i64 (d2 : Int)) s2 d2 rfl).drew
          have e1 : ((thrI n.kids).take (j + 1)).map Int.toNat = ((thrI n.kids).take j).map Int.toNat ++ [k + 1] := by
            rw [List.take_add_one, HX.out]
            simp
          have e2 : szF (nds rows) (((thrI n.kids).take (j + 1)).map Int.toNat) = s2 := by rw [e1, szF_snoc, ← HS.out.1, ← HZY.out.1, HS2.out]
          have e3 : dpF (nds rows) (((thrI n.kids).take (j + 1)).map Int.toNat) = d2 := by rw [e1, dpF_snoc, ← HS.out.2, ← HZY.out.2, HD2.out]
          refine ⟨j + 1, by omega, by simp, hide ?_⟩
          rw [e2, e3]
          exact hR
        case measure => simp [intOf]; omega
      · have hjm : j = m := by omega
        have e1 : ((thrI n.kids).take j).map Int.toNat = (thrI n.kids).map Int.toNat := by rw [List.take_of_length_le (by rw [← HM.out]; omega)]
        have HE := hide (show s = szF (nds rows) ((thrI n.kids).map Int.toNat) ∧ d = dpF (nds rows) ((thrI n.kids).map Int.toNat) from by rw [← e1]; exact HS.out)
        have hdl : d ≤ 65536 := by
          rw [HE.out.2]
          refine foldl_max_le _ _ (by omega) (fun x hx => ?_)
          obtain ⟨k, hk, rfl⟩ := List.mem_map.1 hx
          obtain ⟨y, hy, rfl⟩ := List.mem_map.1 hk
          have h1 := (goodN_iff.1 HG.out).2 y (List.mem_filter.1 hy).1
          have h2 := D_leT HR.out.x.tr.ok _ y.toNat (Nat.le_refl _)
          have := HL.out.1
          omega
        have q1 : IntKind.i64.wrap ((d : Int) + 1) = (d : Int) + 1 := IntWalk.i64_in _ (by omega)
        have hR9 := HR.out.set_ 8 (.int .i64 ((d + 1 : Nat) : Int)) s (d + 1) rfl
        have e9 : ((d + 1 : Nat) : Int) = (d : Int) + 1 := by omega
        rw [e9] at hR9
        obtain ⟨W9, hW9⟩ : ∃ W9, W9 = wr.setCell ⟨bx, 8, none⟩ (.int .i64 ((d : Int) + 1)) := ⟨_, rfl⟩
        rw [← hW9] at hR9
        have HR9 := hide hR9
        have HW9 := hide hW9
        have HJM := hide hjm
        clear hI hR9 hW9 e1 e9 hdl hsl hjm
        go_upto_region 18 with (fail)
        rw [← HW9.out]
        obtain ⟨i0, hi0, hz0, hz1, hz2⟩ := info_parts itemInfoT
        have hX := HR9.out.x
        have hXa := hX.later ((Below.refl _ _).alloc (Nat.le_refl _) (.cells (It.arr ⟨n, .slice A3 n.kids.length c3, .slice A7 m c7, s, d + 1⟩) 59))
        clear p0 f7 f8 s7 s8
        have p0 := hX.bt.cell 0
        have t0 : W9.cell? ⟨tb, 0, none⟩ = some (.slice A rows.length c) := hX.tr.bl.cell 0
        have x0 := hX.bi.cell 0
        have x1 := hX.bi.cell 1
        have x2 := hX.bi.cell 2
        have x3 := hX.bi.cell 3
        have x4 := hX.bi.cell 4
        have x5 := hX.bi.cell 5
        have x6 := hX.bi.cell 6
        have x7 := hX.bi.cell 7
        have x8 := hX.bi.cell 8
        simp only [It.arr] at x0 x1 x2 x3 x4 x5 x6 x7 x8
        simp at p0 x0 x1 x2 x3 x4 x5 x6 x7 x8
        have hbl := hX.tr.lt
        have hal := hX.bt.lt
        have hxl := hX.bi.lt
        obtain ⟨ARR, hARR⟩ : ∃ ARR : Array Value, ARR = #[.int .i64 n.kind, .int .i64 n.f, .int .i64 n.l, .int .i64 n.c, .string n.text, .slice A3 n.kids.length c3, .slice A7 m c7, .int .i64 (s : Int), .int .i64 ((d : Int) + 1)] := ⟨_, rfl⟩
        have p0a : (W9.alloc (.cells ARR 59)).cell? ⟨a, 0, none⟩ = some (.pointer (some ⟨tb, 0, none⟩)) := (World.cell?_alloc_lt W9 _ ⟨a, 0, none⟩ hal).trans p0
        have t0a : (W9.alloc (.cells ARR 59)).cell? ⟨tb, 0, none⟩ = some (.slice A rows.length c) := (World.cell?_alloc_lt W9 _ ⟨tb, 0, none⟩ hbl).trans t0
        have RD : Reads (W9.alloc (.cells ARR 59)) (W9.heap.size + 1) 9 (some ⟨W9.heap.size, 0, none⟩) 1 ARR.toList := by
          refine ⟨by rw [hARR]; rfl, fun _ => ⟨_, rfl, by simp, fun j u hu => ?_⟩⟩
          have h := (Blk.new W9 59 ARR).cell j
          rw [Addr.add_lit, Nat.zero_add, h]
          simpa using hu
        have hAc : ARR.toList = (It.mk n (.slice A3 n.kids.length c3) (.slice A7 m c7) s (d + 1)).cells := by rw [hARR]; simp [It.cells]
        have hXa2 := hX.later ((Below.refl _ _).alloc (Nat.le_refl _) (.cells ARR 59))
        have HXA : Hid (AddL w (W9.alloc (.cells ARR 59)).drew B tb a bx (.slice A rows.length c) rows n (.slice A3 n.kids.length c3) (.slice A7 m c7) s (d + 1)) := hide ⟨hX.later ((Below.refl W9.heap.size W9).alloc (Nat.le_refl _) (.cells ARR 59)).drew, own_belowT HR9.out.ot ((Below.refl W9.heap.size W9).alloc (Nat.le_refl _) (.cells ARR 59)).drew, HR9.out.ft⟩
        have RD := hide RD
        have HAC := hide hAc
        have h1c : Hid (∀ u ∈ ARR.toList, u.oneCell' = true) := hide (by rw [hARR]; intro u hu; simp at hu; rcases hu with rfl | rfl | rfl | rfl | rfl | rfl | rfl | rfl | rfl <;> rfl)
        have HBS := hide (show B ≤ W9.heap.size from by have := hX.tr.tB; omega)
        subst hARR
        clear hX hXa hXa2 hAc
        go_wp2_with fail
        refine wp_region_tail 10 (fun w' => w'.cell? ⟨a, 0, none⟩ = some (.pointer (some ⟨tb, 0, none⟩)) ∧ w'.cell? ⟨tb, 0, none⟩ = some (.slice A rows.length c) ∧ w'.cell? ⟨bx, 0, none⟩ = some (.int .i64 n.kind) ∧ w'.cell? ⟨bx, 1, none⟩ = some (.int .i64 n.f) ∧ w'.cell? ⟨bx, 2, none⟩ = some (.int .i64 n.l) ∧ w'.cell? ⟨bx, 3, none⟩ = some (.int .i64 n.c) ∧ w'.cell? ⟨bx, 4, none⟩ = some (.string n.text) ∧ w'.cell? ⟨bx, 5, none⟩ = some (.slice A3 n.kids.length c3) ∧ w'.cell? ⟨bx, 6, none⟩ = some (.slice A7 m c7) ∧ w'.cell? ⟨bx, 7, none⟩ = some (.int .i64 (s : Int)) ∧ w'.cell? ⟨bx, 8, none⟩ = some (.int .i64 ((d : Int) + 1))) (by kernel_rfl) ⟨p0, t0, x0, x1, x2, x3, x4, x5, x6, x7, x8⟩ (fun hHeld => ?_)
        try simp only [Act.put, List.setIfInBounds_toArray, List.set_cons_zero, List.set_cons_succ]
        refine' wpTail_take (i := 0) (oi := _) ?hiu1001 ?hsu1001 ?hfu1001 ?hru1001 ?hzu1001 ?hQu1001 (v := _) (Or.inl ⟨?hwu1001, ?hyu1001⟩) (by assumption) ?_
        case hiu1001 => (simp only [List.getElem?_toArray, List.getElem?_cons_zero]; exact rfl)
        case hsu1001 => kernel_rfl
        case hfu1001 => kernel_rfl
        case hru1001 => kernel_rfl
        case hzu1001 => kernel_rfl
        case hQu1001 => exact fun _ _ _ h => h
        case hwu1001 => rfl
        case hyu1001 => (intro w hSw; (try dsimp only at hSw); go_simp; (try with_reducible rfl))
        try simp only [Act.put, List.setIfInBounds_toArray, List.set_cons_zero, List.set_cons_succ]
        refine' wpTail_take (i := 1) (oi := _) ?hiu1002 ?hsu1002 ?hfu1002 ?hru1002 ?hzu1002 ?hQu1002 (v := _) (Or.inl ⟨?hwu1002, ?hyu1002⟩) (by assumption) ?_
        case hiu1002 => (simp only [List.getElem?_toArray, List.getElem?_cons_succ, List.getElem?_cons_zero]; exact rfl)
        case hsu1002 => kernel_rfl
        case hfu1002 => kernel_rfl
        case hru1002 => kernel_rfl
        case hzu1002 => kernel_rfl
        case hQu1002 => exact fun _ _ _ h => h
        case hwu1002 => rfl
        case hyu1002 => (intro w hSw; (try dsimp only at hSw); go_simp; (try with_reducible rfl))
        try simp only [Act.put, List.setIfInBounds_toArray, List.set_cons_zero, List.set_cons_succ]
        refine' wpTail_take (i := 2) (oi := _) ?hiu1003 ?hsu1003 ?hfu1003 ?hru1003 ?hzu1003 ?hQu1003 (v := _) (Or.inl ⟨?hwu1003, ?hyu1003⟩) (by assumption) ?_
        case hiu1003 => (simp only [List.getElem?_toArray, List.getElem?_cons_succ, List.getElem?_cons_zero]; exact rfl)
        case hsu1003 => kernel_rfl
        case hfu1003 => kernel_rfl
        case hru1003 => kernel_rfl
        case hzu1003 => kernel_rfl
        case hQu1003 => exact fun _ _ _ h => h
        case hwu1003 => rfl
        case hyu1003 => (intro w hSw; (try dsimp only at hSw); go_simp; (try with_reducible rfl))
        try simp only [Act.put, List.setIfInBounds_toArray, List.set_cons_zero, List.set_cons_succ]
        refine' wpTail_take (i := 3) (oi := _) ?hiu1004 ?hsu1004 ?hfu1004 ?hru1004 ?hzu1004 ?hQu1004 (v := _) (Or.inl ⟨?hwu1004, ?hyu1004⟩) (by assumption) ?_
        case hiu1004 => (simp only [List.getElem?_toArray, List.getElem?_cons_succ, List.getElem?_cons_zero]; exact rfl)
        case hsu1004 => kernel_rfl
        case hfu1004 => kernel_rfl
        case hru1004 => kernel_rfl
        case hzu1004 => kernel_rfl
        case hQu1004 => exact fun _ _ _ h => h
        case hwu1004 => rfl
        case hyu1004 => (intro w hSw; (try dsimp only at hSw); go_simp; (try with_reducible rfl))
        try simp only [Act.put, List.setIfInBounds_toArray, List.set_cons_zero, List.set_cons_succ]
        refine' wpTail_take (i := 4) (oi := _) ?hiu1005 ?hsu1005 ?hfu1005 ?hru1005 ?hzu1005 ?hQu1005 (v := _) (Or.inl ⟨?hwu1005, ?hyu1005⟩) (by assumption) ?_
        case hiu1005 => (simp only [List.getElem?_toArray, List.getElem?_cons_succ, List.getElem?_cons_zero]; exact rfl)
        case hsu1005 => kernel_rfl
        case hfu1005 => kernel_rfl
        case hru1005 => kernel_rfl
        case hzu1005 => kernel_rfl
        case hQu1005 => exact fun _ _ _ h => h
        case hwu1005 => rfl
        case hyu1005 => (intro w hSw; (try dsimp only at hSw); go_simp; (try with_reducible rfl))
        try simp only [Act.put, List.setIfInBounds_toArray, List.set_cons_zero, List.set_cons_succ]
        refine' wpTail_take (i := 5) (oi := _) ?hiu1006 ?hsu1006 ?hfu1006 ?hru1006 ?hzu1006 ?hQu1006 (v := _) (Or.inl ⟨?hwu1006, ?hyu1006⟩) (by assumption) ?_
        case hiu1006 => (simp only [List.getElem?_toArray, List.getElem?_cons_succ, List.getElem?_cons_zero]; exact rfl)
        case hsu1006 => kernel_rfl
        case hfu1006 => kernel_rfl
        case hru1006 => kernel_rfl
        case hzu1006 => kernel_rfl
        case hQu1006 => exact fun _ _ _ h => h
        case hwu1006 => rfl
        case hyu1006 => (intro w hSw; (try dsimp only at hSw); go_simp; (try with_reducible rfl))
        try simp only [Act.put, List.setIfInBounds_toArray, List.set_cons_zero, List.set_cons_succ]
        refine' wpTail_one (i := 6) (o := _) (by kernel_rfl) ?hou1007 ?hwu1007 (fun K hK => ?_)
        case hou1007 => (simp only [List.getElem?_toArray, List.getElem?_cons_succ, List.getElem?_cons_zero]; exact rfl)
        case hwu1007 => rfl
        go_simp
        obtain ⟨W11, hW11⟩ : ∃ W, W = (W9.alloc (.cells #[.int .i64 n.kind, .int .i64 n.f, .int .i64 n.l, .int .i64 n.c, .string n.text, .slice A3 n.kids.length c3, .slice A7 m c7, .int .i64 (s : Int), .int .i64 ((d : Int) + 1)] 59)).drew := ⟨_, rfl⟩
        have HW11 := hide hW11
        have S11 : W11.cell? ⟨a, 0, none⟩ = some (.pointer (some ⟨tb, 0, none⟩)) ∧ W11.cell? ⟨tb, 0, none⟩ = some (.slice A rows.length c) ∧ W11.cell? ⟨bx, 0, none⟩ = some (.int .i64 n.kind) ∧ W11.cell? ⟨bx, 1, none⟩ = some (.int .i64 n.f) ∧ W11.cell? ⟨bx, 2, none⟩ = some (.int .i64 n.l) ∧ W11.cell? ⟨bx, 3, none⟩ = some (.int .i64 n.c) ∧ W11.cell? ⟨bx, 4, none⟩ = some (.string n.text) ∧ W11.cell? ⟨bx, 5, none⟩ = some (.slice A3 n.kids.length c3) ∧ W11.cell? ⟨bx, 6, none⟩ = some (.slice A7 m c7) ∧ W11.cell? ⟨bx, 7, none⟩ = some (.int .i64 (s : Int)) ∧ W11.cell? ⟨bx, 8, none⟩ = some (.int .i64 ((d : Int) + 1)) := by
          rw [hW11]
          exact ⟨(World.cell?_alloc_lt W9 _ ⟨a, 0, none⟩ hal).trans p0, (World.cell?_alloc_lt W9 _ ⟨tb, 0, none⟩ hbl).trans t0, (World.cell?_alloc_lt W9 _ ⟨bx, 0, none⟩ hxl).trans x0, (World.cell?_alloc_lt W9 _ ⟨bx, 1, none⟩ hxl).trans x1, (World.cell?_alloc_lt W9 _ ⟨bx, 2, none⟩ hxl).trans x2, (World.cell?_alloc_lt W9 _ ⟨bx, 3, none⟩ hxl).trans x3, (World.cell?_alloc_lt W9 _ ⟨bx, 4, none⟩ hxl).trans x4, (World.cell?_alloc_lt W9 _ ⟨bx, 5, none⟩ hxl).trans x5, (World.cell?_alloc_lt W9 _ ⟨bx, 6, none⟩ hxl).trans x6, (World.cell?_alloc_lt W9 _ ⟨bx, 7, none⟩ hxl).trans x7, (World.cell?_alloc_lt W9 _ ⟨bx, 8, none⟩ hxl).trans x8⟩
        refine hK.out _ _ (fun _ => by have h := S11; rw [hW11] at h; exact h) ?_
        clear hK K
        rw [← hW11]
        have hRD := RD.out.drew
        rw [← hW11] at hRD HXA
        try simp only [Act.put, List.setIfInBounds_toArray, List.set_cons_zero, List.set_cons_succ]
        clear hHeld
        refine' wpTail_one (i := 7) (o := _) (by kernel_rfl) ?hou1008 ?hwu1008 (fun K hK => ?_)
        case hou1008 => (simp only [List.getElem?_toArray, List.getElem?_cons_succ, List.getElem?_cons_zero]; exact rfl)
        case hwu1008 => rfl
        refine wp_append_any _ (.tmp 92) (.tmp 94) _ rfl B 59 i0 _ 9 112 Tryd.underlying54 hi0 hz0 hz1 hz2 rfl (by omega) (.slice A rows.length c) rows.length (rows.flatMap It.cells) rfl HXA.out.x.tr.it (W9.heap.size + 1) (some ⟨W9.heap.size, 0, none⟩) 1 1 _ rfl hRD h1c.out (by have := HL.out; simp only [maxLen]; omega) (by have := HL.out; omega) (by have := HXA.out.x.tr.tB; have := HXA.out.x.tr.lt; omega) ?_
        intro v10 w10 hown10 hg10 hat10
        obtain ⟨A10, c10, rfl⟩ := own_formT hown10
        have hne10 : ∀ k, (Value.slice A rows.length c).ownBlock = some k → k ≠ a ∧ k ≠ tb ∧ k ≠ bx := fun k hk => ⟨fun e => own_blk_ne HXA.out.x.tr.it HXA.out.x.bt (by decide) (by rw [hk, e]), fun e => own_blk_ne HXA.out.x.tr.it HXA.out.x.tr.bl (by decide) (by rw [hk, e]), fun e => HXA.out.x.cl.v (by rw [hk, e])⟩
        have ba10 := HXA.out.x.bt.grown hg10 (fun e => (hne10 _ e.symm).1 rfl)
        have hb10 := HXA.out.x.tr.bl.grown hg10 (fun e => (hne10 _ e.symm).2.1 rfl)
        have bx10 := HXA.out.x.bi.grown hg10 (fun e => (hne10 _ e.symm).2.2 rfl)
        have S10 : w10.cell? ⟨a, 0, none⟩ = some (.pointer (some ⟨tb, 0, none⟩)) ∧ w10.cell? ⟨tb, 0, none⟩ = some (.slice A rows.length c) ∧ w10.cell? ⟨bx, 0, none⟩ = some (.int .i64 n.kind) ∧ w10.cell? ⟨bx, 1, none⟩ = some (.int .i64 n.f) ∧ w10.cell? ⟨bx, 2, none⟩ = some (.int .i64 n.l) ∧ w10.cell? ⟨bx, 3, none⟩ = some (.int .i64 n.c) ∧ w10.cell? ⟨bx, 4, none⟩ = some (.string n.text) ∧ w10.cell? ⟨bx, 5, none⟩ = some (.slice A3 n.kids.length c3) ∧ w10.cell? ⟨bx, 6, none⟩ = some (.slice A7 m c7) ∧ w10.cell? ⟨bx, 7, none⟩ = some (.int .i64 (s : Int)) ∧ w10.cell? ⟨bx, 8, none⟩ = some (.int .i64 ((d : Int) + 1)) :=
          ⟨ba10.cell 0, hb10.cell 0, bx10.cell 0, bx10.cell 1, bx10.cell 2, bx10.cell 3, bx10.cell 4, bx10.cell 5, bx10.cell 6, bx10.cell 7, by have := bx10.cell 8; simpa using this⟩
        refine hK.out _ _ (fun _ => S10) ?_
        clear hK K
        have f10 := hb10.frozen 0
        have t10 : w10.cell? ⟨tb, 0, none⟩ = some (.slice A rows.length c) := hb10.cell 0
        have p10 : w10.cell? ⟨a, 0, none⟩ = some (.pointer (some ⟨tb, 0, none⟩)) := ba10.cell 0
        have HPU := hide (HXA.out.push HG.out HL.out.1 (by rw [HE.out.1]) (by rw [HE.out.2]) (by have := hown10; rw [HAC.out] at this; exact this) hg10)
        have hta : tb ≠ a := fun e => (Blk.ne_ HXA.out.x.tr.bl HXA.out.x.bt (by decide)) e
        clear hown10 hg10 hne10 ba10 hb10 bx10 hat10 S11 hW11
        try simp only [Act.put, List.setIfInBounds_toArray, List.set_cons_zero, List.set_cons_succ]
        refine' wpTail_one (i := 8) (o := _) (by kernel_rfl) ?hou1009 ?hwu1009 (fun K hK => ?_)
        case hou1009 => (simp only [List.getElem?_toArray, List.getElem?_cons_succ, List.getElem?_cons_zero]; exact rfl)
        case hwu1009 => rfl
        go_simp
        refine hK.out _ _ (fun _ => S10) ?_
        clear hK K
        try simp only [Act.put, List.setIfInBounds_toArray, List.set_cons_zero, List.set_cons_succ]
        refine' wpTail_one (i := 9) (o := _) (by kernel_rfl) ?hou1010 ?hwu1010 (fun K hK => ?_)
        case hou1010 => (simp only [List.getElem?_toArray, List.getElem?_cons_succ, List.getElem?_cons_zero]; exact rfl)
        case hwu1010 => rfl
        go_simp
        refine hK.out _ _ (fun _ => S10) ?_
        clear hK K
        try simp only [Act.put, List.setIfInBounds_toArray, List.set_cons_zero, List.set_cons_succ]
        refine' wpTail_one (i := 10) (o := _) (by kernel_rfl) ?hou1011 ?hwu1011 (fun K hK => ?_)
        case hou1011 => (simp only [List.getElem?_toArray, List.getElem?_cons_succ, List.getElem?_cons_zero]; exact rfl)
        case hwu1011 => rfl
        go_simp
        refine hK.out _ _ (fun h => absurd rfl h) ?_
        clear hK K
        refine wpTail_done (by kernel_rfl) ?_ _
        clear S10
        try simp only [Act.put, List.setIfInBounds_toArray, List.set_cons_zero, List.set_cons_succ]
        go_wp2_with fail
        go_ret2
        exact ⟨by simp, _, _, rfl, HR9.out.x.fk, HR9.out.ft, HPU.out.1, HPU.out.2.1, HPU.out.2.2⟩
  | false =>
    rw [hz] at HCZ
    have hks : thrI n.kids = n.kids := by
      unfold thrI
      rw [List.filter_eq_self]
      intro x hx
      have h := List.any_eq_false.1 hz x hx
      unfold isZ at h
      simpa using h
    have hL8 : AddL w W5 B tb a bx (.slice A rows.length c) rows n (.slice A3 n.kids.length c3) (.slice A3 n.kids.length c3) 1 0 := ⟨HX5.out, by rw [hks]; exact HX5.out.ok, HX5.out.fk⟩
    have hI8 := IntsAt.own HX5.out.ok
    clear hz
    refine HCZ.out.mono ?_
    rintro e w' ⟨rfl, rfl⟩
    have c6 := HX5.out.bi.cell 6
    simp at c6
    obtain ⟨m, hm⟩ : ∃ m, m = (thrI n.kids).length := ⟨_, rfl⟩
    have hm2 : n.kids.length = m := by rw [hm, hks]
    obtain ⟨TV, hTV⟩ : ∃ TV, TV = Value.slice A3 n.kids.length c3 := ⟨_, rfl⟩
    have hTV2 : TV = .slice A3 m c3 := by rw [hTV, hm2]
    have HL8 : Hid (AddL w W5 B tb a bx (.slice A rows.length c) rows n (.slice A3 n.kids.length c3) (.slice A3 m c3) 1 0) := hide (by rw [← hTV2, ← hTV]; rw [← hTV] at hL8; exact hL8)
    rw [hm2] at c6
    have HM := hide hm
    clear hm HCC hks hL8 hI8 hTV hTV2 hm2
    go_wp2_with fail
    go_loopw [52] (fun i wr => ∃ j : Nat, j ≤ m ∧ i = .int .i64 j ∧ Hid (AddL w wr B tb a bx (.slice A rows.length c) rows n (.slice A3 n.kids.length c3) (.slice A3 m c3) (szF (nds rows) (((thrI n.kids).take j).map Int.toNat)) (dpF (nds rows) (((thrI n.kids).take j).map Int.toNat)))) (fun i _ => m - (intOf i).toNat)
    case atStart => exact ⟨0, Nat.zero_le _, rfl, hide (by have := HL8.out; simpa [szF, dpF] using this)⟩
    case round =>
      obtain ⟨j, hj, rfl, HR⟩ := hrel
      have hI := IntsAt.own HR.out.ot
      have p0 := HR.out.x.bt.cell 0
      simp at p0
      have f7 := HR.out.x.bi.frozen 7
      have f8 := HR.out.x.bi.frozen 8
      have s7 := HR.out.x.bi.cell 7
      have s8 := HR.out.x.bi.cell 8
      simp only [It.arr] at s7 s8
      obtain ⟨s, hs⟩ : ∃ s, s = szF (nds rows) (((thrI n.kids).take j).map Int.toNat) := ⟨_, rfl⟩
      obtain ⟨d, hd⟩ : ∃ d, d = dpF (nds rows) (((thrI n.kids).take j).map Int.toNat) := ⟨_, rfl⟩
      rw [← hs, ← hd] at HR
      rw [← hs] at s7
      rw [← hd] at s8
      simp at s7 s8
      have hsl : s ≤ 65537 := by rw [hs]; exact szF_le _ _
      have HS := hide (And.intro hs hd)
      clear hs hd
      by_cases hlt : j < m
      · obtain ⟨b, off, x, rfl, _, hx, hcell⟩ := hI.at_ (k := j) (by rw [← HM.out]; exact hlt)
        obtain ⟨k, r, rfl, hkl, hr⟩ : ∃ (k : Nat) (r : It), x = ((k + 1 : Nat) : Int) ∧ k < rows.length ∧ rows[k]? = some r := by
          have hm := List.mem_filter.1 (List.mem_of_getElem? hx)
          have h1 := (goodN_iff.1 HG.out).2 x hm.1
          have h2 : x ≠ 0 := by have := hm.2; simpa using this
          exact ⟨x.toNat - 1, rows[x.toNat - 1]'(by omega), by omega, by omega, List.getElem?_eq_getElem _⟩
        obtain ⟨g, cc, hv, ht, hcs⟩ := HR.out.x.tr.at_ hr
        injection hv with hv1 _ hv2
        subst hv1 hv2
        have k7 := hcs 7 _ rfl
        have k8 := hcs 8 _ rfl
        have hek := HR.out.x.tr.el k r hr
        obtain ⟨z, hz⟩ : ∃ z, z = r.sz := ⟨_, rfl⟩
        obtain ⟨y, hy⟩ : ∃ y, y = r.dp := ⟨_, rfl⟩
        rw [← hz] at k7
        rw [← hy] at k8
        have hzl : z ≤ 65537 := by rw [hz, hek.hs]; omega
        have HZY := hide (And.intro (hz.trans hek.hs) (hy.trans hek.hd))
        have HX := hide hx
        have HRK := hide hr
        have HYY := hide hy.symm
        have HLE := hide HR.out.x.tr.le
        obtain ⟨i, hi⟩ : ∃ i : Int, i = ((k + 1 : Nat) : Int) := ⟨_, rfl⟩
        rw [← hi] at hcell
        obtain ⟨mm, hmm⟩ : ∃ mm, mm = rows.length := ⟨_, rfl⟩
        rw [← hmm] at ht
        have HMM := hide hmm.symm
        have q1 : IntKind.i64.wrap (i - 1) = (k : Int) := by rw [hi, show ((k + 1 : Nat) : Int) - 1 = (k : Int) by omega]; exact IntWalk.i64_in _ (by have := HLE.out; omega)
        have q2 : IntKind.i64.wrap ((s : Int) + (z : Int)) = (s : Int) + (z : Int) := IntWalk.i64_in _ (by omega)
        have hml : m ≤ 65536 := by have h1 := HM.out; have h2 := List.length_filter_le (fun k : Int => !(k == 0)) n.kids; have h3 := HL.out.2; unfold thrI at h1; omega
        have q3 : IntKind.i64.wrap ((j : Int) + 1) = (j : Int) + 1 := IntWalk.i64_in _ (by omega)
        clear hml
        have j1 : (k : Int) < (mm : Int) := by omega
        have j2 : (0 : Int) ≤ (k : Int) := by omega
        obtain ⟨s2, hs2⟩ : ∃ s2, s2 = min 65537 (s + z) := ⟨_, rfl⟩
        have HMIN := hide (show (if (s : Int) + (z : Int) < 65537 then (s : Int) + (z : Int) else 65537) = (s2 : Int) by rw [hs2]; split <;> omega)
        have HS2 := hide hs2
        obtain ⟨d2, hd2⟩ : ∃ d2, d2 = max d y := ⟨_, rfl⟩
        have HMAX := hide (show (if d < y then (y : Int) else (d : Int)) = (d2 : Int) by rw [hd2]; split <;> omega)
        have HD2 := hide hd2
        clear hd2
        clear hz hy hek hx hcs hi hI hkl hr hmm hs2 hzl hsl
        go_wp2_with fail
        go_still_tail 14, (by kernel_rfl)
        rw [HMIN.out]
        go_wp2_with fail
        have hR9 := (HR.out.set_ 7 (.int .i64 (s2 : Int)) s2 d rfl).drew
        obtain ⟨W9, hW9⟩ : ∃ W9, W9 = (wr.setCell ⟨bx, 7, none⟩ (.int .i64 (s2 : Int))).drew := ⟨_, rfl⟩
        rw [← hW9] at hR9 ⊢
        clear p0 f7 f8 s7 s8 hcell ht k7 k8
        obtain ⟨g9, cc9, hv9, ht, hcs⟩ := hR9.x.tr.at_ (HRK.out)
        injection hv9 with hv1 _ hv2
        injection hv1 with hv1
        injection hv1 with hv1
        subst hv1 hv2
        have k8 := hcs 8 _ rfl
        have p0 := hR9.x.bt.cell 0
        simp at p0
        have s8 := hR9.x.bi.cell 8
        simp only [It.arr] at s8
        simp at s8
        have f8 := hR9.x.bi.frozen 8
        rw [HYY.out] at k8
        rw [HMM.out] at ht
        have HR9 := hide hR9
        have HW9 := hide hW9
        clear hcs hR9 hW9
        go_still_tail 13, (by kernel_rfl)
        rw [HMAX.out]
        go_wp2_with fail
        go_roundw
        case rel =>
          have hR := (HR9.out.set_ 8 (.int .i64 (d2 : Int)) s2 d2 rfl).drew
          have e1 : ((thrI n.kids).take (j + 1)).map Int.toNat = ((thrI n.kids).take j).map Int.toNat ++ [k + 1] := by
            rw [List.take_add_one, HX.out]
            simp
          have e2 : szF (nds rows) (((thrI n.kids).take (j + 1)).map Int.toNat) = s2 := by rw [e1, szF_snoc, ← HS.out.1, ← HZY.out.1, HS2.out]
          have e3 : dpF (nds rows) (((thrI n.kids).take (j + 1)).map Int.toNat) = d2 := by rw [e1, dpF_snoc, ← HS.out.2, ← HZY.out.2, HD2.out]
          refine ⟨j + 1, by omega, by simp, hide ?_⟩
          rw [e2, e3]
          exact hR
        case measure => simp [intOf]; omega
      · have hjm : j = m := by omega
        have e1 : ((thrI n.kids).take j).map Int.toNat = (thrI n.kids).map Int.toNat := by rw [List.take_of_length_le (by rw [← HM.out]; omega)]
        have HE := hide (show s = szF (nds rows) ((thrI n.kids).map Int.toNat) ∧ d = dpF (nds rows) ((thrI n.kids).map Int.toNat) from by rw [← e1]; exact HS.out)
        have hdl : d ≤ 65536 := by
          rw [HE.out.2]
          refine foldl_max_le _ _ (by omega) (fun x hx => ?_)
          obtain ⟨k, hk, rfl⟩ := List.mem_map.1 hx
          obtain ⟨y, hy, rfl⟩ := List.mem_map.1 hk
          have h1 := (goodN_iff.1 HG.out).2 y (List.mem_filter.1 hy).1
          have h2 := D_leT HR.out.x.tr.ok _ y.toNat (Nat.le_refl _)
          have := HL.out.1
          omega
        have q1 : IntKind.i64.wrap ((d : Int) + 1) = (d : Int) + 1 := IntWalk.i64_in _ (by omega)
        have hR9 := HR.out.set_ 8 (.int .i64 ((d + 1 : Nat) : Int)) s (d + 1) rfl
        have e9 : ((d + 1 : Nat) : Int) = (d : Int) + 1 := by omega
        rw [e9] at hR9
        obtain ⟨W9, hW9⟩ : ∃ W9, W9 = wr.setCell ⟨bx, 8, none⟩ (.int .i64 ((d : Int) + 1)) := ⟨_, rfl⟩
        rw [← hW9] at hR9
        have HR9 := hide hR9
        have HW9 := hide hW9
        have HJM := hide hjm
        clear hI hR9 hW9 e1 e9 hdl hsl hjm
        go_upto_region 18 with (fail)
        rw [← HW9.out]
        obtain ⟨i0, hi0, hz0, hz1, hz2⟩ := info_parts itemInfoT
        have hX := HR9.out.x
        have hXa := hX.later ((Below.refl _ _).alloc (Nat.le_refl _) (.cells (It.arr ⟨n, .slice A3 n.kids.length c3, .slice A3 m c3, s, d + 1⟩) 59))
        clear p0 f7 f8 s7 s8
        have p0 := hX.bt.cell 0
        have t0 : W9.cell? ⟨tb, 0, none⟩ = some (.slice A rows.length c) := hX.tr.bl.cell 0
        have x0 := hX.bi.cell 0
        have x1 := hX.bi.cell 1
        have x2 := hX.bi.cell 2
        have x3 := hX.bi.cell 3
        have x4 := hX.bi.cell 4
        have x5 := hX.bi.cell 5
        have x6 := hX.bi.cell 6
        have x7 := hX.bi.cell 7
        have x8 := hX.bi.cell 8
        simp only [It.arr] at x0 x1 x2 x3 x4 x5 x6 x7 x8
        simp at p0 x0 x1 x2 x3 x4 x5 x6 x7 x8
        have hbl := hX.tr.lt
        have hal := hX.bt.lt
        have hxl := hX.bi.lt
        obtain ⟨ARR, hARR⟩ : ∃ ARR : Array Value, ARR = #[.int .i64 n.kind, .int .i64 n.f, .int .i64 n.l, .int .i64 n.c, .string n.text, .slice A3 n.kids.length c3, .slice A3 m c3, .int .i64 (s : Int), .int .i64 ((d : Int) + 1)] := ⟨_, rfl⟩
        have p0a : (W9.alloc (.cells ARR 59)).cell? ⟨a, 0, none⟩ = some (.pointer (some ⟨tb, 0, none⟩)) := (World.cell?_alloc_lt W9 _ ⟨a, 0, none⟩ hal).trans p0
        have t0a : (W9.alloc (.cells ARR 59)).cell? ⟨tb, 0, none⟩ = some (.slice A rows.length c) := (World.cell?_alloc_lt W9 _ ⟨tb, 0, none⟩ hbl).trans t0
        have RD : Reads (W9.alloc (.cells ARR 59)) (W9.heap.size + 1) 9 (some ⟨W9.heap.size, 0, none⟩) 1 ARR.toList := by
          refine ⟨by rw [hARR]; rfl, fun _ => ⟨_, rfl, by simp, fun j u hu => ?_⟩⟩
          have h := (Blk.new W9 59 ARR).cell j
          rw [Addr.add_lit, Nat.zero_add, h]
          simpa using hu
        have hAc : ARR.toList = (It.mk n (.slice A3 n.kids.length c3) (.slice A3 m c3) s (d + 1)).cells := by rw [hARR]; simp [It.cells]
        have hXa2 := hX.later ((Below.refl _ _).alloc (Nat.le_refl _) (.cells ARR 59))
        have HXA : Hid (AddL w (W9.alloc (.cells ARR 59)).drew B tb a bx (.slice A rows.length c) rows n (.slice A3 n.kids.length c3) (.slice A3 m c3) s (d + 1)) := hide ⟨hX.later ((Below.refl W9.heap.size W9).alloc (Nat.le_refl _) (.cells ARR 59)).drew, own_belowT HR9.out.ot ((Below.refl W9.heap.size W9).alloc (Nat.le_refl _) (.cells ARR 59)).drew, HR9.out.ft⟩
        have RD := hide RD
        have HAC := hide hAc
        have h1c : Hid (∀ u ∈ ARR.toList, u.oneCell' = true) := hide (by rw [hARR]; intro u hu; simp at hu; rcases hu with rfl | rfl | rfl | rfl | rfl | rfl | rfl | rfl | rfl <;> rfl)
        have HBS := hide (show B ≤ W9.heap.size from by have := hX.tr.tB; omega)
        subst hARR
        clear hX hXa hXa2 hAc
        go_wp2_with fail
        refine wp_region_tail 10 (fun w' => w'.cell? ⟨a, 0, none⟩ = some (.pointer (some ⟨tb, 0, none⟩)) ∧ w'.cell? ⟨tb, 0, none⟩ = some (.slice A rows.length c) ∧ w'.cell? ⟨bx, 0, none⟩ = some (.int .i64 n.kind) ∧ w'.cell? ⟨bx, 1, none⟩ = some (.int .i64 n.f) ∧ w'.cell? ⟨bx, 2, none⟩ = some (.int .i64 n.l) ∧ w'.cell? ⟨bx, 3, none⟩ = some (.int .i64 n.c) ∧ w'.cell? ⟨bx, 4, none⟩ = some (.string n.text) ∧ w'.cell? ⟨bx, 5, none⟩ = some (.slice A3 n.kids.length c3) ∧ w'.cell? ⟨bx, 6, none⟩ = some (.slice A3 m c3) ∧ w'.cell? ⟨bx, 7, none⟩ = some (.int .i64 (s : Int)) ∧ w'.cell? ⟨bx, 8, none⟩ = some (.int .i64 ((d : Int) + 1))) (by kernel_rfl) ⟨p0, t0, x0, x1, x2, x3, x4, x5, x6, x7, x8⟩ (fun hHeld => ?_)
        try simp only [Act.put, List.setIfInBounds_toArray, List.set_cons_zero, List.set_cons_succ]
        refine' wpTail_take (i := 0) (oi := _) ?hiu1001 ?hsu1001 ?hfu1001 ?hru1001 ?hzu1001 ?hQu1001 (v := _) (Or.inl ⟨?hwu1001, ?hyu1001⟩) (by assumption) ?_
        case hiu1001 => (simp only [List.getElem?_toArray, List.getElem?_cons_zero]; exact rfl)
        case hsu1001 => kernel_rfl
        case hfu1001 => kernel_rfl
        case hru1001 => kernel_rfl
        case hzu1001 => kernel_rfl
        case hQu1001 => exact fun _ _ _ h => h
        case hwu1001 => rfl
        case hyu1001 => (intro w hSw; (try dsimp only at hSw); go_simp; (try with_reducible rfl))
        try simp only [Act.put, List.setIfInBounds_toArray, List.set_cons_zero, List.set_cons_succ]
        refine' wpTail_take (i := 1) (oi := _) ?hiu1002 ?hsu1002 ?hfu1002 ?hru1002 ?hzu1002 ?hQu1002 (v := _) (Or.inl ⟨?hwu1002, ?hyu1002⟩) (by assumption) ?_
        case hiu1002 => (simp only [List.getElem?_toArray, List.getElem?_cons_succ, List.getElem?_cons_zero]; exact rfl)
        case hsu1002 => kernel_rfl
        case hfu1002 => kernel_rfl
        case hru1002 => kernel_rfl
        case hzu1002 => kernel_rfl
        case hQu1002 => exact fun _ _ _ h => h
        case hwu1002 => rfl
        case hyu1002 => (intro w hSw; (try dsimp only at hSw); go_simp; (try with_reducible rfl))
        try simp only [Act.put, List.setIfInBounds_toArray, List.set_cons_zero, List.set_cons_succ]
        refine' wpTail_take (i := 2) (oi := _) ?hiu1003 ?hsu1003 ?hfu1003 ?hru1003 ?hzu1003 ?hQu1003 (v := _) (Or.inl ⟨?hwu1003, ?hyu1003⟩) (by assumption) ?_
        case hiu1003 => (simp only [List.getElem?_toArray, List.getElem?_cons_succ, List.getElem?_cons_zero]; exact rfl)
        case hsu1003 => kernel_rfl
        case hfu1003 => kernel_rfl
        case hru1003 => kernel_rfl
        case hzu1003 => kernel_rfl
        case hQu1003 => exact fun _ _ _ h => h
        case hwu1003 => rfl
        case hyu1003 => (intro w hSw; (try dsimp only at hSw); go_simp; (try with_reducible rfl))
        try simp only [Act.put, List.setIfInBounds_toArray, List.set_cons_zero, List.set_cons_succ]
        refine' wpTail_take (i := 3) (oi := _) ?hiu1004 ?hsu1004 ?hfu1004 ?hru1004 ?hzu1004 ?hQu1004 (v := _) (Or.inl ⟨?hwu1004, ?hyu1004⟩) (by assumption) ?_
        case hiu1004 => (simp only [List.getElem?_toArray, List.getElem?_cons_succ, List.getElem?_cons_zero]; exact rfl)
        case hsu1004 => kernel_rfl
        case hfu1004 => kernel_rfl
        case hru1004 => kernel_rfl
        case hzu1004 => kernel_rfl
        case hQu1004 => exact fun _ _ _ h => h
        case hwu1004 => rfl
        case hyu1004 => (intro w hSw; (try dsimp only at hSw); go_simp; (try with_reducible rfl))
        try simp only [Act.put, List.setIfInBounds_toArray, List.set_cons_zero, List.set_cons_succ]
        refine' wpTail_take (i := 4) (oi := _) ?hiu1005 ?hsu1005 ?hfu1005 ?hru1005 ?hzu1005 ?hQu1005 (v := _) (Or.inl ⟨?hwu1005, ?hyu1005⟩) (by assumption) ?_
        case hiu1005 => (simp only [List.getElem?_toArray, List.getElem?_cons_succ, List.getElem?_cons_zero]; exact rfl)
        case hsu1005 => kernel_rfl
        case hfu1005 => kernel_rfl
        case hru1005 => kernel_rfl
        case hzu1005 => kernel_rfl
        case hQu1005 => exact fun _ _ _ h => h
        case hwu1005 => rfl
        case hyu1005 => (intro w hSw; (try dsimp only at hSw); go_simp; (try with_reducible rfl))
        try simp only [Act.put, List.setIfInBounds_toArray, List.set_cons_zero, List.set_cons_succ]
        refine' wpTail_take (i := 5) (oi := _) ?hiu1006 ?hsu1006 ?hfu1006 ?hru1006 ?hzu1006 ?hQu1006 (v := _) (Or.inl ⟨?hwu1006, ?hyu1006⟩) (by assumption) ?_
        case hiu1006 => (simp only [List.getElem?_toArray, List.getElem?_cons_succ, List.getElem?_cons_zero]; exact rfl)
        case hsu1006 => kernel_rfl
        case hfu1006 => kernel_rfl
        case hru1006 => kernel_rfl
        case hzu1006 => kernel_rfl
        case hQu1006 => exact fun _ _ _ h => h
        case hwu1006 => rfl
        case hyu1006 => (intro w hSw; (try dsimp only at hSw); go_simp; (try with_reducible rfl))
        try simp only [Act.put, List.setIfInBounds_toArray, List.set_cons_zero, List.set_cons_succ]
        refine' wpTail_one (i := 6) (o := _) (by kernel_rfl) ?hou1007 ?hwu1007 (fun K hK => ?_)
        case hou1007 => (simp only [List.getElem?_toArray, List.getElem?_cons_succ, List.getElem?_cons_zero]; exact rfl)
        case hwu1007 => rfl
        go_simp
        obtain ⟨W11, hW11⟩ : ∃ W, W = (W9.alloc (.cells #[.int .i64 n.kind, .int .i64 n.f, .int .i64 n.l, .int .i64 n.c, .string n.text, .slice A3 n.kids.length c3, .slice A3 m c3, .int .i64 (s : Int), .int .i64 ((d : Int) + 1)] 59)).drew := ⟨_, rfl⟩
        have HW11 := hide hW11
        have S11 : W11.cell? ⟨a, 0, none⟩ = some (.pointer (some ⟨tb, 0, none⟩)) ∧ W11.cell? ⟨tb, 0, none⟩ = some (.slice A rows.length c) ∧ W11.cell? ⟨bx, 0, none⟩ = some (.int .i64 n.kind) ∧ W11.cell? ⟨bx, 1, none⟩ = some (.int .i64 n.f) ∧ W11.cell? ⟨bx, 2, none⟩ = some (.int .i64 n.l) ∧ W11.cell? ⟨bx, 3, none⟩ = some (.int .i64 n.c) ∧ W11.cell? ⟨bx, 4, none⟩ = some (.string n.text) ∧ W11.cell? ⟨bx, 5, none⟩ = some (.slice A3 n.kids.length c3) ∧ W11.cell? ⟨bx, 6, none⟩ = some (.slice A3 m c3) ∧ W11.cell? ⟨bx, 7, none⟩ = some (.int .i64 (s : Int)) ∧ W11.cell? ⟨bx, 8, none⟩ = some (.int .i64 ((d : Int) + 1)) := by
          rw [hW11]
          exact ⟨(World.cell?_alloc_lt W9 _ ⟨a, 0, none⟩ hal).trans p0, (World.cell?_alloc_lt W9 _ ⟨tb, 0, none⟩ hbl).trans t0, (World.cell?_alloc_lt W9 _ ⟨bx, 0, none⟩ hxl).trans x0, (World.cell?_alloc_lt W9 _ ⟨bx, 1, none⟩ hxl).trans x1, (World.cell?_alloc_lt W9 _ ⟨bx, 2, none⟩ hxl).trans x2, (World.cell?_alloc_lt W9 _ ⟨bx, 3, none⟩ hxl).trans x3, (World.cell?_alloc_lt W9 _ ⟨bx, 4, none⟩ hxl).trans x4, (World.cell?_alloc_lt W9 _ ⟨bx, 5, none⟩ hxl).trans x5, (World.cell?_alloc_lt W9 _ ⟨bx, 6, none⟩ hxl).trans x6, (World.cell?_alloc_lt W9 _ ⟨bx, 7, none⟩ hxl).trans x7, (World.cell?_alloc_lt W9 _ ⟨bx, 8, none⟩ hxl).trans x8⟩
        refine hK.out _ _ (fun _ => by have h := S11; rw [hW11] at h; exact h) ?_
        clear hK K
        rw [← hW11]
        have hRD := RD.out.drew
        rw [← hW11] at hRD HXA
        try simp only [Act.put, List.setIfInBounds_toArray, List.set_cons_zero, List.set_cons_succ]
        clear hHeld
        refine' wpTail_one (i := 7) (o := _) (by kernel_rfl) ?hou1008 ?hwu1008 (fun K hK => ?_)
        case hou1008 => (simp only [List.getElem?_toArray, List.getElem?_cons_succ, List.getElem?_cons_zero]; exact rfl)
        case hwu1008 => rfl
        refine wp_append_any _ (.tmp 92) (.tmp 94) _ rfl B 59 i0 _ 9 112 Tryd.underlying54 hi0 hz0 hz1 hz2 rfl (by omega) (.slice A rows.length c) rows.length (rows.flatMap It.cells) rfl HXA.out.x.tr.it (W9.heap.size + 1) (some ⟨W9.heap.size, 0, none⟩) 1 1 _ rfl hRD h1c.out (by have := HL.out; simp only [maxLen]; omega) (by have := HL.out; omega) (by have := HXA.out.x.tr.tB; have := HXA.out.x.tr.lt; omega) ?_
        intro v10 w10 hown10 hg10 hat10
        obtain ⟨A10, c10, rfl⟩ := own_formT hown10
        have hne10 : ∀ k, (Value.slice A rows.length c).ownBlock = some k → k ≠ a ∧ k ≠ tb ∧ k ≠ bx := fun k hk => ⟨fun e => own_blk_ne HXA.out.x.tr.it HXA.out.x.bt (by decide) (by rw [hk, e]), fun e => own_blk_ne HXA.out.x.tr.it HXA.out.x.tr.bl (by decide) (by rw [hk, e]), fun e => HXA.out.x.cl.v (by rw [hk, e])⟩
        have ba10 := HXA.out.x.bt.grown hg10 (fun e => (hne10 _ e.symm).1 rfl)
        have hb10 := HXA.out.x.tr.bl.grown hg10 (fun e => (hne10 _ e.symm).2.1 rfl)
        have bx10 := HXA.out.x.bi.grown hg10 (fun e => (hne10 _ e.symm).2.2 rfl)
        have S10 : w10.cell? ⟨a, 0, none⟩ = some (.pointer (some ⟨tb, 0, none⟩)) ∧ w10.cell? ⟨tb, 0, none⟩ = some (.slice A rows.length c) ∧ w10.cell? ⟨bx, 0, none⟩ = some (.int .i64 n.kind) ∧ w10.cell? ⟨bx, 1, none⟩ = some (.int .i64 n.f) ∧ w10.cell? ⟨bx, 2, none⟩ = some (.int .i64 n.l) ∧ w10.cell? ⟨bx, 3, none⟩ = some (.int .i64 n.c) ∧ w10.cell? ⟨bx, 4, none⟩ = some (.string n.text) ∧ w10.cell? ⟨bx, 5, none⟩ = some (.slice A3 n.kids.length c3) ∧ w10.cell? ⟨bx, 6, none⟩ = some (.slice A3 m c3) ∧ w10.cell? ⟨bx, 7, none⟩ = some (.int .i64 (s : Int)) ∧ w10.cell? ⟨bx, 8, none⟩ = some (.int .i64 ((d : Int) + 1)) :=
          ⟨ba10.cell 0, hb10.cell 0, bx10.cell 0, bx10.cell 1, bx10.cell 2, bx10.cell 3, bx10.cell 4, bx10.cell 5, bx10.cell 6, bx10.cell 7, by have := bx10.cell 8; simpa using this⟩
        refine hK.out _ _ (fun _ => S10) ?_
        clear hK K
        have f10 := hb10.frozen 0
        have t10 : w10.cell? ⟨tb, 0, none⟩ = some (.slice A rows.length c) := hb10.cell 0
        have p10 : w10.cell? ⟨a, 0, none⟩ = some (.pointer (some ⟨tb, 0, none⟩)) := ba10.cell 0
        have HPU := hide (HXA.out.push HG.out HL.out.1 (by rw [HE.out.1]) (by rw [HE.out.2]) (by have := hown10; rw [HAC.out] at this; exact this) hg10)
        have hta : tb ≠ a := fun e => (Blk.ne_ HXA.out.x.tr.bl HXA.out.x.bt (by decide)) e
        clear hown10 hg10 hne10 ba10 hb10 bx10 hat10 S11 hW11
        try simp only [Act.put, List.setIfInBounds_toArray, List.set_cons_zero, List.set_cons_succ]
        refine' wpTail_one (i := 8) (o := _) (by kernel_rfl) ?hou1009 ?hwu1009 (fun K hK => ?_)
        case hou1009 => (simp only [List.getElem?_toArray, List.getElem?_cons_succ, List.getElem?_cons_zero]; exact rfl)
        case hwu1009 => rfl
        go_simp
        refine hK.out _ _ (fun _ => S10) ?_
        clear hK K
        try simp only [Act.put, List.setIfInBounds_toArray, List.set_cons_zero, List.set_cons_succ]
        refine' wpTail_one (i := 9) (o := _) (by kernel_rfl) ?hou1010 ?hwu1010 (fun K hK => ?_)
        case hou1010 => (simp only [List.getElem?_toArray, List.getElem?_cons_succ, List.getElem?_cons_zero]; exact rfl)
        case hwu1010 => rfl
        go_simp
        refine hK.out _ _ (fun _ => S10) ?_
        clear hK K
        try simp only [Act.put, List.setIfInBounds_toArray, List.set_cons_zero, List.set_cons_succ]
        refine' wpTail_one (i := 10) (o := _) (by kernel_rfl) ?hou1011 ?hwu1011 (fun K hK => ?_)
        case hou1011 => (simp only [List.getElem?_toArray, List.getElem?_cons_succ, List.getElem?_cons_zero]; exact rfl)
        case hwu1011 => rfl
        go_simp
        refine hK.out _ _ (fun h => absurd rfl h) ?_
        clear hK K
        refine wpTail_done (by kernel_rfl) ?_ _
        clear S10
        try simp only [Act.put, List.setIfInBounds_toArray, List.set_cons_zero, List.set_cons_succ]
        go_wp2_with fail
        go_ret2
        exact ⟨by simp, _, _, rfl, HR9.out.x.fk, HR9.out.ft, HPU.out.1, HPU.out.2.1, HPU.out.2.2⟩
end Go.Proofs.YtnphfogepdkpbaaDoor
