/- The reference's scopes of layer 7, of lists: has, Open, Here, Find, Within; conditions: they are ones of the call's own. -/
import Derived.Test.YtllddgfmjmblmaaScD
namespace Go.Proofs.Ytllddgfmjmblmaa
open Go.RowKit Go.WideShapes Go.ChangeShapes
set_option linter.unusedVariables false
set_option maxRecDepth 100000

/-- The reference's scopes: block r holds them. -/
structure RS (w : World) (B r : Nat) (xo xi xl : Value) (outer ins : List Int) (objs : List ObjV) : Prop where
  bl : Blk w r 33 #[xo, xi, xl]
  ou : w.ownsRow B 3 1 xo (outer.length + 1) ((0 :: outer).map (Value.int .i64))
  is : w.ownsRow B 3 1 xi (ins.length + 1) ((0 :: ins).map (Value.int .i64))
  ob : w.ownsRow B 42 13 xl (objs.length + 1) ((zeroO :: objs).flatMap ObjV.cells)
  rB : B ≤ r
  ne : ∀ k, xo.ownBlock = some k → xi.ownBlock ≠ some k
def fpR (r : Nat) (xo xi xl : Value) : List Nat := r :: (xo.ownBlock.toList ++ xi.ownBlock.toList ++ xl.ownBlock.toList)
theorem mem_fpR {r k : Nat} {xo xi xl : Value} : k ∈ fpR r xo xi xl ↔ k = r ∨ xo.ownBlock = some k ∨ xi.ownBlock = some k ∨ xl.ownBlock = some k := by simp [fpR]
section
variable {w w' : World} {B r : Nat} {xo xi xl : Value} {outer ins : List Int} {objs : List ObjV} {tbl : List ((Int × ByteArray) × Nat)}
theorem RS.fp (h : RS w B r xo xi xl outer ins objs) : ∀ k ∈ fpR r xo xi xl, B ≤ k ∧ k < w.heap.size := by
  intro k hk
  rcases mem_fpR.1 hk with rfl | x | x | x
  · exact ⟨h.rB, h.bl.lt⟩
  · exact h.ou.lt _ x
  · exact h.is.lt _ x
  · exact h.ob.lt _ x
theorem RS.fr {L : List Nat} (h : RS w B r xo xi xl outer ins objs) (hf : Fr L w w') (hd : ∀ k ∈ fpR r xo xi xl, k ∉ L) : RS w' B r xo xi xl outer ins objs := by
  have e : ∀ k ∈ fpR r xo xi xl, w'.heap[k]? = w.heap[k]? := fun k hk => hf.2 k (h.fp k hk).2 (hd k hk)
  exact ⟨(e _ (mem_fpR.2 (.inl rfl))).trans h.bl, own_fr h.ou fun g hg => e _ (mem_fpR.2 (.inr (.inl hg))), own_fr h.is fun g hg => e _ (mem_fpR.2 (.inr (.inr (.inl hg)))), own_fr h.ob fun g hg => e _ (mem_fpR.2 (.inr (.inr (.inr hg)))), h.rB, h.ne⟩
theorem RS.below (h : RS w B r xo xi xl outer ins objs) (hb : Below w.heap.size w w') : RS w' B r xo xi xl outer ins objs := h.fr (L := []) (Fr.of_below hb _) (by simp)
theorem RS.alloc (h : RS w B r xo xi xl outer ins objs) (o : Obj) : RS (w.alloc o) B r xo xi xl outer ins objs := h.below ((Below.refl _ _).alloc (Nat.le_refl _) o)
theorem RS.drewN (h : RS w B r xo xi xl outer ins objs) (q : Nat) : RS (w.drewN q) B r xo xi xl outer ins objs := ⟨h.bl.drewN q, h.ou, h.is, h.ob, h.rB, h.ne⟩
theorem RS.drew (h : RS w B r xo xi xl outer ins objs) : RS w.drew B r xo xi xl outer ins objs := h.drewN 1
theorem RS.lt (h : RS w B r xo xi xl outer ins objs) : B ≤ w.heap.size := Nat.le_trans h.rB (Nat.le_of_lt h.bl.lt)
theorem RS.cells (h : RS w B r xo xi xl outer ins objs) : w.cell? ⟨r, 0, none⟩ = some xo ∧ w.cell? ⟨r, 1, none⟩ = some xi ∧ w.cell? ⟨r, 2, none⟩ = some xl := ⟨h.bl.cell 0, h.bl.cell 1, h.bl.cell 2⟩
theorem own_cell {w : World} {B e s n : Nat} {v : Value} {xs : List Value} (h : w.ownsRow B e s v n xs) (hn : 0 < n) : ∃ g cap, v = .slice (some ⟨g, 0, none⟩) n cap ∧ n ≤ cap ∧ cap ≤ maxLen ∧ ∀ j u, xs[j]? = some u → w.cell? ⟨g, j, none⟩ = some u := by
  rcases h.2 with ⟨_, h0⟩ | ⟨g, cap, cur, hv, _, hg, hcap, hcm, _, htk⟩
  · omega
  · refine ⟨g, cap, hv, hcap, hcm, fun j u hu => ?_⟩
    have h1 := h.cells (g := g) (by rw [hv]; rfl) j u hu
    rw [Addr.add_lit, Nat.zero_add] at h1
    exact h1
theorem own_gs {w w6 : World} {B e s n : Nat} {v : Value} {xs : List Value} {row : Option Nat} {p : Addr} {u : Value} (h : w.ownsRow B e s v n xs) (hg : w.grownBy w6 row) (hne : ∀ k, v.ownBlock = some k → some k ≠ row) (hp : ∀ k, v.ownBlock = some k → k ≠ p.block) : (w6.setCell p u).ownsRow B e s v n xs :=
  own_fr h fun g hgk => (Below.heap_setCell _ _ _ _ (hp g hgk)).trans (hg.block g (h.lt g hgk).2 (hne g hgk))

set_option maxHeartbeats 1000000 in
theorem ref_has (h : RS w B r xo xi xl outer ins objs) (a : Int) :
    Calls Try.prog 54 #[.pointer (some ⟨r, 0, none⟩), .int .i64 a] w fun e w' => e = .returned (.bool (hasB outer.length a)) ∧ w = w' := by
  obtain ⟨c0, c1, c2⟩ := h.cells
  obtain ⟨A, c, rfl⟩ := own_form7 h.ou
  clear h
  obtain ⟨d, hd⟩ : ∃ d, d = hasB outer.length a := ⟨_, rfl⟩
  rw [← hd]
  have HRB := hide hd
  clear hd
  go_enter Try.func54, Try.ntmps54
  go_wp2_with fail
  all_goals go_ret
  all_goals exact ⟨ret_b7 (by rw [HRB.out]; unfold hasB; first | (apply decide_eq_decide.2; omega) | (symm; apply decide_eq_false; omega)), rfl⟩

theorem rs_pushO {w6 : World} {v6 : Value} {a : Int} (h : RS w B r xo xi xl outer ins objs) (hg6 : w.grownBy w6 xo.ownBlock) (hown6 : w6.ownsRow B 3 1 v6 (outer.length + 1 + 1) ((0 :: outer).map (Value.int .i64) ++ [.int .i64 a]))
    (hat : v6.ownBlock = xo.ownBlock ∨ v6.ownBlock = some w.heap.size) : RS (w6.setCell ⟨r, 0, none⟩ v6) B r v6 xi xl (outer ++ [a]) ins objs := by
  have hbl6 : Blk w6 r 33 #[xo, xi, xl] := h.bl.grown hg6 (fun e => own_blk_ne h.ou h.bl (by decide) e.symm)
  refine ⟨by have h := hbl6.set_ 0 v6; simpa using h, ?_, ?_, ?_, h.rB, ?_⟩
  · have h7 := ownsRow_setCell_other (a := ⟨r, 0, none⟩) hown6 (own_blk_ne hown6 hbl6 (by decide)) v6
    simpa using h7
  · exact own_gs h.is hg6 (fun k hk e => h.ne k e.symm hk) (fun k hk e => own_blk_ne h.is h.bl (by decide) (by rw [hk, e]))
  · exact own_gs h.ob hg6 (fun k hk e => by rcases own_ne_own7 h.ob h.ou (by decide) with x | x; rw [x] at hk; cases hk; exact x (hk.trans e)) (fun k hk e => own_blk_ne h.ob h.bl (by decide) (by rw [hk, e]))
  · intro k hk
    rcases hat with x | x
    · exact h.ne k (x.symm.trans hk)
    · rw [x] at hk
      injection hk with hk
      intro y
      have := (h.is.lt k y).2
      omega
theorem rs_pushI {w6 : World} {v6 : Value} {a : Int} (h : RS w B r xo xi xl outer ins objs) (hg6 : w.grownBy w6 xi.ownBlock) (hown6 : w6.ownsRow B 3 1 v6 (ins.length + 1 + 1) ((0 :: ins).map (Value.int .i64) ++ [.int .i64 a]))
    (hat : v6.ownBlock = xi.ownBlock ∨ v6.ownBlock = some w.heap.size) : RS (w6.setCell ⟨r, 1, none⟩ v6) B r xo v6 xl outer (ins ++ [a]) objs := by
  have hbl6 : Blk w6 r 33 #[xo, xi, xl] := h.bl.grown hg6 (fun e => own_blk_ne h.is h.bl (by decide) e.symm)
  refine ⟨by have h := hbl6.set_ 1 v6; simpa using h, ?_, ?_, ?_, h.rB, ?_⟩
  · exact own_gs h.ou hg6 (fun k hk e => h.ne k hk e.symm) (fun k hk e => own_blk_ne h.ou h.bl (by decide) (by rw [hk, e]))
  · have h7 := ownsRow_setCell_other (a := ⟨r, 1, none⟩) hown6 (own_blk_ne hown6 hbl6 (by decide)) v6
    simpa using h7
  · exact own_gs h.ob hg6 (fun k hk e => by rcases own_ne_own7 h.ob h.is (by decide) with x | x; rw [x] at hk; cases hk; exact x (hk.trans e)) (fun k hk e => own_blk_ne h.ob h.bl (by decide) (by rw [hk, e]))
  · intro k hk y
    rcases hat with x | x
    · exact h.ne k hk (x.symm.trans y)
    · rw [x] at y
      injection y with y
      have := (h.ou.lt k hk).2
      omega
theorem rs_pushL {w6 : World} {v6 : Value} {o : ObjV} (h : RS w B r xo xi xl outer ins objs) (hg6 : w.grownBy w6 xl.ownBlock) (hown6 : w6.ownsRow B 42 13 v6 (objs.length + 1 + 1) ((zeroO :: objs).flatMap ObjV.cells ++ o.cells)) :
    RS (w6.setCell ⟨r, 2, none⟩ v6) B r xo xi v6 outer ins (objs ++ [o]) := by
  have hbl6 : Blk w6 r 33 #[xo, xi, xl] := h.bl.grown hg6 (fun e => own_blk_ne h.ob h.bl (by decide) e.symm)
  refine ⟨by have h := hbl6.set_ 2 v6; simpa using h, ?_, ?_, ?_, h.rB, h.ne⟩
  · exact own_gs h.ou hg6 (fun k hk e => by rcases own_ne_own7 h.ou h.ob (by decide) with x | x; rw [x] at hk; cases hk; exact x (hk.trans e)) (fun k hk e => own_blk_ne h.ou h.bl (by decide) (by rw [hk, e]))
  · exact own_gs h.is hg6 (fun k hk e => by rcases own_ne_own7 h.is h.ob (by decide) with x | x; rw [x] at hk; cases hk; exact x (hk.trans e)) (fun k hk e => own_blk_ne h.is h.bl (by decide) (by rw [hk, e]))
  · have h7 := ownsRow_setCell_other (a := ⟨r, 2, none⟩) hown6 (own_blk_ne hown6 hbl6 (by decide)) v6
    simpa [List.flatMap_append] using h7
theorem nw_R {n : Nat} {v : Value} {L L' : List Nat} (h : ∀ k ∈ L', k ∈ L ∨ v.ownBlock = some k) {v0 : Value} (hat : v.ownBlock = v0.ownBlock ∨ v.ownBlock = some n) (h0 : ∀ k, v0.ownBlock = some k → k ∈ L) (hn : w.heap.size ≤ n) : Nw w L L' := fun k hk => by
  rcases h k hk with x | x
  · exact .inl x
  · rcases hat with y | y
    · exact .inl (h0 k (y.symm.trans x))
    · rw [y] at x; injection x with x; exact .inr (by omega)

theorem ref_open_no (h : RS w B r xo xi xl outer ins objs) (a : Int) (ha : hasB outer.length a = false) :
    Calls Try.prog 49 #[.pointer (some ⟨r, 0, none⟩), .int .i64 a] w fun e w' => e = .returned (.tuple #[.int .i64 0, .int .i64 1]) ∧ w = w' := by
  have HS := hide (ref_has h a)
  rw [ha] at HS
  clear h ha
  go_enter Try.func49, Try.ntmps49
  go_wp2_with fail
  refine HS.out.mono ?_
  rintro e w' ⟨rfl, rfl⟩
  go_wp2_with fail
  go_ret2
  exact ⟨rfl, rfl⟩

set_option maxHeartbeats 1000000 in
theorem ref_open_ok (h : RS w B r xo xi xl outer ins objs) (a : Int) (ha : hasB outer.length a = true) (hn : outer.length ≤ 1000) :
    Calls Try.prog 49 #[.pointer (some ⟨r, 0, none⟩), .int .i64 a] w fun e w' => e = .returned (.tuple #[.int .i64 (outer.length + 1), .int .i64 0]) ∧
      ∃ v', RS w' B r v' xi xl (outer ++ [a]) ins objs ∧ Below B w w' ∧ Fr (fpR r xo xi xl) w w' ∧ Nw w (fpR r xo xi xl) (fpR r v' xi xl) := by
  obtain ⟨c0, c1, c2⟩ := h.cells
  obtain ⟨A0, k0, rfl⟩ := own_form7 h.ou
  have HSC := hide (ref_has h a)
  rw [ha] at HSC
  have HH := hide h
  obtain ⟨i0, hi0, hz0, hz1, hz2⟩ := info_parts intInfo7
  have hlt := h.bl.lt
  have c0a : (w.alloc (.cells #[.int .i64 a] 3)).cell? ⟨r, 0, none⟩ = some (.slice A0 (outer.length + 1) k0) := (World.cell?_alloc_lt w _ ⟨r, 0, none⟩ hlt).trans c0
  have HN := hide hn
  have hbn : (outer.length : Int) ≤ 1000 := by omega
  have hbn0 : (0 : Int) ≤ (outer.length : Int) := by omega
  clear h ha hn
  go_enter Try.func49, Try.ntmps49
  go_wp2_with fail
  refine HSC.out.mono ?_
  rintro e w' ⟨rfl, rfl⟩
  go_wp2_with (first
    | (at_builtin
       refine wpList_append_any _ rfl (.tmp 14) (.tmp 16) _ rfl B 3 i0 _ 1 8 Try.underlying30 hi0 hz0 hz1 hz2 rfl (by omega) (.slice A0 (outer.length + 1) k0) (outer.length + 1) ((0 :: outer).map (Value.int .i64)) rfl
         (HH.out.alloc _).ou (w.heap.size + 1) (some ⟨w.heap.size, 0, none⟩) 1 1 [.int .i64 a] rfl (by have h := reads_new7 w #[.int .i64 a] 3 1 1 rfl; simpa using h) (by intro u hu; simp at hu; subst hu; rfl) (by have := HN.out; simp only [maxLen]; omega) (by have := HN.out; omega) (by have := HH.out.lt; simp; omega) ?_
       intro v1 w1 hown1 hg1 hat1
       obtain ⟨A1, k1, rfl⟩ := own_form7 hown1
       have hbl1 := (HH.out.alloc (.cells #[.int .i64 a] 3)).bl.grown hg1 (fun e => own_blk_ne (HH.out.alloc (.cells #[.int .i64 a] 3)).ou (HH.out.alloc (.cells #[.int .i64 a] 3)).bl (by decide) e.symm)
       have d0 : w1.cell? ⟨r, 0, none⟩ = some (.slice A0 (outer.length + 1) k0) := hbl1.cell 0
       have f0 := hbl1.frozen 0))
  go_ret2
  have e1 := rs_pushO (HH.out.alloc (.cells #[.int .i64 a] 3)) hg1 hown1 hat1
  exact ⟨by simp, _, e1, (((Below.refl B w).alloc HH.out.lt _).grown hg1 (by have := HH.out.lt; simp; omega) (fun k hk => (HH.out.ou.lt k hk).1)).setCell (p := ⟨r, 0, none⟩) HH.out.rB _, (((Fr.refl _ _).alloc _).grown hg1 (fun g hg => .inl (mem_fpR.2 (.inr (.inl hg))))).setCell (.inl (mem_fpR.2 (.inl rfl))) _,
    nw_R (v0 := .slice A0 (outer.length + 1) k0) (fun k hk => by rcases mem_fpR.1 hk with x | x | x | x; exact .inl (mem_fpR.2 (.inl x)); exact .inr x; exact .inl (mem_fpR.2 (.inr (.inr (.inl x)))); exact .inl (mem_fpR.2 (.inr (.inr (.inr x))))) hat1 (fun k hk => mem_fpR.2 (.inr (.inl hk))) (by simp)⟩

theorem und_ne {name : ByteArray} (h : name ≠ und) : (name.toList == [95]) = false ∧ (name.toList != [95]) = true := by
  have e : (name.toList == [95]) = false := by rw [← under_list]; exact str_ne h
  exact ⟨e, by unfold bne; rw [e]; rfl⟩
theorem und_eq : (und.toList == [95]) = true ∧ (und.toList != [95]) = false := by
  have e : (und.toList == [95]) = true := by unfold und; rw [under_list]; rfl
  exact ⟨e, by unfold bne; rw [e]; rfl⟩
theorem here_found (hl : Link ins objs tbl) {a : Int} {name : ByteArray} {k : Nat} (hk : 1 ≤ k) (hu : name ≠ und) (hh : hit ins objs a name (k - 1)) (hm : ∀ j, j < k - 1 → name = und ∨ ¬ hit ins objs a name j) : look tbl (a, name) = some k := by
  cases hq : look tbl (a, name) with
  | none =>
    rcases hl.none_ _ _ hq with x | x
    · exact absurd x hu
    · exact absurd hh (x _)
  | some i =>
    obtain ⟨h1, h2, h3, h4, h5⟩ := hl.some_ _ _ _ hq
    rcases Nat.lt_trichotomy i k with x | x | x
    · rcases hm (i - 1) (by omega) with y | y
      · exact absurd y hu
      · exact absurd h4 y
    · rw [x]
    · exact absurd hh (h5 _ (by omega))
theorem here_none (hl : Link ins objs tbl) {a : Int} {name : ByteArray} (hm : ∀ j, j < objs.length → name = und ∨ ¬ hit ins objs a name j) : look tbl (a, name) = none := by
  cases hq : look tbl (a, name) with
  | none => rfl
  | some i =>
    obtain ⟨h1, h2, h3, h4, h5⟩ := hl.some_ _ _ _ hq
    rcases hm (i - 1) (by omega) with y | y
    · exact absurd y h3
    · exact absurd h4 y

def Miss (ins : List Int) (objs : List ObjV) (a : Int) (name : ByteArray) (n : Nat) : Prop := ∀ j, j < n → name = und ∨ ¬ hit ins objs a name j
set_option maxHeartbeats 1000000 in
theorem ref_here (h : RS w B r xo xi xl outer ins objs) (hl : Link ins objs tbl) (hn : objs.length ≤ 70000) (a : Int) (name : ByteArray) :
    Calls Try.prog 19 #[.pointer (some ⟨r, 0, none⟩), .int .i64 a, .string name] w fun e w' => e = .returned (.int .i64 (lkI (look tbl (a, name)))) ∧ w = w' := by
  obtain ⟨c0, c1, c2⟩ := h.cells
  obtain ⟨gi, ci, rfl, hi1, hi2, hic⟩ := own_cell h.is (by omega)
  obtain ⟨gl, cl, rfl, hl1, hl2, hlc⟩ := own_cell h.ob (by omega)
  have HI := hide hic
  have HL := hide hlc
  have HK := hide hl
  have HB := hide (And.intro hi1 (And.intro hi2 (And.intro hl1 hl2)))
  have HLen := hide hl.len
  clear h hl hic hlc hi1 hi2 hl1 hl2
  go_enter Try.func19, Try.ntmps19
  go_wp2_with fail
  go_loop [7] (fun i => ∃ k : Nat, 1 ≤ k ∧ k ≤ objs.length + 1 ∧ i = .int .i64 k ∧ Miss ins objs a name (k - 1)) (fun i => objs.length + 1 - (intOf i).toNat)
  case atStart => exact ⟨1, by omega, by omega, rfl, fun j hj => by omega⟩
  case round =>
    obtain ⟨k, hk1, hk2, rfl, hm⟩ := hrel
    by_cases hlt : k < objs.length + 1
    · have hlen := HLen.out
      obtain ⟨x, hx⟩ : ∃ x, ins[k - 1]? = some x := ⟨_, List.getElem?_eq_getElem (by omega)⟩
      obtain ⟨p, hp⟩ : ∃ p, objs[k - 1]? = some p := ⟨_, List.getElem?_eq_getElem (by omega)⟩
      have d0 : w.cell? ⟨gi, k, none⟩ = some (.int .i64 x) := HI.out k _ (by
        rw [List.getElem?_map, show k = (k - 1) + 1 by omega, List.getElem?_cons_succ, hx]; rfl)
      have d1 : w.cell? ⟨gl, k * 13 + 1, none⟩ = some (.string p.name) := HL.out _ _ (objects_at (zeroO :: objs) k p (by rw [show k = (k - 1) + 1 by omega, List.getElem?_cons_succ, hp]) 1 _ rfl)
      have hit_iff : hit ins objs a name (k - 1) ↔ x = a ∧ p.name = name := by unfold hit; rw [hx, hp]; simp
      have HHit := hide hit_iff
      have HM := hide hm
      have hb5 : (k : Int) < (ins.length : Int) + 1 := by omega
      have hb6 : (k : Int) < (objs.length : Int) + 1 := by omega
      have go : ∀ (hno : name = und ∨ ¬ hit ins objs a name (k - 1)), ∀ j, j < k + 1 - 1 → name = und ∨ ¬ hit ins objs a name j := fun hno j hj => by
        rcases Nat.lt_or_ge j (k - 1) with y | y
        · exact HM.out j y
        · obtain rfl : j = k - 1 := by omega
          exact hno
      have HGO : Hid (∀ (hno : name = und ∨ ¬ hit ins objs a name (k - 1)), Miss ins objs a name (k + 1 - 1)) := go
      clear hx hp hit_iff hm go hlen
      by_cases e1 : x = a
      · subst e1
        by_cases e2 : p.name = name
        · have s1 : (p.name.toList == name.toList) = true := by rw [e2]; simp
          by_cases e3 : name = und
          · have HG := hide (HGO.out (.inl e3))
            subst e3
            obtain ⟨u1, u2⟩ := und_eq
            clear e2
            go_wp2_with fail
            go_round
            case rel => exact ⟨k + 1, by omega, by omega, by go_num, HG.out⟩
            case measure => simp [intOf]; omega
          · have hf := here_found HK.out hk1 e3 (HHit.out.2 ⟨rfl, e2⟩) HM.out
            have HF := hide hf
            obtain ⟨u1, u2⟩ := und_ne e3
            clear hf e2 e3
            go_wp2_with fail
            go_ret
            exact ⟨by rw [HF.out]; rfl, rfl⟩
        · have s1 : (p.name.toList == name.toList) = false := str_ne e2
          have HG := hide (HGO.out (.inr fun y => e2 (HHit.out.1 y).2))
          clear e2
          go_wp2_with fail
          go_round
          case rel => exact ⟨k + 1, by omega, by omega, by go_num, HG.out⟩
          case measure => simp [intOf]; omega
      · have s1 : decide (x = a) = false := decide_eq_false e1
        have s2 : (x == a) = false := s1
        have HG := hide (HGO.out (.inr fun y => e1 (HHit.out.1 y).1))
        clear e1
        go_wp2_with fail
        go_round
        case rel => exact ⟨k + 1, by omega, by omega, by go_num, HG.out⟩
        case measure => simp [intOf]; omega
    · obtain rfl : k = objs.length + 1 := by omega
      have HF := hide (here_none HK.out (fun j hj => hm j (by omega)))
      clear hm
      go_wp2_with fail
      go_ret
      exact ⟨by rw [HF.out]; rfl, rfl⟩

theorem outer_cons {outer : List Int} {a : Int} (ho : OuterOk outer) (ha : hasB outer.length a = true) : ((0 :: outer).map (Value.int .i64))[a.toNat]? = some (.int .i64 (outer.getD (a - 1).toNat 0)) := by
  obtain ⟨h1, _, _⟩ := outer_at ho ha
  rw [hasB_iff] at ha
  rw [List.getElem?_map, show a.toNat = (a - 1).toNat + 1 by omega, List.getElem?_cons_succ, h1]
  rfl
theorem find_zero {outer : List Int} (ho : OuterOk outer) (tbl : List ((Int × ByteArray) × Nat)) (name : ByteArray) {a : Int} (ha : hasB outer.length a = false) : find outer tbl name a = none := by rw [find_eq ho, if_neg (by rw [ha]; simp)]

set_option maxHeartbeats 1000000 in
theorem ref_find (h : RS w B r xo xi xl outer ins objs) (hl : Link ins objs tbl) (ho : OuterOk outer) (hn : objs.length ≤ 70000) (hno : outer.length ≤ 70000) (at' : Int) (name : ByteArray) :
    Calls Try.prog 17 #[.pointer (some ⟨r, 0, none⟩), .int .i64 at', .string name] w fun e w' => e = .returned (.tuple #[.int .i64 (fnI (find outer tbl name at')), .int .i64 (fnA (find outer tbl name at'))]) ∧ w = w' := by
  obtain ⟨c0, c1, c2⟩ := h.cells
  obtain ⟨go, co, rfl, ho1, ho2, hoc⟩ := own_cell h.ou (by omega)
  have HO := hide ho
  have HC := hide hoc
  have HS := hide (ref_has h at')
  have HK := hide hl
  have HHE := hide (fun a => ref_here h hl hn a name)
  cases ha : hasB outer.length at' with
  | false =>
    rw [ha] at HS
    have HF := hide (find_zero ho tbl name ha)
    clear h hl ho hoc ho1 ho2 ha
    go_enter Try.func17, Try.ntmps17
    go_wp2_with fail
    refine HS.out.mono ?_
    rintro e w' ⟨rfl, rfl⟩
    go_wp2_with fail
    go_ret2
    exact ⟨by rw [HF.out]; rfl, rfl⟩
  | true =>
    rw [ha] at HS
    rw [hasB_iff] at ha
    have HA := hide ha
    clear h hl ho hoc ho1 ho2 ha
    go_enter Try.func17, Try.ntmps17
    go_wp2_with fail
    refine HS.out.mono ?_
    rintro e w' ⟨rfl, rfl⟩
    go_wp2_with fail
    go_loop [1] (fun i => ∃ a : Int, i = .int .i64 a ∧ 0 ≤ a ∧ a ≤ outer.length ∧ find outer tbl name a = find outer tbl name at') (fun i => (intOf i).toNat)
    case atStart => exact ⟨at', rfl, by have := HA.out; omega, by have := HA.out; omega, rfl⟩
    case round =>
      obtain ⟨a, rfl, h0, h1, hf⟩ := hrel
      by_cases hz : a = 0
      · subst hz
        have HF := hide (hf.symm.trans (find_zero HO.out tbl name (a := 0) (by simp [hasB])))
        clear hf
        go_wp2_with fail
        go_ret2
        exact ⟨by rw [HF.out]; rfl, rfl⟩
      · have ha : hasB outer.length a = true := by rw [hasB_iff]; omega
        have s1 : decide (a = 0) = false := decide_eq_false hz
        have s2 : (a == 0) = false := s1
        have s3 : (a != 0) = true := by unfold bne; rw [s2]; rfl
        have hfe := find_eq HO.out tbl name a
        rw [if_pos ha] at hfe
        have HE := hide (HHE.out a)
        cases hq : look tbl (a, name) with
        | some i =>
          rw [hq] at HE hfe
          have hi1 := (HK.out.some_ _ _ _ hq).1
          have HF := hide (hf.symm.trans hfe)
          have t1 : decide ((i : Int) = 0) = false := decide_eq_false (by omega)
          have t2 : ((i : Int) == 0) = false := t1
          have t3 : ((i : Int) != 0) = true := by unfold bne; rw [t2]; rfl
          simp only [lkI, Option.getD_some] at HE
          clear hf hfe ha hq hz
          go_wp2_with fail
          refine HE.out.mono ?_
          rintro e w' ⟨rfl, rfl⟩
          go_wp2_with fail
          go_ret2
          exact ⟨by rw [HF.out]; rfl, rfl⟩
        | none =>
          rw [hq] at HE hfe
          have HF := hide (hfe.symm.trans hf)
          simp only [lkI, Option.getD_none] at HE
          have hcl := HC.out _ _ (outer_cons HO.out ha)
          have hoa := outer_at HO.out ha
          obtain ⟨v, hv⟩ : ∃ v, v = outer.getD (a - 1).toNat 0 := ⟨_, rfl⟩
          rw [← hv] at hoa HF hcl
          have hv0 := hoa.2.1
          have hv1 := hoa.2.2
          have hb5 : a < (outer.length : Int) + 1 := by omega
          clear hf hfe ha hq hz hoa hv
          go_wp2_with fail
          refine HE.out.mono ?_
          rintro e w' ⟨rfl, rfl⟩
          go_wp2_with fail
          go_round
          case rel => exact ⟨v, rfl, hv0, by omega, HF.out⟩
          case measure => simp [intOf]; omega

set_option maxHeartbeats 1000000 in
theorem ref_within (h : RS w B r xo xi xl outer ins objs) (ho : OuterOk outer) (hno : outer.length ≤ 70000) (at' t : Int) :
    Calls Try.prog 15 #[.pointer (some ⟨r, 0, none⟩), .int .i64 at', .int .i64 t] w fun e w' => e = .returned (.bool (wth outer t at')) ∧ w = w' := by
  obtain ⟨c0, c1, c2⟩ := h.cells
  obtain ⟨go, co, rfl, ho1, ho2, hoc⟩ := own_cell h.ou (by omega)
  have HO := hide ho
  have HC := hide hoc
  have HS := hide (ref_has h at')
  have HT := hide (ref_has h t)
  cases ha : hasB outer.length at' with
  | false =>
    rw [ha] at HS
    have HF := hide (wth_no ho (t := t) ha)
    clear h ho hoc ho1 ho2 ha
    go_enter Try.func15, Try.ntmps15
    go_wp2_with fail
    refine HS.out.mono ?_
    rintro e w' ⟨rfl, rfl⟩
    go_wp2_with fail
    go_ret
    exact ⟨by rw [HF.out]; rfl, rfl⟩
  | true =>
    cases ht : hasB outer.length t with
    | false =>
      rw [ha] at HS
      rw [ht] at HT
      have HF := hide (show wth outer t at' = false by
        cases hq : wth outer t at' with
        | false => rfl
        | true => rw [wth_has ho _ _ (Nat.le_refl _) hq] at ht; cases ht)
      clear h ho hoc ho1 ho2 ha ht
      go_enter Try.func15, Try.ntmps15
      go_wp2_with fail
      refine HS.out.mono ?_
      rintro e w' ⟨rfl, rfl⟩
      go_wp2_with fail
      refine HT.out.mono ?_
      rintro e w' ⟨rfl, rfl⟩
      go_wp2_with fail
      go_ret
      exact ⟨by rw [HF.out]; rfl, rfl⟩
    | true =>
      rw [ha] at HS
      rw [ht] at HT
      rw [hasB_iff] at ha ht
      have HA := hide ha
      clear h ho hoc ho1 ho2 ha
      go_enter Try.func15, Try.ntmps15
      go_wp2_with fail
      refine HS.out.mono ?_
      rintro e w' ⟨rfl, rfl⟩
      go_wp2_with fail
      refine HT.out.mono ?_
      rintro e w' ⟨rfl, rfl⟩
      go_wp2_with fail
      go_loop [1] (fun i => ∃ a : Int, i = .int .i64 a ∧ 0 ≤ a ∧ a ≤ outer.length ∧ wth outer t a = wth outer t at') (fun i => (intOf i).toNat)
      case atStart => exact ⟨at', rfl, by have := HA.out; omega, by have := HA.out; omega, rfl⟩
      case round =>
        obtain ⟨a, rfl, h0, h1, hf⟩ := hrel
        by_cases hz : a = 0
        · subst hz
          have HF := hide (hf.symm.trans (wth_no HO.out (t := t) (a := 0) (by simp [hasB])))
          have t1 : decide ((0 : Int) = t) = false := decide_eq_false (by omega)
          have t2 : ((0 : Int) == t) = false := t1
          clear hf
          go_wp2_with fail
          go_ret
          exact ⟨by rw [HF.out]; rfl, rfl⟩
        · have ha : hasB outer.length a = true := by rw [hasB_iff]; omega
          have s1 : decide (a = 0) = false := decide_eq_false hz
          have s2 : (a == 0) = false := s1
          have s3 : (a != 0) = true := by unfold bne; rw [s2]; rfl
          have hfe := wth_eq HO.out t a
          rw [if_pos ha] at hfe
          by_cases e : a = t
          · subst e
            rw [if_pos rfl] at hfe
            have HF := hide (hf.symm.trans hfe)
            clear hf hfe ha hz
            go_wp2_with fail
            go_ret
            exact ⟨by rw [HF.out]; rfl, rfl⟩
          · rw [if_neg e] at hfe
            have HF := hide (hfe.symm.trans hf)
            have t1 : decide (a = t) = false := decide_eq_false e
            have t2 : (a == t) = false := t1
            have t3 : (a != t) = true := by unfold bne; rw [t2]; rfl
            have hcl := HC.out _ _ (outer_cons HO.out ha)
            have hoa := outer_at HO.out ha
            obtain ⟨v, hv⟩ : ∃ v, v = outer.getD (a - 1).toNat 0 := ⟨_, rfl⟩
            rw [← hv] at hoa HF hcl
            have hv0 := hoa.2.1
            have hv1 := hoa.2.2
            have hb5 : a < (outer.length : Int) + 1 := by omega
            clear hf hfe ha hz hoa hv e
            go_wp2_with fail
            go_round
            case rel => exact ⟨v, rfl, hv0, by omega, HF.out⟩
            case measure => simp [intOf]; omega
end
end Go.Proofs.Ytllddgfmjmblmaa
