/- Rows of blocks: stored cells; whither blocks go and whence one comes to them, as mathematics; no conditions. -/
import Derived.Test.YtaaadbaakhjkcaaFlI
namespace Go.Proofs.Ytaaadbaakhjkcaa
open Go.RowKit Go.WideShapes Go.ChangeShapes
set_option linter.unusedVariables false
set_option linter.unusedSimpArgs false
set_option maxRecDepth 100000

theorem own_set {w : World} {B e sz n g c q : Nat} {xs : List Value} (h : w.ownsRow B e sz (.slice (some ⟨g, 0, none⟩) n c) n xs) (u : Value) : (w.setCell ⟨g, q, none⟩ u).ownsRow B e sz (.slice (some ⟨g, 0, none⟩) n c) n (xs.set q u) := by
  refine ⟨by rw [List.length_set]; exact h.1, ?_⟩
  rcases h.2 with ⟨hv, _⟩ | ⟨g', cap, cur, hv, hB, hg, hn, hm, hs, ht⟩
  · cases hv
  · injection hv with h1 h2 h3
    injection h1 with h1
    injection h1 with h1
    subst h1 h3
    have hb : Blk w g e cur := hg
    refine .inr ⟨g, c, cur.setIfInBounds q u, rfl, hB, hb.set_ q u, hn, hm, by rw [Array.size_setIfInBounds]; exact hs, ?_⟩
    rw [Array.toList_setIfInBounds, List.take_set, ht]
theorem flat_setR {α : Type} {k : Nat} {enc : α → List Value} (hk : ∀ x, (enc x).length = k) : ∀ (L : List α) (i j : Nat) (x x' : α) (u : Value), L[i]? = some x → j < k → enc x' = (enc x).set j u → (L.flatMap enc).set (i * k + j) u = (L.set i x').flatMap enc
  | [], i, j, x, x', u, h, _, _ => by simp at h
  | a :: L, 0, j, x, x', u, h, hj, he => by
    simp at h
    subst h
    rw [List.flatMap_cons, List.set_cons_zero, List.flatMap_cons, he, Nat.zero_mul, Nat.zero_add, List.set_append_left _ _ (by rw [hk]; exact hj)]
  | a :: L, i + 1, j, x, x', u, h, hj, he => by
    rw [List.getElem?_cons_succ] at h
    rw [List.flatMap_cons, List.set_cons_succ, List.flatMap_cons, List.set_append_right _ _ (by rw [hk, Nat.succ_mul]; omega), hk, show (i + 1) * k + j - k = i * k + j by rw [Nat.succ_mul]; omega, flat_setR hk L i j x x' u h hj he]
/-- Blocks in memory, with the rows of those with which they go on and of those that go on with them. -/
def blV (l : List (Nat × Nat)) (R : Nat → Value) : List BV := l.mapIdx (fun i x => ⟨(x.1 : Int), (x.2 : Int), R (2 * i), R (2 * i + 1)⟩)
theorem blV_len (l : List (Nat × Nat)) (R : Nat → Value) : (blV l R).length = l.length := by unfold blV; simp
theorem blV_at {l : List (Nat × Nat)} {i : Nat} {x : Nat × Nat} (R : Nat → Value) (h : l[i]? = some x) : (blV l R)[i]? = some ⟨(x.1 : Int), (x.2 : Int), R (2 * i), R (2 * i + 1)⟩ := by
  unfold blV
  rw [List.getElem?_mapIdx, h]
  rfl
theorem blV_none {l : List (Nat × Nat)} {i : Nat} (R : Nat → Value) (h : l.length ≤ i) : (blV l R)[i]? = none := by
  rw [List.getElem?_eq_none]
  rw [blV_len]
  exact h
theorem blV_snoc (l : List (Nat × Nat)) (x : Nat × Nat) (R : Nat → Value) : blV (l ++ [x]) R = blV l R ++ [⟨(x.1 : Int), (x.2 : Int), R (2 * l.length), R (2 * l.length + 1)⟩] := by
  unfold blV
  rw [List.mapIdx_concat]
/-- The end of the last block is stored. -/
theorem blV_to (p : List (Nat × Nat)) (x : Nat × Nat) (t : Nat) (R : Nat → Value) : ((blV (p ++ [x]) R).flatMap BV.enc).set (p.length * 4 + 1) (iI (t : Int)) = (blV (p ++ [(x.1, t)]) R).flatMap BV.enc := by
  rw [flat_setR (k := 4) (enc := BV.enc) BV.enc_length _ p.length 1 ⟨(x.1 : Int), (x.2 : Int), R (2 * p.length), R (2 * p.length + 1)⟩ ⟨(x.1 : Int), (t : Int), R (2 * p.length), R (2 * p.length + 1)⟩ _ (blV_at R (snoc_last p x)) (by decide) rfl]
  rw [blV_snoc, blV_snoc]
  congr 1
  rw [List.set_append_right _ _ (by rw [blV_len]; exact Nat.le_refl _), blV_len, Nat.sub_self]
  rfl
theorem blV_set (l : List (Nat × Nat)) (R : Nat → Value) (i : Nat) (x : Nat × Nat) (hx : l[i]? = some x) (j : Nat) (v : Value) (y : BV) (hy : ∀ (z : BV), z = ⟨(x.1 : Int), (x.2 : Int), upd R j v (2 * i), upd R j v (2 * i + 1)⟩ → z = y) (hj : j = 2 * i ∨ j = 2 * i + 1) : (blV l R).set i y = blV l (upd R j v) := by
  apply List.ext_getElem?
  intro q
  rcases Nat.lt_or_ge q l.length with hq | hq
  · have hl : l[q]? = some l[q] := List.getElem?_eq_getElem hq
    rw [blV_at _ hl]
    by_cases e : i = q
    · subst e
      rw [hx] at hl
      rw [List.getElem?_set_self (by rw [blV_len]; exact hq), ← hy _ rfl]
      injection hl with hl
      rw [hl]
    · rw [List.getElem?_set_ne e, blV_at _ hl, upd_ne _ _ (by omega), upd_ne _ _ (by omega)]
  · rw [blV_none _ hq, List.getElem?_eq_none (by rw [List.length_set, blV_len]; exact hq)]
/-- The row of those with which a block goes on is stored. -/
theorem blV_nx {l : List (Nat × Nat)} {i : Nat} (hi : i < l.length) (R : Nat → Value) (v : Value) : ((blV l R).flatMap BV.enc).set (i * 4 + 2) v = (blV l (upd R (2 * i) v)).flatMap BV.enc := by
  have hl : l[i]? = some l[i] := List.getElem?_eq_getElem hi
  rw [flat_setR (k := 4) (enc := BV.enc) BV.enc_length _ i 2 _ ⟨(l[i].1 : Int), (l[i].2 : Int), v, R (2 * i + 1)⟩ _ (blV_at R hl) (by decide) rfl]
  rw [blV_set l R i _ hl (2 * i) v _ (fun z hz => by rw [hz, upd_at, upd_ne _ _ (by omega)]) (.inl rfl)]
/-- The row of those that go on with a block is stored. -/
theorem blV_pv {l : List (Nat × Nat)} {i : Nat} (hi : i < l.length) (R : Nat → Value) (v : Value) : ((blV l R).flatMap BV.enc).set (i * 4 + 3) v = (blV l (upd R (2 * i + 1) v)).flatMap BV.enc := by
  have hl : l[i]? = some l[i] := List.getElem?_eq_getElem hi
  rw [flat_setR (k := 4) (enc := BV.enc) BV.enc_length _ i 3 _ ⟨(l[i].1 : Int), (l[i].2 : Int), R (2 * i), v⟩ _ (blV_at R hl) (by decide) rfl]
  rw [blV_set l R i _ hl (2 * i + 1) v _ (fun z hz => by rw [hz, upd_at, upd_ne _ _ (by omega)]) (.inr rfl)]
/-- A block goes on with another one. -/
def putE (k to_ : Nat) (f : Nat → List Int) : Nat → List Int := upd (upd f (2 * k) (f (2 * k) ++ [(to_ : Int)])) (2 * to_ + 1) (f (2 * to_ + 1) ++ [(k : Int)])
def putL (k : Nat) : List Nat → (Nat → List Int) → (Nat → List Int)
  | [], f => f
  | y :: L, f => putL k L (putE k y f)
def rowsU (nx : Nat → List Nat) : Nat → (Nat → List Int)
  | 0 => fun _ => []
  | k + 1 => putL k (nx k) (rowsU nx k)
theorem putL_snoc (k : Nat) : ∀ (L : List Nat) (y : Nat) (f : Nat → List Int), putL k (L ++ [y]) f = putE k y (putL k L f)
  | [], y, f => rfl
  | x :: L, y, f => putL_snoc k L y (putE k x f)
theorem putE_even (k y i : Nat) (f : Nat → List Int) : putE k y f (2 * i) = if i = k then f (2 * k) ++ [(y : Int)] else f (2 * i) := by
  unfold putE
  rw [upd_ne _ _ (by omega)]
  by_cases e : i = k
  · subst e
    rw [upd_at, if_pos rfl]
  · rw [upd_ne _ _ (by omega), if_neg e]
theorem putE_odd (k y i : Nat) (f : Nat → List Int) : putE k y f (2 * i + 1) = if i = y then f (2 * i + 1) ++ [(k : Int)] else f (2 * i + 1) := by
  unfold putE
  by_cases e : i = y
  · subst e
    rw [upd_at, if_pos rfl]
  · rw [upd_ne _ _ (by omega), upd_ne _ _ (by omega), if_neg e]
theorem putL_even (k i : Nat) : ∀ (L : List Nat) (f : Nat → List Int), putL k L f (2 * i) = if i = k then f (2 * k) ++ L.map (fun q : Nat => (q : Int)) else f (2 * i)
  | [], f => by
    unfold putL
    split
    · rename_i e; rw [e]; simp
    · rfl
  | y :: L, f => by
    unfold putL
    rw [putL_even k i L, putE_even, putE_even]
    by_cases e : i = k
    · rw [if_pos e, if_pos e, if_pos rfl]
      simp
    · rw [if_neg e, if_neg e, if_neg e]
theorem putL_odd (k i : Nat) : ∀ (L : List Nat) (f : Nat → List Int), putL k L f (2 * i + 1) = f (2 * i + 1) ++ List.replicate (L.count i) (k : Int)
  | [], f => by unfold putL; simp
  | y :: L, f => by
    unfold putL
    rw [putL_odd k i L, putE_odd]
    by_cases e : i = y
    · subst e
      rw [if_pos rfl, List.count_cons_self, List.append_assoc]
      rfl
    · rw [if_neg e, List.count_cons_of_ne (fun h => e h.symm)]
theorem rowsU_even (nx : Nat → List Nat) (i : Nat) : ∀ n, rowsU nx n (2 * i) = if i < n then (nx i).map (fun q : Nat => (q : Int)) else []
  | 0 => by rw [if_neg (by omega)]; rfl
  | n + 1 => by
    show putL n (nx n) (rowsU nx n) (2 * i) = _
    rw [putL_even, rowsU_even nx i n, rowsU_even nx n n, if_neg (Nat.lt_irrefl n)]
    by_cases e : i = n
    · subst e
      rw [if_pos rfl, if_pos (by omega), List.nil_append]
    · rw [if_neg e]
      by_cases h : i < n
      · rw [if_pos h, if_pos (by omega)]
      · rw [if_neg h, if_neg (by omega)]
theorem rowsU_odd (nx : Nat → List Nat) (i : Nat) : ∀ n, rowsU nx n (2 * i + 1) = (List.range n).flatMap (fun k => List.replicate ((nx k).count i) (k : Int))
  | 0 => rfl
  | n + 1 => by
    show putL n (nx n) (rowsU nx n) (2 * i + 1) = _
    rw [putL_odd, rowsU_odd nx i n, List.range_succ, List.flatMap_append]
    simp
end Go.Proofs.Ytaaadbaakhjkcaa

namespace Go.Proofs.Ytaaadbaakhjkcaa
open Go.RowKit Go.WideShapes Go.ChangeShapes
set_option linter.unusedVariables false
set_option linter.unusedSimpArgs false
set_option maxRecDepth 100000

abbrev grA (vb va vo : Value) : Array Value := #[vb, va, vo]
abbrev grV (vb va vo : Value) : Value := .agg #[vb, va, vo]
theorem gr_size : (Try.prog.info? 34).map (·.size) = some 3 := by kernel_rfl
theorem gr_und : ((Try.prog.underlying 34).map fun d => (match d with | .struct _ | .array _ _ => true | _ => false)) = some true := by kernel_rfl
theorem ret_gr {fn : Func} {t : Tmp} (hf : fn.results = #[.cell t 34]) {R : Ending → World → Prop} {a : Act} {wf : World} {g : Nat} {vb va vo : Value} (hp : a.tmps.getD t undef = .pointer (some ⟨g, 0, none⟩)) (hd : a.defers = [])
    (hb : Blk wf g 34 (grA vb va vo)) (h : R (.returned (grV vb va vo)) wf) : bodyPost Try.prog fn R .ret a wf := by
  have hu := gr_und
  cases hq : Try.prog.underlying 34 with
  | none => rw [hq] at hu; cases hu
  | some d =>
    rw [hq] at hu
    exact bodyPost_ret (results_cell_row hf _ _ _ _ _ _ d hp hb hq (by cases d <;> simp_all) gr_size) hd h
set_option maxHeartbeats 4000000 in
theorem of_none (p : Pr) (hs : List Bool) (code : List IV) (ns : Nat) (w : World) (h : PrOk w p hs code ns) (hn : code.length ≤ 1000) (hl : ∀ x ∈ code, x.i.arms.length ≤ 100 ∧ x.i.args.length ≤ 100) (hg : goodP p hs code ns = false) :
    Calls Try.prog 10 #[p.val] w fun e w' => e = .returned (grV (.slice none 0 0) (.slice none 0 0) (.slice none 0 0)) ∧ Below w.heap.size w w' := by
  obtain ⟨gp, hgp⟩ : ∃ gp, gp = w.heap.size := ⟨_, rfl⟩
  obtain ⟨zs, hzs⟩ : ∃ zs : Array Value, zs = #[.slice none 0 0, .slice none 0 0, .slice none 0 0] := ⟨_, rfl⟩
  obtain ⟨W1, hW1⟩ : ∃ W1, W1 = (w.alloc (.cells p.arr 29)).alloc (.cells zs 34) := ⟨_, rfl⟩
  have hb1 : Below w.heap.size w W1 := by rw [hW1]; exact ((Below.refl _ _).alloc (Nat.le_refl _) _).alloc (by simp) _
  have hbp : Blk W1 gp 29 p.arr := by rw [hW1, hgp]; exact (Blk.new _ _ _).alloc _
  have hbz : Blk W1 (gp + 1) 34 zs := by
    have h := Blk.new (w.alloc (.cells p.arr 29)) 34 zs
    rw [← hW1] at h
    rw [hgp]
    simpa using h
  have HOK := hide (h.below hb1 (Nat.le_refl _))
  obtain ⟨PV, hPV⟩ : ∃ PV, PV = p.val := ⟨_, rfl⟩
  have HGC := hide (good_any p hs code ns W1 HOK.out hn hl)
  rw [← hPV, hg] at HGC
  have HPV := hide hPV
  have HZ := hide hzs
  have HZS := hide (show zs.size = 3 by rw [hzs]; rfl)
  have HB1 := hide hb1
  have HW1 := hide hW1
  have HGP := hide hgp
  have HBP := hide hbp
  have HBZ := hide hbz
  clear h hn hl hg hb1 hW1 hgp hbp hbz hPV hzs
  go_enter Try.func10, Try.ntmps10
  go_upto_region 1 with (fail)
  rw [← HZ.out, ← HW1.out, ← HGP.out]
  rw [← HPV.out]
  go_wp2_with (first
    | (refine wpList_load_blk (.tmp 1) HBP.out HPV.out Try.underlying29 rfl pr_size rfl rfl rfl ?_)
    | (refine wp_load_blk (.tmp 1) HBP.out HPV.out Try.underlying29 rfl pr_size rfl rfl ?_))
  refine HGC.out.mono ?_
  rintro e w3 ⟨rfl, hb3⟩
  have HB3 := hide hb3
  have HBZ3 := hide (HBZ.out.below hb3 HBZ.out.lt)
  have HB3W := hide (HB1.out.trans (hb3.mono HB1.out.size))
  clear hb3
  have hz := HZ.out
  obtain ⟨o, ho⟩ : ∃ o, o = gp + 1 := ⟨_, rfl⟩
  have HO := hide ho
  rw [← ho]
  have h3 := HBZ3.out
  rw [hz, ← ho] at h3
  have y0 : w3.cell? ⟨o, 0, none⟩ = some (.slice none 0 0) := h3.cell 0
  have f0 := h3.frozen 0
  obtain ⟨W4, hW4⟩ : ∃ W4, w3.setCell ⟨o, 0, none⟩ (.slice none 0 0) = W4 := ⟨_, rfl⟩
  have h4 : Blk W4 o 34 #[.slice none 0 0, .slice none 0 0, .slice none 0 0] := by rw [← hW4]; exact h3.set_ 0 _
  have y1 : W4.cell? ⟨o, 1, none⟩ = some (.slice none 0 0) := h4.cell 1
  have f1 := h4.frozen 1
  obtain ⟨W5, hW5⟩ : ∃ W5, W4.setCell ⟨o, 1, none⟩ (.slice none 0 0) = W5 := ⟨_, rfl⟩
  have h5 : Blk W5 o 34 #[.slice none 0 0, .slice none 0 0, .slice none 0 0] := by rw [← hW5]; exact h4.set_ 1 _
  have y2 : W5.cell? ⟨o, 2, none⟩ = some (.slice none 0 0) := h5.cell 2
  have f2 := h5.frozen 2
  have ho2 : w.heap.size ≤ o := by rw [ho, HGP.out]; omega
  have HH := hide (show Blk (W5.setCell ⟨o, 2, none⟩ (.slice none 0 0)) o 34 (grA (.slice none 0 0) (.slice none 0 0) (.slice none 0 0)) from h5.set_ 2 _)
  have HBB := hide (show Below w.heap.size w (W5.setCell ⟨o, 2, none⟩ (.slice none 0 0)) by
    rw [← hW5, ← hW4]
    exact ((HB3W.out.setCell (p := ⟨o, 0, none⟩) ho2 _).setCell (p := ⟨o, 1, none⟩) ho2 _).setCell (p := ⟨o, 2, none⟩) ho2 _)
  clear hz h3 h4 h5 ho ho2
  go_wp2_with fail
  exact ret_gr rfl rfl rfl HH.out ⟨rfl, HBB.out⟩
end Go.Proofs.Ytaaadbaakhjkcaa

namespace Go.Proofs.Ytaaadbaakhjkcaa
open Go.RowKit Go.WideShapes Go.ChangeShapes
set_option linter.unusedVariables false
set_option linter.unusedSimpArgs false
set_option maxRecDepth 100000

/-- The blocks with which a block goes on: those of whither its last instruction goes on. -/
def nxB (code : List IV) (B : Nat → Bool) (k : Nat) : List Nat := match (bls B code.length)[k]? with
  | some x => (match code[x.2 - 1]? with
    | some y => (nextI y.i ((x.2 - 1 : Nat) : Int)).map (fun q => atB B q.toNat)
    | none => [])
  | none => []
theorem nxB_eq {code : List IV} {B : Nat → Bool} {k : Nat} {x : Nat × Nat} {y : IV} (hx : (bls B code.length)[k]? = some x) (hy : code[x.2 - 1]? = some y) : nxB code B k = (nextI y.i ((x.2 - 1 : Nat) : Int)).map (fun q => atB B q.toNat) := by
  unfold nxB
  rw [hx]
  show (match code[x.2 - 1]? with | some y => _ | none => _) = _
  rw [hy]
theorem nxB_lt {p : Pr} {hs : List Bool} {code : List IV} {ns : Nat} (hg : goodP p hs code ns = true) {B : Nat → Bool} (h0 : B 0 = true) (k : Nat) : ∀ y ∈ nxB code B k, y < (bls B code.length).length := by
  intro y hy
  unfold nxB at hy
  split at hy
  · rename_i x hx
    split at hy
    · rename_i z hz
      obtain ⟨q, hq, rfl⟩ := List.mem_map.1 hy
      have := edge_in hg hz q hq
      exact at_lt h0 (by omega)
    · cases hy
  · cases hy
theorem nxB_len {code : List IV} (hl : ∀ x ∈ code, x.i.arms.length ≤ 100 ∧ x.i.args.length ≤ 100) (B : Nat → Bool) (k : Nat) : (nxB code B k).length ≤ 102 := by
  unfold nxB
  split
  · rename_i x hx
    split
    · rename_i z hz
      rw [List.length_map]
      have := nextI_len z.i ((x.2 - 1 : Nat) : Int)
      have := (hl z (List.mem_of_getElem? hz)).1
      omega
    · simp
  · simp
end Go.Proofs.Ytaaadbaakhjkcaa

namespace Go.Proofs.Ytaaadbaakhjkcaa
open Go.RowKit Go.WideShapes Go.ChangeShapes
set_option linter.unusedVariables false
set_option linter.unusedSimpArgs false
set_option maxRecDepth 100000

theorem Fam.off_grow {w : World} {B N : Nat} {R : Nat → Value} {RL : Nat → List Int} (h : Fam w B N R RL) {i : Nat} (hi : i < N) {v' u : Value} (hat : v'.ownBlock = (R i).ownBlock ∨ v'.ownBlock = some w.heap.size) (hd : ∀ j, j < N → ∀ q, (R j).ownBlock = some q → u.ownBlock ≠ some q) (hlt : ∀ q, u.ownBlock = some q → q < w.heap.size) : ∀ j, j < N → ∀ q, (upd R i v' j).ownBlock = some q → u.ownBlock ≠ some q := by
  intro j hj q hq
  by_cases e : j = i
  · subst e
    rw [upd_at] at hq
    rcases hat with e2 | e2
    · exact hd j hj q (e2.symm.trans hq)
    · intro e3
      have e4 : w.heap.size = q := by injection e2.symm.trans hq
      have := hlt q e3
      omega
  · rw [upd_ne _ _ e] at hq
    exact hd j hj q hq
theorem ic_congr {m : Nat} {f g : Nat → Nat} (h : ∀ q, q < m → f q = g q) : ic m f = ic m g := by
  apply Array.ext_getElem?
  intro q
  by_cases hq : q < m
  · rw [ic_at _ hq, ic_at _ hq, h q hq]
  · rw [Array.getElem?_eq_none (by simp [ic]; omega), Array.getElem?_eq_none (by simp [ic]; omega)]
theorem putE_len (k y i : Nat) (f : Nat → List Int) : (putE k y f i).length ≤ (f i).length + 1 := by
  obtain ⟨j, rfl | rfl⟩ : ∃ j, i = 2 * j ∨ i = 2 * j + 1 := ⟨i / 2, by omega⟩
  · rw [putE_even]
    split
    · rename_i e
      subst e
      simp
    · omega
  · rw [putE_odd]
    split
    · simp
    · omega
theorem putL_len (k i : Nat) : ∀ (L : List Nat) (f : Nat → List Int), (putL k L f i).length ≤ (f i).length + L.length
  | [], f => by unfold putL; simp
  | y :: L, f => by
    unfold putL
    have h1 := putL_len k i L (putE k y f)
    have h2 := putE_len k y i f
    rw [List.length_cons]
    omega
theorem rowsU_len {nx : Nat → List Nat} {m : Nat} (hm : ∀ k, (nx k).length ≤ m) (i : Nat) : ∀ k, (rowsU nx k i).length ≤ m * k
  | 0 => by unfold rowsU; simp
  | k + 1 => by
    have h1 := putL_len k i (nx k) (rowsU nx k)
    have h2 := rowsU_len hm i k
    have h3 := hm k
    show (putL k (nx k) (rowsU nx k) i).length ≤ m * (k + 1)
    rw [Nat.mul_succ]
    omega
theorem putE_two {k y : Nat} (f : Nat → List Int) : upd (upd f (2 * k) (f (2 * k) ++ [(y : Int)])) (2 * y + 1) ((upd f (2 * k) (f (2 * k) ++ [(y : Int)])) (2 * y + 1) ++ [(k : Int)]) = putE k y f := by
  unfold putE
  congr 2
  rw [upd_ne _ _ (by omega)]
theorem putL_take {k t y : Nat} {L : List Nat} (f : Nat → List Int) (h : L[t]? = some y) : putL k (L.take (t + 1)) f = putE k y (putL k (L.take t) f) := by
  rw [List.take_add_one, h]
  exact putL_snoc k (L.take t) y f
theorem putL_all {k t : Nat} {L : List Nat} (nx : Nat → List Nat) (h : nx k = L) (ht : L.length ≤ t) : putL k (L.take t) (rowsU nx k) = rowsU nx (k + 1) := by
  rw [List.take_of_length_le ht, ← h]
  rfl
theorem ints_ic {w : World} {g n : Nat} {f : Nat → Nat} (h : Blk w g 3 (ic n f)) : IntsAt w (.slice (some ⟨g, 0, none⟩) n n) ((List.range n).map (fun q => (f q : Int))) := by
  refine ⟨some ⟨g, 0, none⟩, n, by simp, by simp, fun i b hi => ⟨g, 0, rfl, h.lt, ?_⟩⟩
  have hl : i < n := by
    rcases Nat.lt_or_ge i n with h1 | h1
    · exact h1
    · rw [List.getElem?_eq_none (by simp; omega)] at hi; cases hi
  rw [List.getElem?_map, List.getElem?_range hl] at hi
  injection hi with hi
  rw [Nat.zero_add, ← hi]
  exact (h.cell i).trans (ic_at _ hl)
/-- A graph in memory. -/
structure GrAt (w : World) (code : List IV) (B : Nat → Bool) (vb va vo : Value) (R : Nat → Value) (o : List Nat) : Prop where
  bl : RowAt 4 BV.enc w vb (blV (bls B code.length) R)
  at_ : IntsAt w va ((List.range code.length).map (fun q => (atB B q : Int)))
  or_ : IntsAt w vo (o.map (fun q : Nat => (q : Int)))
  rws : ∀ i, i < 2 * (bls B code.length).length → IntsAt w (R i) (rowsU (nxB code B) (bls B code.length).length i)
theorem GrAt.below {w w' : World} {code : List IV} {B : Nat → Bool} {vb va vo : Value} {R : Nat → Value} {o : List Nat} {b : Nat} (h : GrAt w code B vb va vo R o) (hb : Below b w w') (hB : w.heap.size ≤ b) : GrAt w' code B vb va vo R o :=
  ⟨h.bl.below hb hB, h.at_.below hb hB, h.or_.below hb hB, fun i hi => (h.rws i hi).below hb hB⟩
/-- The same, of rows of the call's own. -/
structure GrO (w : World) (Bd Be Bo N kb cb lo co n gA : Nat) (gv : Nat) (Ao : Option Addr) (bl : List BV) (R : Nat → Value) (RL : Nat → List Int) (o : List Value) (f : Nat → Nat) : Prop where
  bl : w.ownsRow Bd 37 4 (.slice (some ⟨gv, 0, none⟩) kb cb) kb (bl.flatMap BV.enc)
  fam : Fam w Be N R RL
  ord : w.ownsRow Bo 3 1 (.slice Ao lo co) lo o
  at_ : Blk w gA 3 (ic n f)
theorem GrO.far {w : World} {Bd Be Bo N kb cb lo co n gA : Nat} {gv : Nat} {Ao : Option Addr} {bl : List BV} {R : Nat → Value} {RL : Nat → List Int} {o : List Value} {f : Nat → Nat} (h : GrO w Bd Be Bo N kb cb lo co n gA gv Ao bl R RL o f) {g i : Nat} {cs : Array Value} (hg : Blk w g 34 cs) (u : Value) : GrO (w.setCell ⟨g, i, none⟩ u) Bd Be Bo N kb cb lo co n gA gv Ao bl R RL o f :=
  ⟨ownsRow_setCell_other (a := ⟨g, i, none⟩) h.bl (own_blk_ne h.bl hg (by decide)) u, h.fam.far hg (by decide) u, ownsRow_setCell_other (a := ⟨g, i, none⟩) h.ord (own_blk_ne h.ord hg (by decide)) u, h.at_.far (p := ⟨g, i, none⟩) (h.at_.ne_ hg (by decide)) u⟩
/-- With which blocks each goes on. -/
def nxN (code : List IV) (B : Nat → Bool) (k : Nat) : List Int := rowsU (nxB code B) (bls B code.length).length (2 * k)
/-- What Of answers of code that can be. -/
def GrP (code : List IV) (w : World) (e : Ending) (w' : World) : Prop :=
  ∃ (B : Nat → Bool) (vb va vo : Value) (R : Nat → Value) (i : Nat), B = begU code code.length ∧ e = .returned (.agg #[vb, va, vo]) ∧ (oiter (nxN code B) i ostart).path = [] ∧ GrAt w' code B vb va vo R (oiter (nxN code B) i ostart).left.reverse ∧ Below w.heap.size w w'
end Go.Proofs.Ytaaadbaakhjkcaa
