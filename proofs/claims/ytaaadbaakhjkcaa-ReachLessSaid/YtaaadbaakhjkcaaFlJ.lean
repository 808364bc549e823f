/- Rows of blocks: stored cells; whither blocks go and whence one comes to them, as mathematics; no conditions. -/
import Derived.Test.YtaaadbaakhjkcaaFlI
namespace Go.Proofs.Ytaaadbaakhjkcaa
open Go.RowKit Go.WideShapes Go.ChangeShapes
set_option linter.unusedVariables false
set_option linter.unusedSimpArgs false
set_option maxRecDepth 100000

theorem own_set {w : World} {B e sz n g c q : Nat} {xs : List Value} (h : w.ownsRow B e sz (.slice (some ⟨g, 0, none⟩) n c) n xs) (u : Value) : (w.setCell ⟨g, q, none⟩ u).ownsRow B e sz (.slice (some ⟨g, 0, none⟩) n c) n (xs.set q u) := by
  refine ⟨by rw [List.length_set]; exact h.1, ?_⟩
  rcases h.2 with ⟨hv, _⟩ | ⟨g', cap, cur, hv, hB, hg, hn, hm, hs, ht⟩
  · cases hv
  · injection hv with h1 h2 h3
    injection h1 with h1
    injection h1 with h1
    subst h1 h3
    have hb : Blk w g e cur := hg
    refine .inr ⟨g, c, cur.setIfInBounds q u, rfl, hB, hb.set_ q u, hn, hm, by rw [Array.size_setIfInBounds]; exact hs, ?_⟩
    rw [Array.toList_setIfInBounds, List.take_set, ht]
theorem flat_setR {α : Type} {k : Nat} {enc : α → List Value} (hk : ∀ x, (enc x).length = k) : ∀ (L : List α) (i j : Nat) (x x' : α) (u : Value), L[i]? = some x → j < k → enc x' = (enc x).set j u → (L.flatMap enc).set (i * k + j) u = (L.set i x').flatMap enc
  | [], i, j, x, x', u, h, _, _ => by simp at h
  | a :: L, 0, j, x, x', u, h, hj, he => by
    simp at h
    subst h
    rw [List.flatMap_cons, List.set_cons_zero, List.flatMap_cons, he, Nat.zero_mul, Nat.zero_add, List.set_append_left _ _ (by rw [hk]; exact hj)]
  | a :: L, i + 1, j, x, x', u, h, hj, he => by
    rw [List.getElem?_cons_succ] at h
    rw [List.flatMap_cons, List.set_cons_succ, List.flatMap_cons, List.set_append_right _ _ (by rw [hk, Nat.succ_mul]; omega), hk, show (i + 1) * k + j - k = i * k + j by rw [Nat.succ_mul]; omega, flat_setR hk L i j x x' u h hj he]
/-- Blocks in memory, with the rows of those with which they go on and of those that go on with them. -/
def blV (l : List (Nat × Nat)) (R : Nat → Value) : List BV := l.mapIdx (fun i x => ⟨(x.1 : Int), (x.2 : Int), R (2 * i), R (2 * i + 1)⟩)
theorem blV_len (l : List (Nat × Nat)) (R : Nat → Value) : (blV l R).length = l.length := by unfold blV; simp
theorem blV_at {l : List (Nat × Nat)} {i : Nat} {x : Nat × Nat} (R : Nat → Value) (h : l[i]? = some x) : (blV l R)[i]? = some ⟨(x.1 : Int), (x.2 : Int), R (2 * i), R (2 * i + 1)⟩ := by
  unfold blV
  rw [List.getElem?_mapIdx, h]
  rfl
theorem blV_none {l : List (Nat × Nat)} {i : Nat} (R : Nat → Value) (h : l.length ≤ i) : (blV l R)[i]? = none := by
  rw [List.getElem?_eq_none]
  rw [blV_len]
  exact h
theorem blV_snoc (l : List (Nat × Nat)) (x : Nat × Nat) (R : Nat → Value) : blV (l ++ [x]) R = blV l R ++ [⟨(x.1 : Int), (x.2 : Int), R (2 * l.length), R (2 * l.length + 1)⟩] := by
  unfold blV
  rw [List.mapIdx_concat]
/-- The end of the last block is stored. -/
theorem blV_to (p : List (Nat × Nat)) (x : Nat × Nat) (t : Nat) (R : Nat → Value) : ((blV (p ++ [x]) R).flatMap BV.enc).set (p.length * 4 + 1) (iI (t : Int)) = (blV (p ++ [(x.1, t)]) R).flatMap BV.enc := by
  rw [flat_setR (k := 4) (enc := BV.enc) BV.enc_length _ p.length 1 ⟨(x.1 : Int), (x.2 : Int), R (2 * p.length), R (2 * p.length + 1)⟩ ⟨(x.1 : Int), (t : Int), R (2 * p.length), R (2 * p.length + 1)⟩ _ (blV_at R (snoc_last p x)) (by decide) rfl]
  rw [blV_snoc, blV_snoc]
  congr 1
  rw [List.set_append_right _ _ (by rw [blV_len]; exact Nat.le_refl _), blV_len, Nat.sub_self]
  rfl
theorem blV_set (l : List (Nat × Nat)) (R : Nat → Value) (i : Nat) (x : Nat × Nat) (hx : l[i]? = some x) (j : Nat) (v : Value) (y : BV) (hy : ∀ (z : BV), z = ⟨(x.1 : Int), (x.2 : Int), upd R j v (2 * i), upd R j v (2 * i + 1)⟩ → z = y) (hj : j = 2 * i ∨ j = 2 * i + 1) : (blV l R).set i y = blV l (upd R j v) := by
  apply List.ext_getElem?
  intro q
  rcases Nat.lt_or_ge q l.length with hq | hq
  · have hl : l[q]? = some l[q] := List.getElem?_eq_getElem hq
    rw [blV_at _ hl]
    by_cases e : i = q
    · subst e
      rw [hx] at hl
      rw [List.getElem?_set_self (by rw [blV_len]; exact hq), ← hy _ rfl]
      injection hl with hl
      rw [hl]
    · rw [List.getElem?_set_ne e, blV_at _ hl, upd_ne _ _ (by omega), upd_ne _ _ (by omega)]
  · rw [blV_none _ hq, List.getElem?_eq_none (by rw [List.length_set, blV_len]; exact hq)]
/-- The row of those with which a block goes on is stored. -/
theorem blV_nx {l : List (Nat × Nat)} {i : Nat} (hi : i < l.length) (R : Nat → Value) (v : Value) : ((blV l R).flatMap BV.enc).set (i * 4 + 2) v = (blV l (upd R (2 * i) v)).flatMap BV.enc := by
  have hl : l[i]? = some l[i] := List.getElem?_eq_getElem hi
  rw [flat_setR (k := 4) (enc := BV.enc) BV.enc_length _ i 2 _ ⟨(l[i].1 : Int), (l[i].2 : Int), v, R (2 * i + 1)⟩ _ (blV_at R hl) (by decide) rfl]
  rw [blV_set l R i _ hl (2 * i) v _ (fun z hz => by rw [hz, upd_at, upd_ne _ _ (by omega)]) (.inl rfl)]
/-- The row of those that go on with a block is stored. -/
theorem blV_pv {l : List (Nat × Nat)} {i : Nat} (hi : i < l.length) (R : Nat → Value) (v : Value) : ((blV l R).flatMap BV.enc).set (i * 4 + 3) v = (blV l (upd R (2 * i + 1) v)).flatMap BV.enc := by
  have hl : l[i]? = some l[i] := List.getElem?_eq_getElem hi
  rw [flat_setR (k := 4) (enc := BV.enc) BV.enc_length _ i 3 _ ⟨(l[i].1 : Int), (l[i].2 : Int), R (2 * i), v⟩ _ (blV_at R hl) (by decide) rfl]
  rw [blV_set l R i _ hl (2 * i + 1) v _ (fun z hz => by rw [hz, upd_at, upd_ne _ _ (by omega)]) (.inr rfl)]
/-- A block goes on with another one. -/
def putE (k to_ : Nat) (f : Nat → List Int) : Nat → List Int := upd (upd f (2 * k) (f (2 * k) ++ [(to_ : Int)])) (2 * to_ + 1) (f (2 * to_ + 1) ++ [(k : Int)])
def putL (k : Nat) : List Nat → (Nat → List Int) → (Nat → List Int)
  | [], f => f
  | y :: L, f => putL k L (putE k y f)
def rowsU (nx : Nat → List Nat) : Nat → (Nat → List Int)
  | 0 => fun _ => []
  | k + 1 => putL k (nx k) (rowsU nx k)
theorem putL_snoc (k : Nat) : ∀ (L : List Nat) (y : Nat) (f : Nat → List Int), putL k (L ++ [y]) f = putE k y (putL k L f)
  | [], y, f => rfl
  | x :: L, y, f => putL_snoc k L y (putE k x f)
theorem putE_even (k y i : Nat) (f : Nat → List Int) : putE k y f (2 * i) = if i = k then f (2 * k) ++ [(y : Int)] else f (2 * i) := by
  unfold putE
  rw [upd_ne _ _ (by omega)]
  by_cases e : i = k
  · subst e
    rw [upd_at, if_pos rfl]
  · rw [upd_ne _ _ (by omega), if_neg e]
theorem putE_odd (k y i : Nat) (f : Nat → List Int) : putE k y f (2 * i + 1) = if i = y then f (2 * i + 1) ++ [(k : Int)] else f (2 * i + 1) := by
  unfold putE
  by_cases e : i = y
  · subst e
    rw [upd_at, if_pos rfl]
  · rw [upd_ne _ _ (by omega), upd_ne _ _ (by omega), if_neg e]
theorem putL_even (k i : Nat) : ∀ (L : List Nat) (f : Nat → List Int), putL k L f (2 * i) = if i = k then f (2 * k) ++ L.map (fun q : Nat => (q : Int)) else f (2 * i)
  | [], f => by
    unfold putL
    split
    · rename_i e; rw [e]; simp
    · rfl
  | y :: L, f => by
    unfold putL
    rw [putL_even k i L, putE_even, putE_even]
    by_cases e : i = k
    · rw [if_pos e, if_pos e, if_pos rfl]
      simp
    · rw [if_neg e, if_neg e, if_neg e]
theorem putL_odd (k i : Nat) : ∀ (L : List Nat) (f : Nat → List Int), putL k L f (2 * i + 1) = f (2 * i + 1) ++ List.replicate (L.count i) (k : Int)
  | [], f => by unfold putL; simp
  | y :: L, f => by
    unfold putL
    rw [putL_odd k i L, putE_odd]
    by_cases e : i = y
    · subst e
      rw [if_pos rfl, List.count_cons_self, List.append_assoc]
      rfl
    · rw [if_neg e, List.count_cons_of_ne (fun h => e h.symm)]
theorem rowsU_even (nx : Nat → List Nat) (i : Nat) : ∀ n, rowsU nx n (2 * i) = if i < n then (nx i).map (fun q : Nat => (q : Int)) else []
  | 0 => by rw [if_neg (by omega)]; rfl
  | n + 1 => by
    show putL n (nx n) (rowsU nx n) (2 * i) = _
    rw [putL_even, rowsU_even nx i n, rowsU_even nx n n, if_neg (Nat.lt_irrefl n)]
    by_cases e : i = n
    · subst e
      rw [if_pos rfl, if_pos (by omega), List.nil_append]
    · rw [if_neg e]
      by_cases h : i < n
      · rw [if_pos h, if_pos (by omega)]
      · rw [if_neg h, if_neg (by omega)]
theorem rowsU_odd (nx : Nat → List Nat) (i : Nat) : ∀ n, rowsU nx n (2 * i + 1) = (List.range n).flatMap (fun k => List.replicate ((nx k).count i) (k : Int))
  | 0 => rfl
  | n + 1 => by
    show putL n (nx n) (rowsU nx n) (2 * i + 1) = _
    rw [putL_odd, rowsU_odd nx i n, List.range_succ, List.flatMap_append]
    simp
end Go.Proofs.Ytaaadbaakhjkcaa
