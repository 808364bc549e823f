/- Names by lists: the map's table and a row of objects with their scopes agree; how scopes lie in one another; which blocks a call may write. Plain mathematics and worlds; no conditions. -/
import Derived.Test.YtllddgfmjmblmaaScope9
namespace Go.Proofs.Ytllddgfmjmblmaa
open Go.RowKit Go.WideShapes Go.ChangeShapes
set_option linter.unusedVariables false
set_option maxRecDepth 100000

def und : ByteArray := ⟨#[95]⟩
def fnI (o : Option (Nat × Int)) : Int := ((o.map (·.1)).getD 0 : Nat)
def fnA (o : Option (Nat × Int)) : Int := (o.map (·.2)).getD 0
theorem found_fn (o : Option (Nat × Int)) : found o = .tuple #[.int .i64 (fnI o), .int .i64 (fnA o), .bool o.isSome] := rfl
def lkI (o : Option Nat) : Int := (o.getD 0 : Nat)
theorem looked_lk (o : Option Nat) : looked o = .tuple #[.int .i64 (lkI o), .bool o.isSome] := rfl

/-- The object j is of that name in that scope. -/
def hit (ins : List Int) (objs : List ObjV) (a : Int) (name : ByteArray) (j : Nat) : Prop := ins[j]? = some a ∧ (objs[j]?).map ObjV.name = some name
structure Link (ins : List Int) (objs : List ObjV) (tbl : List ((Int × ByteArray) × Nat)) : Prop where
  len : ins.length = objs.length
  some_ : ∀ a name i, look tbl (a, name) = some i → 1 ≤ i ∧ i ≤ objs.length ∧ name ≠ und ∧ hit ins objs a name (i - 1) ∧ ∀ j, j < i - 1 → ¬ hit ins objs a name j
  none_ : ∀ a name, look tbl (a, name) = none → name = und ∨ ∀ j, ¬ hit ins objs a name j

theorem link_nil : Link [] [] [] := ⟨rfl, fun a name i h => by simp [look] at h, fun a name _ => .inr fun j h => by simp [hit] at h⟩
theorem hit_push {ins : List Int} {objs : List ObjV} (hl : ins.length = objs.length) (a a' : Int) (o : ObjV) (n : ByteArray) (j : Nat) :
    hit (ins ++ [a]) (objs ++ [o]) a' n j ↔ (j < objs.length ∧ hit ins objs a' n j) ∨ (j = objs.length ∧ a = a' ∧ o.name = n) := by
  unfold hit
  rcases Nat.lt_trichotomy j objs.length with h | h | h
  · rw [List.getElem?_append_left (by omega), List.getElem?_append_left h]
    constructor
    · intro x; exact .inl ⟨h, x⟩
    · rintro (x | x)
      · exact x.2
      · omega
  · subst h
    rw [← hl, List.getElem?_concat_length, hl, List.getElem?_concat_length]
    constructor
    · rintro ⟨x, y⟩; exact .inr ⟨rfl, by simpa using x, by simpa using y⟩
    · rintro (x | ⟨_, x, y⟩)
      · omega
      · exact ⟨by rw [x], by simp [y]⟩
  · rw [List.getElem?_eq_none (by simp; omega), List.getElem?_eq_none (by simp; omega)]
    constructor
    · rintro ⟨x, _⟩; cases x
    · rintro (x | x) <;> omega
theorem hit_lt {ins : List Int} {objs : List ObjV} {a : Int} {n : ByteArray} {j : Nat} (h : hit ins objs a n j) : j < objs.length := by
  obtain ⟨_, h⟩ := h
  rcases Nat.lt_or_ge j objs.length with x | x
  · exact x
  · rw [List.getElem?_eq_none x] at h; cases h
theorem link_push {ins : List Int} {objs : List ObjV} {tbl : List ((Int × ByteArray) × Nat)} (h : Link ins objs tbl) (a : Int) (o : ObjV) (hl : look tbl (a, o.name) = none) :
    Link (ins ++ [a]) (objs ++ [o]) (tblPut tbl a o.name (objs.length + 1)) := by
  have hh := hit_push h.len a (o := o)
  refine ⟨by simp [h.len], fun a' n i hi => ?_, fun a' n hi => ?_⟩
  · have old : ∀ i, look tbl (a', n) = some i → 1 ≤ i ∧ i ≤ (objs ++ [o]).length ∧ n ≠ und ∧ hit (ins ++ [a]) (objs ++ [o]) a' n (i - 1) ∧ ∀ j, j < i - 1 → ¬ hit (ins ++ [a]) (objs ++ [o]) a' n j := by
      intro i hi
      obtain ⟨h1, h2, h3, h4, h5⟩ := h.some_ _ _ _ hi
      refine ⟨h1, by simp; omega, h3, (hh _ _ _).2 (.inl ⟨by omega, h4⟩), fun j hj x => ?_⟩
      rcases (hh _ _ _).1 x with x | x
      · exact h5 j hj x.2
      · omega
    unfold tblPut at hi
    by_cases hu : o.name = ⟨#[95]⟩
    · rw [if_pos hu] at hi; exact old i hi
    · rw [if_neg hu, look_append] at hi
      cases hq : look tbl (a', n) with
      | some k => rw [hq] at hi; injection hi with hi; subst hi; exact old k hq
      | none =>
        rw [hq] at hi
        simp only at hi
        split at hi
        · rename_i e
          injection hi with hi; subst hi
          injection e with e1 e2
          subst e1; subst e2
          refine ⟨by omega, by simp, hu, (hh _ _ _).2 (.inr ⟨by omega, rfl, rfl⟩), fun j hj x => ?_⟩
          rcases h.none_ _ _ hq with y | y
          · exact hu y
          · rcases (hh _ _ _).1 x with x | x
            · exact y j x.2
            · omega
        · cases hi
  · have key : look tbl (a', n) = none ∧ (n = und ∨ ¬ (a = a' ∧ o.name = n)) := by
      unfold tblPut at hi
      by_cases hu : o.name = ⟨#[95]⟩
      · rw [if_pos hu] at hi
        refine ⟨hi, ?_⟩
        by_cases hn : n = und
        · exact .inl hn
        · exact .inr fun e => hn (by rw [← e.2, hu]; rfl)
      · rw [if_neg hu, look_append] at hi
        cases hq : look tbl (a', n) with
        | some k => rw [hq] at hi; cases hi
        | none =>
          rw [hq] at hi
          simp only at hi
          split at hi
          · cases hi
          · rename_i e
            exact ⟨rfl, .inr fun x => e (by rw [x.1, x.2])⟩
    rcases h.none_ _ _ key.1 with y | y
    · exact .inl y
    · rcases key.2 with z | z
      · exact .inl z
      · exact .inr fun j x => by
          rcases (hh _ _ _).1 x with x | x
          · exact y j x.2
          · exact z x.2
theorem link_set {ins : List Int} {objs : List ObjV} {tbl : List ((Int × ByteArray) × Nat)} (h : Link ins objs tbl) {i : Nat} {p o : ObjV} (hp : objs[i]? = some p) (hn : o.name = p.name) : Link ins (objs.set i o) tbl := by
  have e : ∀ a n j, hit ins (objs.set i o) a n j ↔ hit ins objs a n j := by
    intro a n j
    unfold hit
    have : ((objs.set i o)[j]?).map ObjV.name = (objs[j]?).map ObjV.name := by
      rw [List.getElem?_set]
      by_cases hj : i = j
      · subst hj
        have hl := (List.getElem?_eq_some_iff.1 hp).1
        rw [if_pos rfl, if_pos hl, hp]
        simp [hn]
      · rw [if_neg hj]
    rw [this]
  refine ⟨by simp [h.len], fun a n i' hi => ?_, fun a n hi => ?_⟩
  · obtain ⟨h1, h2, h3, h4, h5⟩ := h.some_ _ _ _ hi
    exact ⟨h1, by simpa using h2, h3, (e _ _ _).2 h4, fun j hj x => h5 j hj ((e _ _ _).1 x)⟩
  · rcases h.none_ _ _ hi with y | y
    · exact .inl y
    · exact .inr fun j x => y j ((e _ _ _).1 x)
theorem link_start : Link (List.replicate 18 1) startObjs startTbl := by
  have h : ∀ k, k ≤ 18 → Link (List.replicate k 1) (startObjs.take k) (startTbl.take k) := by
    intro k
    induction k with
    | zero => intro _; exact link_nil
    | succ k ih =>
      intro hk
      obtain ⟨f1, f2, f3, f4, f5⟩ := start_facts ⟨k, by omega⟩
      simp only at f1 f2 f3 f4 f5
      obtain ⟨n1, n2, n3⟩ := start_next k (by omega)
      have hp := link_push (ih (by omega)) 1 (nthO k) f1
      unfold tblPut at hp
      rw [if_neg f5, n3, n2, n1] at hp
      rw [List.replicate_succ']
      exact hp
  exact h 18 (by omega)
theorem link_und {ins : List Int} {objs : List ObjV} {tbl : List ((Int × ByteArray) × Nat)} (h : Link ins objs tbl) (a : Int) : look tbl (a, und) = none := by
  cases hq : look tbl (a, und) with
  | none => rfl
  | some i => exact absurd rfl (h.some_ _ _ _ hq).2.2.1

/-! ## How scopes lie in one another -/
section
variable (outer : List Int) (t : Int)
def wthF : Nat → Int → Bool
  | 0, _ => false
  | f + 1, a => if hasB outer.length a then (if a = t then true else wthF f (outer.getD (a - 1).toNat 0)) else false
def wth (a : Int) : Bool := wthF outer t (a.toNat + 1) a
end
theorem wthF_more {outer : List Int} (h : OuterOk outer) (t : Int) : ∀ (m : Nat) (a : Int) (f g : Nat), a.toNat ≤ m → a.toNat < f → a.toNat < g → wthF outer t f a = wthF outer t g a
  | m, a, 0, _, _, h1, _ => by omega
  | m, a, _, 0, _, _, h1 => by omega
  | m, a, f + 1, g + 1, hm, hf, hg => by
    unfold wthF
    by_cases ha : hasB outer.length a = true
    · rw [if_pos ha, if_pos ha]
      obtain ⟨_, h0, h1⟩ := outer_at h ha
      rw [hasB_iff] at ha
      by_cases e : a = t
      · rw [if_pos e, if_pos e]
      · rw [if_neg e, if_neg e]
        cases m with
        | zero => omega
        | succ m => exact wthF_more h t m _ f g (by omega) (by omega) (by omega)
    · rw [if_neg ha, if_neg ha]
theorem wth_eq {outer : List Int} (h : OuterOk outer) (t a : Int) : wth outer t a = if hasB outer.length a then (if a = t then true else wth outer t (outer.getD (a - 1).toNat 0)) else false := by
  unfold wth
  rw [wthF]
  by_cases ha : hasB outer.length a = true
  · rw [if_pos ha, if_pos ha]
    obtain ⟨_, h0, h1⟩ := outer_at h ha
    rw [hasB_iff] at ha
    by_cases e : a = t
    · rw [if_pos e, if_pos e]
    · rw [if_neg e, if_neg e]
      exact wthF_more h t a.toNat _ _ _ (by omega) (by omega) (by omega)
  · rw [if_neg ha, if_neg ha]
/-- Each scope but the first has one around it. -/
def OuterUp (outer : List Int) : Prop := outer[0]? = some 0 ∧ ∀ (j : Nat) (v : Int), 1 ≤ j → outer[j]? = some v → 1 ≤ v
theorem outer_up {outer : List Int} (h : OuterUp outer) {a : Int} (ha : hasB outer.length a = true) : OuterUp (outer ++ [a]) := by
  rw [hasB_iff] at ha
  refine ⟨by rw [List.getElem?_append_left (by omega)]; exact h.1, fun j v h1 hv => ?_⟩
  by_cases hj : j < outer.length
  · rw [List.getElem?_append_left hj] at hv; exact h.2 j v h1 hv
  · rw [List.getElem?_append_right (by omega)] at hv
    have hj0 : j - outer.length = 0 := by
      have := (List.getElem?_eq_some_iff.1 hv).1
      simp at this
      omega
    rw [hj0] at hv
    simp at hv
    omega
theorem up_at {outer : List Int} (ho : OuterOk outer) (h : OuterUp outer) {a : Int} (ha : hasB outer.length a = true) (h1 : 1 < a) : 1 ≤ outer.getD (a - 1).toNat 0 ∧ hasB outer.length (outer.getD (a - 1).toNat 0) = true := by
  obtain ⟨e, h2, h3⟩ := outer_at ho ha
  have := h.2 _ _ (by omega) e
  rw [hasB_iff] at ha ⊢
  omega
theorem up_one {outer : List Int} (h : OuterUp outer) : outer.getD 0 0 = 0 := by rw [List.getD_eq_getElem?_getD, h.1]; rfl
theorem wth_self {outer : List Int} (ho : OuterOk outer) {a : Int} (ha : hasB outer.length a = true) : wth outer a a = true := by rw [wth_eq ho, if_pos ha, if_pos rfl]
theorem wth_no {outer : List Int} (ho : OuterOk outer) {t a : Int} (ha : hasB outer.length a = false) : wth outer t a = false := by rw [wth_eq ho, if_neg (by rw [ha]; simp)]
theorem wth_great {outer : List Int} (ho : OuterOk outer) {t : Int} : ∀ (m : Nat) (a : Int), a.toNat ≤ m → a < t → wth outer t a = false
  | m, a, hm, h => by
    rw [wth_eq ho]
    by_cases ha : hasB outer.length a = true
    · rw [if_pos ha, if_neg (by omega)]
      obtain ⟨_, h0, h1⟩ := outer_at ho ha
      rw [hasB_iff] at ha
      cases m with
      | zero => omega
      | succ m => exact wth_great ho m _ (by omega) (by omega)
    · rw [if_neg ha]
theorem wth_top {outer : List Int} (ho : OuterOk outer) (hu : OuterUp outer) : ∀ (m : Nat) (a : Int), a.toNat ≤ m → hasB outer.length a = true → wth outer 1 a = true
  | m, a, hm, ha => by
    rw [wth_eq ho, if_pos ha]
    by_cases e : a = 1
    · rw [if_pos e]
    · rw [if_neg e]
      have ha' := ha
      rw [hasB_iff] at ha'
      obtain ⟨_, h2⟩ := up_at ho hu ha (by omega)
      obtain ⟨_, h0, h1⟩ := outer_at ho ha
      cases m with
      | zero => omega
      | succ m => exact wth_top ho hu m _ (by omega) h2
theorem wth_has {outer : List Int} (ho : OuterOk outer) {t : Int} : ∀ (m : Nat) (a : Int), a.toNat ≤ m → wth outer t a = true → hasB outer.length t = true
  | m, a, hm, h => by
    rw [wth_eq ho] at h
    by_cases ha : hasB outer.length a = true
    · rw [if_pos ha] at h
      by_cases e : a = t
      · rw [← e]; exact ha
      · rw [if_neg e] at h
        obtain ⟨_, h0, h1⟩ := outer_at ho ha
        rw [hasB_iff] at ha
        cases m with
        | zero => omega
        | succ m => exact wth_has ho m _ (by omega) h
    · rw [if_neg ha] at h; cases h

/-! ## What a name that is put changes -/
theorem find_apart {outer : List Int} (ho : OuterOk outer) {tbl : List ((Int × ByteArray) × Nat)} {k : Int} {name : ByteArray} {i : Nat} : ∀ (m : Nat) (a : Int), a.toNat ≤ m → wth outer k a = false → find outer (tbl ++ [((k, name), i)]) name a = find outer tbl name a
  | m, a, hm, h => by
    rw [wth_eq ho] at h
    rw [find_eq ho, find_eq ho tbl]
    by_cases ha : hasB outer.length a = true
    · rw [if_pos ha] at h
      rw [if_pos ha, if_pos ha, look_append]
      by_cases e : a = k
      · rw [if_pos e] at h; cases h
      · rw [if_neg e] at h
        cases hq : look tbl (a, name) with
        | some j => rfl
        | none =>
          have : ¬ ((k, name) = (a, name)) := fun x => e (by injection x with x; exact x.symm)
          simp only [this, if_false]
          obtain ⟨_, h0, h1⟩ := outer_at ho ha
          rw [hasB_iff] at ha
          cases m with
          | zero => omega
          | succ m => exact find_apart ho m _ (by omega) h
    · rw [if_neg ha, if_neg ha]
theorem find_within {outer : List Int} (ho : OuterOk outer) {tbl : List ((Int × ByteArray) × Nat)} {k : Int} {name : ByteArray} {i : Nat} (hk : look tbl (k, name) = none) : ∀ (m : Nat) (a : Int), a.toNat ≤ m → wth outer k a = true →
    find outer (tbl ++ [((k, name), i)]) name a = some (i, k) ∨ ∃ p, find outer (tbl ++ [((k, name), i)]) name a = some p ∧ find outer tbl name a = some p ∧ wth outer k p.2 = true ∧ p.2 ≠ k
  | m, a, hm, h => by
    have h' := h
    rw [wth_eq ho] at h
    rw [find_eq ho, find_eq ho tbl]
    by_cases ha : hasB outer.length a = true
    · rw [if_pos ha] at h
      rw [if_pos ha, if_pos ha, look_append]
      by_cases e : a = k
      · subst e
        left
        rw [hk]
        simp
      · rw [if_neg e] at h
        cases hq : look tbl (a, name) with
        | some j => exact .inr ⟨(j, a), rfl, rfl, h', e⟩
        | none =>
          have : ¬ ((k, name) = (a, name)) := fun x => e (by injection x with x; exact x.symm)
          simp only [this, if_false]
          obtain ⟨_, h0, h1⟩ := outer_at ho ha
          rw [hasB_iff] at ha
          cases m with
          | zero => omega
          | succ m => exact find_within ho hk m _ (by omega) h
    · rw [if_neg ha] at h; cases h
theorem find_und {outer : List Int} (ho : OuterOk outer) {tbl : List ((Int × ByteArray) × Nat)} (hu : ∀ a, look tbl (a, und) = none) : ∀ (m : Nat) (a : Int), a.toNat ≤ m → find outer tbl und a = none
  | m, a, hm => by
    rw [find_eq ho]
    by_cases ha : hasB outer.length a = true
    · rw [if_pos ha, hu]
      obtain ⟨_, h0, h1⟩ := outer_at ho ha
      rw [hasB_iff] at ha
      cases m with
      | zero => omega
      | succ m => exact find_und ho hu m _ (by omega)
    · rw [if_neg ha]
theorem find_pos {outer : List Int} (ho : OuterOk outer) {ins : List Int} {objs : List ObjV} {tbl : List ((Int × ByteArray) × Nat)} (hl : Link ins objs tbl) {name : ByteArray} : ∀ (m : Nat) (a : Int), a.toNat ≤ m → ∀ p, find outer tbl name a = some p → 1 ≤ p.1 ∧ p.1 ≤ objs.length ∧ hasB outer.length p.2 = true
  | m, a, hm, p, hp => by
    rw [find_eq ho] at hp
    by_cases ha : hasB outer.length a = true
    · rw [if_pos ha] at hp
      cases hq : look tbl (a, name) with
      | some i =>
        rw [hq] at hp
        injection hp with hp
        subst hp
        obtain ⟨h1, h2, _⟩ := hl.some_ _ _ _ hq
        exact ⟨h1, h2, ha⟩
      | none =>
        rw [hq] at hp
        obtain ⟨_, h0, h1⟩ := outer_at ho ha
        rw [hasB_iff] at ha
        cases m with
        | zero => omega
        | succ m => exact find_pos ho hl m _ (by omega) p hp
    · rw [if_neg ha] at hp; cases hp

/-! ## Which blocks may be written -/
/-- Blocks that were there and that L doesn't name are as they were. -/
def Fr (L : List Nat) (w w' : World) : Prop := w.heap.size ≤ w'.heap.size ∧ ∀ k, k < w.heap.size → k ∉ L → w'.heap[k]? = w.heap[k]?
/-- L' names blocks of L and new ones. -/
def Nw (w : World) (L L' : List Nat) : Prop := ∀ k ∈ L', k ∈ L ∨ w.heap.size ≤ k
theorem Fr.refl (L : List Nat) (w : World) : Fr L w w := ⟨Nat.le_refl _, fun _ _ _ => rfl⟩
theorem Fr.of_below {w w' : World} (h : Below w.heap.size w w') (L : List Nat) : Fr L w w' := ⟨h.size, fun k hk _ => h.block k hk⟩
theorem Fr.trans {L L' : List Nat} {w w' w'' : World} (h : Fr L w w') (h' : Fr L' w' w'') (hn : Nw w L L') : Fr L w w'' :=
  ⟨Nat.le_trans h.1 h'.1, fun k hk hkl => (h'.2 k (Nat.lt_of_lt_of_le hk h.1) (fun x => by rcases hn k x with y | y; exact hkl y; omega)).trans (h.2 k hk hkl)⟩
theorem Nw.refl (w : World) (L : List Nat) : Nw w L L := fun _ h => .inl h
theorem Nw.trans {L L' L'' : List Nat} {w w' : World} (h : Nw w L L') (hs : w.heap.size ≤ w'.heap.size) (h' : Nw w' L' L'') : Nw w L L'' := fun k hk => by
  rcases h' k hk with x | x
  · exact h k x
  · exact .inr (Nat.le_trans hs x)
theorem Fr.setCell {L : List Nat} {w w' : World} (h : Fr L w w') {p : Addr} (hp : p.block ∈ L ∨ w.heap.size ≤ p.block) (u : Value) : Fr L w (w'.setCell p u) :=
  ⟨by have := h.1; simpa [World.setCell] using this, fun k hk hkl => (Below.heap_setCell _ _ _ _ (fun e => by subst e; rcases hp with x | x; exact hkl x; omega)).trans (h.2 k hk hkl)⟩
theorem Fr.alloc {L : List Nat} {w w' : World} (h : Fr L w w') (o : Obj) : Fr L w (w'.alloc o) :=
  ⟨by have := h.1; simp; omega, fun k hk hkl => (Below.heap_alloc _ _ _ (Nat.lt_of_lt_of_le hk h.1)).trans (h.2 k hk hkl)⟩
theorem Fr.drewN {L : List Nat} {w w' : World} (h : Fr L w w') (q : Nat) : Fr L w (w'.drewN q) := h
theorem Fr.drew {L : List Nat} {w w' : World} (h : Fr L w w') : Fr L w w'.drew := h
theorem Fr.grown {L : List Nat} {w w' w'' : World} {row : Option Nat} (h : Fr L w w') (hg : w'.grownBy w'' row) (hr : ∀ g, row = some g → g ∈ L ∨ w.heap.size ≤ g) : Fr L w w'' :=
  ⟨Nat.le_trans h.1 hg.size, fun k hk hkl => (hg.block k (Nat.lt_of_lt_of_le hk h.1) (fun e => by rcases hr k e.symm with x | x; exact hkl x; omega)).trans (h.2 k hk hkl)⟩
theorem own_fr {w w' : World} {B e s n : Nat} {v : Value} {xs : List Value} (h : w.ownsRow B e s v n xs) (hk : ∀ g, v.ownBlock = some g → w'.heap[g]? = w.heap[g]?) : w'.ownsRow B e s v n xs := by
  refine ⟨h.1, ?_⟩
  rcases h.2 with x | ⟨g, cap, cur, rfl, h1, h2, h3⟩
  · exact .inl x
  · exact .inr ⟨g, cap, cur, rfl, h1, (hk g rfl).trans h2, h3⟩

/-- The blocks of scopes. -/
def fpS (b gm : Nat) (vo vj : Value) : List Nat := b :: gm :: (vo.ownBlock.toList ++ vj.ownBlock.toList)
theorem mem_fpS {b gm k : Nat} {vo vj : Value} : k ∈ fpS b gm vo vj ↔ k = b ∨ k = gm ∨ vo.ownBlock = some k ∨ vj.ownBlock = some k := by simp [fpS]
section
variable {w w' : World} {B b gm : Nat} {vo vj : Value} {outer : List Int} {objs : List ObjV} {tbl : List ((Int × ByteArray) × Nat)}
theorem SC.fp (h : SC w B b gm vo vj outer objs tbl) : ∀ k ∈ fpS b gm vo vj, B ≤ k ∧ k < w.heap.size := by
  intro k hk
  rcases mem_fpS.1 hk with rfl | rfl | x | x
  · exact ⟨h.bb, h.bl.lt⟩
  · exact ⟨h.bm, h.mp.lt⟩
  · exact h.ou.lt _ x
  · exact h.ob.lt _ x
theorem SC.fr {L : List Nat} (h : SC w B b gm vo vj outer objs tbl) (hf : Fr L w w') (hd : ∀ k ∈ fpS b gm vo vj, k ∉ L) : SC w' B b gm vo vj outer objs tbl := by
  have e : ∀ k ∈ fpS b gm vo vj, w'.heap[k]? = w.heap[k]? := fun k hk => hf.2 k (h.fp k hk).2 (hd k hk)
  exact ⟨(e _ (mem_fpS.2 (.inl rfl))).trans h.bl, own_fr h.ou fun g hg => e _ (mem_fpS.2 (.inr (.inr (.inl hg)))), own_fr h.ob fun g hg => e _ (mem_fpS.2 (.inr (.inr (.inr hg)))), h.mp.same (e _ (mem_fpS.2 (.inr (.inl rfl)))), h.bb, h.bm⟩
end

end Go.Proofs.Ytllddgfmjmblmaa
