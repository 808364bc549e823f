/- What Decode does with the lines, as plain mathematics; what stands between two of its rounds; conditions: none. -/
import Derived.Test.YtgnobpljnahceaaDoorFcG
namespace Go.Proofs.YtgnobpljnahceaaDoor
open Go.RowKit Go.WideShapes Go.ChangeShapes Go.Shelf
set_option linter.unusedVariables false
set_option linter.unusedSimpArgs false
set_option maxRecDepth 100000

def isSum (x : Bs) : Bool := Lib.hasPrefix x [115, 117, 109, 32]
def trimL (x : Bs) : Bs := Lib.trimSuffix x [10]
/-- The facts of lines up to the sum; of lines that are all facts. -/
def decList : List Bs → Option (List TD)
  | [] => some []
  | x :: xs => if isSum x then some [] else match toldL (trimL x) with
    | none => none
    | some t => (decList xs).map (t :: ·)
def toldsL : List Bs → Option (List TD)
  | [] => some []
  | x :: xs => if isSum x then none else match toldL (trimL x) with
    | none => none
    | some t => (toldsL xs).map (t :: ·)
def decL (s : Bs) : Option (List TD) := match decList (linesS s) with
  | none => none
  | some l => if okS none l && encL l == s then some l else none
theorem dec_app : ∀ {pre : List Bs} {l : List TD} (rest : List Bs), toldsL pre = some l → decList (pre ++ rest) = (decList rest).map (l ++ ·)
  | [], l, rest, h => by injection h with h; subst h; cases hd : decList rest <;> simp [hd]
  | x :: pre, l, rest, h => by
    unfold toldsL at h
    rw [List.cons_append]
    conv => lhs; unfold decList
    split at h
    · cases h
    · next hs =>
      rw [if_neg hs]
      cases ht : toldL (trimL x) with
      | none => rw [ht] at h; cases h
      | some t =>
        rw [ht] at h
        simp only at h ⊢
        cases hp : toldsL pre with
        | none => rw [hp] at h; cases h
        | some l0 =>
          rw [hp] at h
          injection h with h
          subst h
          rw [dec_app rest hp]
          cases hd : decList rest <;> simp
theorem tolds_snoc : ∀ {pre : List Bs} {l : List TD} {x : Bs} {t : TD}, toldsL pre = some l → isSum x = false → toldL (trimL x) = some t → toldsL (pre ++ [x]) = some (l ++ [t])
  | [], l, x, t, h, h1, h2 => by injection h with h; subst h; show toldsL [x] = _; unfold toldsL; rw [if_neg (by rw [h1]; simp), h2]; rfl
  | y :: pre, l, x, t, h, h1, h2 => by
    rw [List.cons_append]
    unfold toldsL at h ⊢
    split at h
    · cases h
    · next hs =>
      rw [if_neg hs]
      cases ht : toldL (trimL y) with
      | none => rw [ht] at h; cases h
      | some u =>
        rw [ht] at h
        simp only at h ⊢
        cases hp : toldsL pre with
        | none => rw [hp] at h; cases h
        | some l0 =>
          rw [hp] at h
          injection h with h
          subst h
          rw [tolds_snoc hp h1 h2]
          rfl
theorem tolds_len : ∀ {pre : List Bs} {l : List TD}, toldsL pre = some l → l.length = pre.length
  | [], l, h => by injection h with h; subst h; rfl
  | x :: pre, l, h => by
    unfold toldsL at h
    split at h
    · cases h
    · cases ht : toldL (trimL x) with
      | none => rw [ht] at h; cases h
      | some t =>
        rw [ht] at h
        simp only at h
        cases hp : toldsL pre with
        | none => rw [hp] at h; cases h
        | some l0 =>
          rw [hp] at h
          injection h with h
          subst h
          have := tolds_len hp
          simp [this]
/-- How great facts of lines are. -/
theorem piece_key_len {l : Bs} {k : Int} {t : Bs} {n : Nat} (h : piece l = .tok k t n) : t.length ≤ n ∧ n ≤ l.length := by
  cases l with
  | nil => cases h
  | cons b l => have := piece_tok h; exact ⟨this.2.2.1, this.2.1⟩
theorem lex_text : ∀ (n : Nat) (l : Bs) (p : Nat × Nat) (o : Bool) (ts : List Tk), l.length ≤ n → lexS l p o = .ok ts → ∀ t ∈ ts, t.t.length ≤ l.length + 1
  | n, [], p, o, ts, _, h, t, ht => by
    rw [lexS_nil] at h
    injection h with h
    subst h
    cases o <;> simp at ht
    · subst ht; simp
    · rcases ht with rfl | rfl <;> simp [semi]
  | 0, b :: l, _, _, _, hl, _, _, _ => by simp at hl
  | n + 1, b :: l, p, o, ts, hl, h, t, ht => by
    cases hp : piece (b :: l) with
    | bad => rw [lexS_bad _ _ hp] at h; cases h
    | gap k nl =>
      have hk := piece_gap hp
      rw [lexS_gap _ _ hp] at h
      cases hr : lexS ((b :: l).drop k) (adv p ((b :: l).take k)) (o && !nl) with
      | error q' => rw [hr] at h; cases h
      | ok r =>
        rw [hr] at h
        injection h with h
        subst h
        rcases List.mem_append.1 ht with ht | ht
        · split at ht
          · simp at ht; rw [ht]; simp [semi]
          · cases ht
        · have := lex_text n _ _ _ _ (by simp only [List.length_drop, List.length_cons] at *; omega) hr t ht
          rw [List.length_drop] at this
          omega
    | tok k tx j =>
      have hk := piece_tok hp
      rw [lexS_tok _ _ hp] at h
      cases hr : lexS ((b :: l).drop j) (adv p ((b :: l).take j)) (askB k tx) with
      | error q' => rw [hr] at h; cases h
      | ok r =>
        rw [hr] at h
        injection h with h
        subst h
        rcases List.mem_append.1 ht with ht | ht
        · simp at ht
          rw [ht]
          simp only
          omega
        · have := lex_text n _ _ _ _ (by simp only [List.length_drop, List.length_cons] at *; omega) hr t ht
          rw [List.length_drop] at this
          omega
theorem told_len {s : Bs} {t : TD} (h : toldL s = some t) : t.k.length ≤ s.length + 1 ∧ t.s.length ≤ s.length ∧ 2 ≤ s.length := by
  unfold toldL at h
  split at h
  · cases h
  · next h3 =>
    have hj := join_take (splitS s) ((splitS s).length - 2)
    rw [join_split] at hj
    cases hr : lexS (Lib.join ((splitS s).take ((splitS s).length - 2)) [32]) (1, 1) false with
    | error p => rw [hr] at h; cases h
    | ok ts =>
      rw [hr] at h
      cases ts with
      | nil => cases h
      | cons u us =>
        unfold toldR at h
        simp only at h
        split at h
        · injection h with h
          subst h
          have h1 := lex_text _ _ _ _ _ (Nat.le_refl _) hr u (by simp)
          have h2 : ∀ i, ((splitS s).getD i []).length ≤ s.length := fun i => by
            rw [List.getD_eq_getElem?_getD]
            cases hx : (splitS s)[i]? with
            | none => simp
            | some x =>
              have := join_mem (List.mem_of_getElem? hx)
              rw [join_split] at this
              simpa using this
          have h4 : 2 ≤ s.length := by
            have hg : ∀ l : Bs, (splitS l).length ≤ l.length + 1 := fun l => by
              induction l with
              | nil => simp [splitS]
              | cons b l ih =>
                unfold splitS
                split
                · simp; omega
                · split
                  · next hh => rw [hh] at ih; simp at ih ⊢; omega
                  · simp
            have := hg s
            omega
          refine ⟨by simp only; omega, ?_, h4⟩
          simp only
          split
          · simp
          · rw [List.length_map]; exact h2 _
        · cases h
theorem line_le {s : Bs} {t : TD} (h : toldL (trimL s) = some t) : (lineL t).length ≤ 10 * s.length ∧ t.k.length ≤ s.length + 1 ∧ t.s.length ≤ s.length := by
  obtain ⟨h1, h2, h3⟩ := told_len h
  have h4 : (trimL s).length ≤ s.length := by
    unfold trimL Lib.trimSuffix
    split
    · rw [List.length_take]; omega
    · exact Nat.le_refl _
  have h5 := qt_len t.k
  have h6 : (wordL t.n).length ≤ 7 := by unfold wordL; split <;> simp
  have h7 : (bitsL t.s).length ≤ t.s.length + 1 := by unfold bitsL; split <;> simp
  refine ⟨?_, by omega, by omega⟩
  unfold lineL quoteL
  simp only [List.length_append, List.length_cons, List.length_nil]
  omega
theorem decs_le : ∀ {xs : List Bs} {l : List TD}, decList xs = some l → (linesL l).length ≤ 10 * xs.flatten.length ∧ ∀ t ∈ l, t.k.length ≤ xs.flatten.length + 1 ∧ t.s.length ≤ xs.flatten.length
  | [], l, h => by injection h with h; subst h; exact ⟨by simp [linesL], fun t ht => by cases ht⟩
  | x :: xs, l, h => by
    unfold decList at h
    split at h
    · injection h with h; subst h; exact ⟨by simp [linesL], fun t ht => by cases ht⟩
    · cases ht : toldL (trimL x) with
      | none => rw [ht] at h; cases h
      | some t =>
        rw [ht] at h
        simp only at h
        cases hp : decList xs with
        | none => rw [hp] at h; cases h
        | some l0 =>
          rw [hp] at h
          injection h with h
          subst h
          have h1 := line_le ht
          have h2 := decs_le hp
          have e : linesL (t :: l0) = lineL t ++ linesL l0 := rfl
          rw [e, List.flatten_cons, List.length_append, List.length_append]
          refine ⟨by have := h2.1; omega, fun u hu => ?_⟩
          rcases List.mem_cons.1 hu with rfl | hu
          · have := h1.2; omega
          · have := h2.2 u hu; omega
theorem decs_count : ∀ {xs : List Bs} {l : List TD}, decList xs = some l → l.length ≤ xs.length
  | [], l, h => by injection h with h; subst h; simp
  | x :: xs, l, h => by
    unfold decList at h
    split at h
    · injection h with h; subst h; simp
    · cases ht : toldL (trimL x) with
      | none => rw [ht] at h; cases h
      | some t =>
        rw [ht] at h
        simp only at h
        cases hp : decList xs with
        | none => rw [hp] at h; cases h
        | some l0 =>
          rw [hp] at h
          injection h with h
          subst h
          have := decs_count hp
          simp
          omega
/-- A fact with the value of its results; its cells. -/
abbrev PR := TD × Value
def cellsP (p : PR) : List Value := [.string ⟨p.1.k.toArray⟩, .bool p.1.n, p.2]
structure DecI (w : World) (L : List PR) (W : World) : Prop where
  ls : ∃ v, Boxed W (w.heap.size + 2) 22 v ∧ W.ownsRow (w.heap.size + 4) 44 3 v L.length (L.flatMap cellsP)
  bs : ∀ p ∈ L, W.ownsRow (w.heap.size + 4) 4 1 p.2 p.1.s.length (p.1.s.map Value.bool)
  r0 : Boxed W w.heap.size 22 (.slice none 0 0)
  r1 : Boxed W (w.heap.size + 1) 25 (.int .i64 0)
  be : Below w.heap.size w W
  sz : w.heap.size + 4 ≤ W.heap.size
theorem row_fit {w A C : World} {row : Option Nat} (hg : A.grownBy C row) (hr : ∀ r, row = some r → r = w.heap.size + 3 ∨ (w.heap.size + 4 ≤ r ∧ ∃ o : Obj, A.heap[r]? = some o ∧ o.isCells = false)) {e sz n : Nat} {v : Value} {xs : List Value}
    (h : A.ownsRow (w.heap.size + 4) e sz v n xs) : C.ownsRow (w.heap.size + 4) e sz v n xs := by
  refine h.kept hg ?_
  cases ho : v.ownBlock with
  | none => exact .inl rfl
  | some q =>
    refine .inr fun e' => ?_
    have h1 := h.lt q ho
    rcases hr q e'.symm with h2 | ⟨h2, o, h3, h4⟩
    · omega
    · rcases h.2 with ⟨rfl, _⟩ | ⟨g, cap, cur, rfl, _, hgb, _⟩
      · cases ho
      · obtain rfl : g = q := by simpa [Value.ownBlock] using ho
        rw [hgb] at h3
        cases h3
        cases h4
theorem box_fit {w A C : World} {row : Option Nat} (hg : A.grownBy C row) (hr : ∀ r, row = some r → r = w.heap.size + 3 ∨ (w.heap.size + 4 ≤ r ∧ ∃ o : Obj, A.heap[r]? = some o ∧ o.isCells = false)) {b : Nat} {t : TypeId} {v : Value}
    (hb : b < w.heap.size + 3) (h : Boxed A b t v) : Boxed C b t v :=
  h.kept hg (fun e => by rcases hr b e.symm with h2 | ⟨h2, _⟩ <;> omega)
theorem below_fit {w A C : World} {row : Option Nat} (hg : A.grownBy C row) (hr : ∀ r, row = some r → r = w.heap.size + 3 ∨ (w.heap.size + 4 ≤ r ∧ ∃ o : Obj, A.heap[r]? = some o ∧ o.isCells = false)) (h : Below w.heap.size w A) : Below w.heap.size w C :=
  h.grown hg h.size (fun k e => by rcases hr k e with h2 | ⟨h2, _⟩ <;> omega)
theorem DecI.fit {w A C : World} {row : Option Nat} {L : List PR} (h : DecI w L A) (hg : A.grownBy C row) (hr : ∀ r, row = some r → r = w.heap.size + 3 ∨ (w.heap.size + 4 ≤ r ∧ ∃ o : Obj, A.heap[r]? = some o ∧ o.isCells = false)) : DecI w L C := by
  obtain ⟨v, hv, ho⟩ := h.ls
  exact ⟨⟨v, box_fit hg hr (by omega) hv, row_fit hg hr ho⟩, fun p hp => row_fit hg hr (h.bs p hp), box_fit hg hr (by omega) h.r0, box_fit hg hr (by omega) h.r1, below_fit hg hr h.be, Nat.le_trans h.sz hg.size⟩
theorem at_flat {α : Type} {f : α → List Value} {s : Nat} (hs : ∀ x, (f x).length = s) : ∀ (xs : List α) (k : Nat) (x : α), xs[k]? = some x → ∀ (i : Nat) (u : Value), (f x)[i]? = some u → (xs.flatMap f)[k * s + i]? = some u
  | [], k, x, h, i, u, hi => by simp at h
  | y :: xs, 0, x, h, i, u, hi => by
    simp at h; subst h
    have hl : i < s := by have := (List.getElem?_eq_some_iff.1 hi).1; rwa [hs] at this
    rw [List.flatMap_cons, List.getElem?_append_left (by rw [hs]; omega)]
    simpa using hi
  | y :: xs, k + 1, x, h, i, u, hi => by
    rw [List.flatMap_cons, List.getElem?_append_right (by rw [hs, Nat.succ_mul]; omega), hs]
    have e : (k + 1) * s + i - s = k * s + i := by rw [Nat.succ_mul]; omega
    rw [e]
    exact at_flat hs xs k x (by simpa using h) i u hi
theorem flat_at {L : List PR} {i : Nat} {p : PR} (h : L[i]? = some p) (c : Nat) (u : Value) (hu : (cellsP p)[c]? = some u) : (L.flatMap cellsP)[i * 3 + c]? = some u := at_flat (f := cellsP) (s := 3) (fun _ => rfl) L i p h c u hu
theorem DecI.tds {w W : World} {L : List PR} (h : DecI w L W) : ∃ v, Boxed W (w.heap.size + 2) 22 v ∧ W.ownsRow (w.heap.size + 4) 44 3 v L.length (L.flatMap cellsP) ∧ TDs W v (L.map (·.1)) := by
  obtain ⟨v, hv, ho⟩ := h.ls
  refine ⟨v, hv, ho, ?_⟩
  rcases Nat.eq_zero_or_pos L.length with h0 | h0
  · have hn : L = [] := List.eq_nil_of_length_eq_zero h0
    subst hn
    obtain ⟨A, c, rfl⟩ := own_formT ho
    exact ⟨A, c, rfl, fun i t hi => by simp at hi⟩
  · obtain ⟨g, cap, rfl, hg, hgl, _, _, hcl⟩ := own_at ho h0
    refine ⟨_, cap, by rw [List.length_map], fun i t hi => ?_⟩
    rw [List.getElem?_map] at hi
    cases hp : L[i]? with
    | none => rw [hp] at hi; cases hi
    | some p =>
      rw [hp] at hi
      injection hi with hi
      subst hi
      have hb := h.bs p (List.mem_of_getElem? hp)
      refine ⟨g, 0, p.2, rfl, hgl, ?_, ?_, ?_, ?_⟩
      · rw [Nat.zero_add]; exact hcl _ _ (flat_at hp 0 _ rfl)
      · rw [Nat.zero_add]; exact hcl _ _ (flat_at hp 1 _ rfl)
      · rw [Nat.zero_add]; exact hcl _ _ (flat_at hp 2 _ rfl)
      · rcases Nat.eq_zero_or_pos p.1.s.length with h1 | h1
        · obtain ⟨A2, c2, h2⟩ := own_formT hb
          exact ⟨A2, c2, h2, fun j b hj => absurd (List.getElem?_eq_some_iff.1 hj).1 (by simp only; omega)⟩
        · obtain ⟨g2, cap2, h2, hg2, hgl2, _, _, hcl2⟩ := own_at hb h1
          exact ⟨_, cap2, h2, fun j b hj => ⟨g2, 0, rfl, hgl2, by rw [Nat.zero_add]; exact hcl2 j _ (by rw [List.getElem?_map, hj]; rfl)⟩⟩
end Go.Proofs.YtgnobpljnahceaaDoor
