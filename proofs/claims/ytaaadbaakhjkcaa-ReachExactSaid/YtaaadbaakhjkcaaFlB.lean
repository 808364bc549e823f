/- Ways through code, as mathematics; rows from which the last one is cut off; no conditions. -/
import Derived.Test.YtaaadbaakhjkcaaFlA
namespace Go.Proofs.Ytaaadbaakhjkcaa
open Go.RowKit Go.WideShapes Go.ChangeShapes
set_option linter.unusedVariables false
set_option linter.unusedSimpArgs false
set_option maxRecDepth 100000

/-- Code goes on from one instruction to another one. -/
def Edge (code : List IV) (q y : Nat) : Prop := ∃ x, code[q]? = some x ∧ (y : Int) ∈ nextI x.i (q : Int)
inductive Rch (code : List IV) (a : Nat) : Nat → Prop
  | refl : Rch code a a
  | step {q y : Nat} : Rch code a q → Edge code q y → Rch code a y
/-- How many aren't seen. -/
def cntU : Nat → (Nat → Bool) → Nat
  | 0, _ => 0
  | n + 1, f => cntU n f + (if f n = true then 0 else 1)
theorem cntU_congr {f f' : Nat → Bool} : ∀ n, (∀ q, q < n → f q = f' q) → cntU n f = cntU n f'
  | 0, _ => rfl
  | n + 1, h => by
    unfold cntU
    rw [cntU_congr n (fun q hq => h q (by omega)), h n (by omega)]
theorem cntU_set {f : Nat → Bool} {y : Nat} (hf : f y = false) : ∀ n, y < n → cntU n (fun q => f q || q == y) + 1 = cntU n f
  | 0, h => by omega
  | n + 1, h => by
    unfold cntU
    by_cases e : y = n
    · subst e
      have hq : ∀ q, q < y → (f q || q == y) = f q := fun q hq => by
        have h2 : (q == y) = false := by simp; omega
        rw [h2, Bool.or_false]
      rw [cntU_congr y hq]
      simp [hf]
    · have ih := cntU_set hf n (by omega)
      have hb : (n == y) = false := by simp; omega
      simp only [hb, Bool.or_false]
      omega
theorem cntU_start {n a : Nat} (h : a < n) : cntU n (fun q => q == a) + 1 = n := by
  have h1 := cntU_set (f := fun _ => false) (y := a) rfl n h
  have h2 : ∀ m, cntU m (fun _ => false) = m := fun m => by
    induction m with
    | zero => rfl
    | succ m ih => unfold cntU; rw [ih]; simp
  rw [h2] at h1
  simpa using h1
/-- What is seen of the ways from a, and of whom the next ones are still to be looked at. -/
structure CS (code : List IV) (n a : Nat) (f : Nat → Bool) (st : List Nat) : Prop where
  sound : ∀ q, q < n → f q = true → Rch code a q
  start : f a = true
  stk : ∀ q ∈ st, q < n ∧ f q = true
  closed : ∀ q, q < n → f q = true → q ∈ st ∨ ∀ y, Edge code q y → f y = true
  cnt : st.length + cntU n f ≤ n
/-- In the midst of looking at the next ones of pc. -/
structure CM (code : List IV) (n a M pc : Nat) (L : List Int) (t : Nat) (f : Nat → Bool) (st : List Nat) : Prop where
  sound : ∀ q, q < n → f q = true → Rch code a q
  start : f a = true
  stk : ∀ q ∈ st, q < n ∧ f q = true
  closed : ∀ q, q < n → f q = true → q ∈ st ∨ q = pc ∨ ∀ y, Edge code q y → f y = true
  cnt : st.length + cntU n f ≤ n
  less : st.length + 2 * cntU n f < M
  seen : ∀ y : Nat, (y : Int) ∈ L.take t → f y = true
section
variable {code : List IV} {n a : Nat} {f : Nat → Bool} {st : List Nat}
theorem CS.first {m : Nat} (h : a < m) : CS code m a (fun q => q == a) [a] :=
  ⟨fun q _ hq => by rw [show q = a by simpa using hq]; exact .refl, by simp, fun q hq => by rw [List.mem_singleton.1 hq]; exact ⟨h, by simp⟩, fun q _ hq => .inl (by simpa using hq), by have := cntU_start h; simp; omega⟩
theorem CS.pop {pc : Nat} (h : CS code n a f (st ++ [pc])) (L : List Int) : CM code n a ((st ++ [pc]).length + 2 * cntU n f) pc L 0 f st :=
  ⟨h.sound, h.start, fun q hq => h.stk q (List.mem_append_left _ hq), fun q hq hf => by
    rcases h.closed q hq hf with h1 | h1
    · rcases List.mem_append.1 h1 with h1 | h1
      · exact .inl h1
      · exact .inr (.inl (List.mem_singleton.1 h1))
    · exact .inr (.inr h1), by have := h.cnt; rw [List.length_append] at this; omega, by rw [List.length_append]; simp, fun y hy => by simp at hy⟩
variable {M pc t : Nat} {L : List Int}
theorem CM.skip (h : CM code n a M pc L t f st) {y : Nat} (hy : L[t]? = some (y : Int)) (hf : f y = true) : CM code n a M pc L (t + 1) f st :=
  ⟨h.sound, h.start, h.stk, h.closed, h.cnt, h.less, fun z hz => by
    rw [List.take_add_one, hy] at hz
    rcases List.mem_append.1 hz with hz | hz
    · exact h.seen z hz
    · have : (z : Int) = (y : Int) := by simpa using hz
      rw [show z = y by omega]
      exact hf⟩
theorem CM.push (h : CM code n a M pc L t f st) {y : Nat} (hy : L[t]? = some (y : Int)) (hf : f y = false) (hyn : y < n) (hr : Rch code a pc) (he : Edge code pc y) : CM code n a M pc L (t + 1) (fun q => f q || q == y) (st ++ [y]) := by
  have hc := cntU_set hf n hyn
  have h1 := h.cnt
  have h2 := h.less
  refine ⟨fun q hq hfq => ?_, by simp [h.start], fun q hq => ?_, fun q hq hfq => ?_, by rw [List.length_append]; simp; omega, by rw [List.length_append]; simp; omega, fun z hz => ?_⟩
  · by_cases e : q = y
    · rw [e]; exact .step hr he
    · exact h.sound q hq (by simpa [e] using hfq)
  · rcases List.mem_append.1 hq with hq | hq
    · have := h.stk q hq
      exact ⟨this.1, by simp [this.2]⟩
    · rw [List.mem_singleton.1 hq]
      exact ⟨hyn, by simp⟩
  · by_cases e : q = y
    · exact .inl (by rw [e]; simp)
    · rcases h.closed q hq (by simpa [e] using hfq) with h3 | h3 | h3
      · exact .inl (List.mem_append_left _ h3)
      · exact .inr (.inl h3)
      · exact .inr (.inr fun z hz => by simp [h3 z hz])
  · rw [List.take_add_one, hy] at hz
    rcases List.mem_append.1 hz with hz | hz
    · simp [h.seen z hz]
    · have : (z : Int) = (y : Int) := by simpa using hz
      rw [show z = y by omega]
      simp
theorem CM.done (h : CM code n a M pc L t f st) (ht : L.length ≤ t) (hL : ∀ y, Edge code pc y → (y : Int) ∈ L) : CS code n a f st :=
  ⟨h.sound, h.start, h.stk, fun q hq hf => by
    rcases h.closed q hq hf with h1 | h1 | h1
    · exact .inl h1
    · refine .inr fun y hy => h.seen y ?_
      rw [List.take_of_length_le ht]
      rw [h1] at hy
      exact hL y hy
    · exact .inr h1, h.cnt⟩
theorem CS.final (h : CS code n a f []) (ha : a < n) (hin : ∀ q y, Edge code q y → y < n) {q : Nat} (hq : q < n) : f q = true ↔ Rch code a q := by
  refine ⟨h.sound q hq, fun hr => ?_⟩
  clear hq
  have : q < n ∧ f q = true := by
    induction hr with
    | refl => exact ⟨ha, h.start⟩
    | step _ he ih =>
      rcases h.closed _ ih.1 ih.2 with h1 | h1
      · cases h1
      · exact ⟨hin _ _ he, h1 _ he⟩
  exact this.2
end
theorem own_some {w : World} {B e s n c : Nat} {A : Option Addr} {xs : List Value} (h : w.ownsRow B e s (.slice A n c) n xs) (hn : 0 < n) : ∃ g, A = some ⟨g, 0, none⟩ ∧ n ≤ c ∧ B ≤ g ∧ ∃ cur, Blk w g e cur := by
  rcases h.2 with ⟨h1, _⟩ | ⟨g, cap, cur, hv, hB, hg, hnc, _⟩
  · injection h1 with _ h2
    omega
  · injection hv with h1 h2 h3
    subst h1 h3
    exact ⟨g, rfl, hnc, hB, cur, hg⟩
theorem own_cut {w : World} {B e n c g : Nat} {xs : List Value} {x : Value} (h : w.ownsRow B e 1 (.slice (some ⟨g, 0, none⟩) (n + 1) c) (n + 1) (xs ++ [x])) : w.ownsRow B e 1 (.slice (some ⟨g, 0, none⟩) n c) n xs := by
  have hl : xs.length = n := by
    have := h.1
    simp at this
    exact this
  rcases h.2 with ⟨h1, _⟩ | ⟨g', cap, cur, hv, hB, hg, hnc, hm, hs, ht⟩
  · cases h1
  · injection hv with h1 h2 h3
    injection h1 with h1
    injection h1 with h1
    subst h1 h3
    refine ⟨by simp [hl], .inr ⟨g, c, cur, rfl, hB, hg, by omega, hm, hs, ?_⟩⟩
    have h4 := congrArg (List.take (n * 1)) ht
    rw [List.take_take] at h4
    rw [show min (n * 1) ((n + 1) * 1) = n * 1 by omega] at h4
    rw [h4, List.take_append_of_le_length (by omega), List.take_of_length_le (by omega)]
end Go.Proofs.Ytaaadbaakhjkcaa
