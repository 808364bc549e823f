/- Plain mathematics of decimal digits, the lowest first; no conditions. -/
import Derived.Test.YtgleldpdelhhhaaDoorWMath
namespace Go.Proofs.YtgleldpdelhhhaaDoor
set_option linter.unusedVariables false

/-- The number of a row of digits. -/
def dval : List Nat → Nat
  | [] => 0
  | d :: ds => d + 10 * dval ds
def DOk (l : List Nat) : Prop := ∀ d ∈ l, d < 10
def dgsF : Nat → Nat → List Nat
  | 0, _ => []
  | f + 1, n => if n = 0 then [] else n % 10 :: dgsF f (n / 10)
/-- A number's digits, without zeros at the end. -/
def dgs (n : Nat) : List Nat := dgsF n n

theorem dgsF_more : ∀ (f g n : Nat), n ≤ f → n ≤ g → dgsF f n = dgsF g n
  | 0, 0, n, _, _ => rfl
  | 0, g + 1, n, h, _ => by
    have : n = 0 := by omega
    subst this
    rfl
  | f + 1, 0, n, _, h => by
    have : n = 0 := by omega
    subst this
    rfl
  | f + 1, g + 1, n, hf, hg => by
    unfold dgsF
    by_cases h : n = 0
    · rw [if_pos h, if_pos h]
    · rw [if_neg h, if_neg h, dgsF_more f g (n / 10) (by omega) (by omega)]
theorem dgs_zero : dgs 0 = [] := rfl
theorem dgs_pos {n : Nat} (h : n ≠ 0) : dgs n = n % 10 :: dgs (n / 10) := by
  unfold dgs
  cases n with
  | zero => exact absurd rfl h
  | succ m =>
    rw [dgsF, if_neg h, dgsF_more m ((m + 1) / 10) _ (by omega) (by omega)]

theorem dval_append : ∀ (a b : List Nat), dval (a ++ b) = dval a + 10 ^ a.length * dval b
  | [], b => by simp [dval]
  | d :: a, b => by
    rw [List.cons_append, dval, dval, dval_append a b, List.length_cons, Nat.pow_succ, Nat.mul_add, Nat.add_assoc]
    congr 2
    rw [← Nat.mul_assoc, Nat.mul_comm 10]
theorem DOk.tail {d : Nat} {l : List Nat} (h : DOk (d :: l)) : DOk l := fun x hx => h x (List.mem_cons_of_mem _ hx)
theorem DOk.head {d : Nat} {l : List Nat} (h : DOk (d :: l)) : d < 10 := h d (List.mem_cons_self ..)
theorem DOk.take {l : List Nat} (h : DOk l) (k : Nat) : DOk (l.take k) := fun x hx => h x (List.mem_of_mem_take hx)
theorem DOk.drop {l : List Nat} (h : DOk l) (k : Nat) : DOk (l.drop k) := fun x hx => h x (List.mem_of_mem_drop hx)
theorem DOk.push {l : List Nat} (h : DOk l) {d : Nat} (hd : d < 10) : DOk (l ++ [d]) := fun x hx => by
  rcases List.mem_append.1 hx with h1 | h1
  · exact h x h1
  · rw [List.mem_singleton.1 h1]; exact hd
theorem DOk.nil : DOk [] := fun x hx => by cases hx
theorem DOk.getD {l : List Nat} (h : DOk l) (i : Nat) : l.getD i 0 < 10 := by
  rw [List.getD_eq_getElem?_getD]
  cases hi : l[i]? with
  | none => simp
  | some d => exact h d (List.mem_of_getElem? hi)
theorem dval_lt : ∀ {l : List Nat}, DOk l → dval l < 10 ^ l.length
  | [], _ => by simp [dval]
  | d :: l, h => by
    have h1 := dval_lt h.tail
    have h2 := h.head
    rw [dval, List.length_cons, Nat.pow_succ]
    omega
theorem take_getD (l : List Nat) (i : Nat) (h : i < l.length) : l.take (i + 1) = l.take i ++ [l.getD i 0] := by
  rw [List.take_succ_eq_append_getElem h, List.getD_eq_getElem?_getD, List.getElem?_eq_getElem h]
  rfl
theorem dval_take (l : List Nat) (i : Nat) : dval (l.take (i + 1)) = dval (l.take i) + l.getD i 0 * 10 ^ i := by
  by_cases h : i < l.length
  · rw [take_getD l i h, dval_append, List.length_take, Nat.min_eq_left (by omega)]
    simp only [dval]
    rw [Nat.mul_comm]
    simp
  · rw [List.take_of_length_le (by omega), List.take_of_length_le (by omega), List.getD_eq_getElem?_getD, List.getElem?_eq_none (by omega)]
    simp
theorem dval_drop (l : List Nat) (i : Nat) : dval (l.drop i) = l.getD i 0 + 10 * dval (l.drop (i + 1)) := by
  by_cases h : i < l.length
  · rw [List.drop_eq_getElem_cons h, dval, List.getD_eq_getElem?_getD, List.getElem?_eq_getElem h]
    rfl
  · rw [List.drop_of_length_le (by omega), List.drop_of_length_le (by omega), List.getD_eq_getElem?_getD, List.getElem?_eq_none (by omega)]
    rfl
theorem dval_split (l : List Nat) (i : Nat) (h : i ≤ l.length) : dval l = dval (l.take i) + 10 ^ i * dval (l.drop i) := by
  have := dval_append (l.take i) (l.drop i)
  rw [List.take_append_drop, List.length_take, Nat.min_eq_left h] at this
  exact this
theorem dval_all (l : List Nat) (i : Nat) (h : l.length ≤ i) : dval (l.take i) = dval l := by rw [List.take_of_length_le h]
theorem dval_over (l : List Nat) (i : Nat) (h : l.length ≤ i) : dval (l.drop i) = 0 := by rw [List.drop_of_length_le h]; rfl
theorem dval_split' (l : List Nat) (i : Nat) : dval l = dval (l.take i) + 10 ^ i * dval (l.drop i) := by
  by_cases h : i ≤ l.length
  · exact dval_split l i h
  · rw [dval_all l i (by omega), dval_over l i (by omega)]; simp
theorem dval_take_lt {l : List Nat} (h : DOk l) (i : Nat) : dval (l.take i) < 10 ^ i := by
  have h1 := dval_lt (h.take i)
  have h2 : (l.take i).length ≤ i := by rw [List.length_take]; omega
  exact Nat.lt_of_lt_of_le h1 (Nat.pow_le_pow_right (by omega) h2)

theorem dgs_ok : ∀ (f n : Nat), n ≤ f → DOk (dgs n)
  | 0, n, h => by
    have : n = 0 := by omega
    subst this
    exact DOk.nil
  | f + 1, n, h => by
    by_cases h0 : n = 0
    · subst h0; exact DOk.nil
    · rw [dgs_pos h0]
      intro d hd
      rcases List.mem_cons.1 hd with rfl | h1
      · omega
      · exact dgs_ok f (n / 10) (by omega) d h1
theorem dgs_dok (n : Nat) : DOk (dgs n) := dgs_ok n n (Nat.le_refl _)
theorem dgs_valF : ∀ (f n : Nat), n ≤ f → dval (dgs n) = n
  | 0, n, h => by
    have : n = 0 := by omega
    subst this
    rfl
  | f + 1, n, h => by
    by_cases h0 : n = 0
    · subst h0; rfl
    · rw [dgs_pos h0, dval, dgs_valF f (n / 10) (by omega)]
      omega
theorem dgs_val (n : Nat) : dval (dgs n) = n := dgs_valF n n (Nat.le_refl _)
theorem dgs_nil {n : Nat} : dgs n = [] ↔ n = 0 := by
  constructor
  · intro h
    have := dgs_val n
    rw [h] at this
    exact this.symm
  · rintro rfl; rfl
/-- Digits without zeros at the end are those of their number. -/
def Canon (l : List Nat) : Prop := l = [] ∨ l.getD (l.length - 1) 0 ≠ 0
theorem dgs_canon_pos : ∀ (l : List Nat), l ≠ [] → l.getD (l.length - 1) 0 ≠ 0 → dval l ≠ 0
  | [], h, _ => absurd rfl h
  | [d], _, h => by simp [dval] at h ⊢; exact h
  | d :: e :: l, _, h => by
    have := dgs_canon_pos (e :: l) (by simp) (by simpa using h)
    rw [dval]
    omega
theorem dgs_of_canon : ∀ (l : List Nat), DOk l → Canon l → l = dgs (dval l)
  | [], _, _ => rfl
  | [d], h, hc => by
    rcases hc with hc | hc
    · cases hc
    · have h1 := h.head
      have h2 : d ≠ 0 := by simpa using hc
      rw [dval, dval, Nat.mul_zero, Nat.add_zero, dgs_pos h2, Nat.mod_eq_of_lt h1, Nat.div_eq_of_lt h1]
      rfl
  | d :: e :: l, h, hc => by
    have hc2 : (e :: l).getD ((e :: l).length - 1) 0 ≠ 0 := by
      rcases hc with hc | hc
      · cases hc
      · simpa using hc
    have h3 := dgs_of_canon (e :: l) h.tail (.inr hc2)
    have h4 := dgs_canon_pos (e :: l) (by simp) hc2
    have h1 := h.head
    have e1 : dval (d :: e :: l) = d + 10 * dval (e :: l) := rfl
    rw [e1, dgs_pos (by omega), show (d + 10 * dval (e :: l)) % 10 = d by omega, show (d + 10 * dval (e :: l)) / 10 = dval (e :: l) by omega, ← h3]
theorem getD_zeros {l : List Nat} {k : Nat} (h : ∀ j, k ≤ j → l.getD j 0 = 0) : ∀ (m : Nat), dval (l.take (k + m)) = dval (l.take k)
  | 0 => rfl
  | m + 1 => by rw [← Nat.add_assoc, dval_take, h (k + m) (by omega), Nat.zero_mul, Nat.add_zero, getD_zeros h m]
/-- What is left of digits whose zeros at the end are cut off. -/
theorem cut_dgs {l : List Nat} (hl : DOk l) (k : Nat) (hk : k ≤ l.length) (hz : ∀ j, k ≤ j → l.getD j 0 = 0) (hn : k = 0 ∨ l.getD (k - 1) 0 ≠ 0) : l.take k = dgs (dval l) := by
  have h1 : dval l = dval (l.take k) := by
    have := getD_zeros hz (l.length - k)
    rw [show k + (l.length - k) = l.length by omega, List.take_length] at this
    exact this
  rw [h1]
  refine dgs_of_canon _ (hl.take k) ?_
  rcases hn with rfl | hn
  · exact .inl (by simp)
  · by_cases h0 : k = 0
    · subst h0; exact .inl (by simp)
    · refine .inr ?_
      rw [List.length_take, Nat.min_eq_left hk]
      simp only [List.getD_eq_getElem?_getD] at hn ⊢
      rw [List.getElem?_take_of_lt (by omega)]
      exact hn
theorem dgs_len (n k : Nat) (h : n < 10 ^ k) : (dgs n).length ≤ k := by
  induction k generalizing n with
  | zero =>
    have : n = 0 := by simpa using h
    subst this
    simp [dgs_zero]
  | succ k ih =>
    by_cases h0 : n = 0
    · subst h0; simp [dgs_zero]
    · rw [dgs_pos h0, List.length_cons]
      have := ih (n / 10) (by rw [Nat.pow_succ] at h; omega)
      omega
theorem canon_dgs (n : Nat) (h : n ≠ 0) : (dgs n).getD ((dgs n).length - 1) 0 ≠ 0 := by
  intro hz
  have hl : dgs n ≠ [] := fun e => h (dgs_nil.1 e)
  have hlen : 0 < (dgs n).length := List.length_pos_iff.2 hl
  have h1 : dgs n = (dgs n).take ((dgs n).length - 1) ++ [(dgs n).getD ((dgs n).length - 1) 0] := by
    have := take_getD (dgs n) ((dgs n).length - 1) (by omega)
    rw [show (dgs n).length - 1 + 1 = (dgs n).length by omega, List.take_length] at this
    exact this
  have hpos : 10 ^ ((dgs n).length - 1) ≤ n := by
    clear hz h1
    generalize hk : (dgs n).length - 1 = k
    induction k generalizing n with
    | zero => simp; omega
    | succ k ih =>
      rw [dgs_pos h] at hk hlen
      simp only [List.length_cons] at hk
      have h2 : n / 10 ≠ 0 := by
        intro e
        rw [e, dgs_zero] at hk
        simp at hk
      have h3 : dgs (n / 10) ≠ [] := fun e => h2 (dgs_nil.1 e)
      have := ih (n / 10) h2 h3 (List.length_pos_iff.2 h3) (by omega)
      rw [Nat.pow_succ]
      omega
  have h2 := dgs_val n
  rw [h1, hz, dval_append] at h2
  simp only [dval] at h2
  have h3 := dval_lt ((dgs_dok n).take ((dgs n).length - 1))
  rw [List.length_take, Nat.min_eq_left (by omega)] at h3
  omega

/-- -1, 0, 1, as a number is less, the same, more. -/
def ordN (a b : Nat) : Int := if a < b then -1 else if a = b then 0 else 1
theorem less_at {a b : List Nat} (ha : DOk a) (hb : DOk b) (i : Nat) (h : dval (a.drop (i + 1)) = dval (b.drop (i + 1))) (hlt : a.getD i 0 < b.getD i 0) : dval a < dval b := by
  have h1 := dval_split' a i
  have h2 := dval_split' b i
  have h3 := dval_drop a i
  have h4 := dval_drop b i
  have h5 := dval_take_lt ha i
  have h7 : 10 ^ i * (dval (a.drop i) + 1) ≤ 10 ^ i * dval (b.drop i) := Nat.mul_le_mul_left _ (by omega)
  rw [Nat.mul_add] at h7
  omega
/-- The digit at a place; 0 behind the last one. -/
def dg (l : List Nat) (i : Nat) : Nat := l.getD i 0
theorem dg_over {l : List Nat} {i : Nat} (h : l.length ≤ i) : dg l i = 0 := by
  unfold dg
  rw [List.getD_eq_getElem?_getD, List.getElem?_eq_none h]
  rfl
theorem dg_get {l : List Nat} {i : Nat} (h : i < l.length) : l[i]? = some (dg l i) := by
  unfold dg
  rw [List.getD_eq_getElem?_getD, List.getElem?_eq_getElem h]
  rfl
theorem DOk.dg {l : List Nat} (h : DOk l) (i : Nat) : dg l i < 10 := h.getD i
theorem dg_take (l : List Nat) (i : Nat) : dval (l.take (i + 1)) = dval (l.take i) + dg l i * 10 ^ i := dval_take l i
theorem dg_drop (l : List Nat) (i : Nat) : dval (l.drop i) = dg l i + 10 * dval (l.drop (i + 1)) := dval_drop l i
theorem dg_less {a b : List Nat} (ha : DOk a) (hb : DOk b) (i : Nat) (h : dval (a.drop (i + 1)) = dval (b.drop (i + 1))) (hlt : dg a i < dg b i) : dval a < dval b := less_at ha hb i h hlt
theorem dg_cut {l : List Nat} (hl : DOk l) (k : Nat) (hk : k ≤ l.length) (hz : ∀ j, k ≤ j → dg l j = 0) (hn : k = 0 ∨ dg l (k - 1) ≠ 0) : l.take k = dgs (dval l) := cut_dgs hl k hk hz hn
theorem dg_canon (n : Nat) (h : n ≠ 0) : dg (dgs n) ((dgs n).length - 1) ≠ 0 := canon_dgs n h
end Go.Proofs.YtgleldpdelhhhaaDoor
