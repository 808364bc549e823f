/- Where a file's tokens stand, as plain mathematics; conditions: none. -/
import Derived.Test.YtgnobpljnahceaaDoorSnN
namespace Go.Proofs.YtgnobpljnahceaaDoor
open Go.RowKit Go.WideShapes Go.ChangeShapes
set_option linter.unusedVariables false
set_option linter.unusedSimpArgs false

def leP (a b : Nat × Nat) : Prop := a.1 < b.1 ∨ (a.1 = b.1 ∧ a.2 ≤ b.2)
theorem leP_refl (a : Nat × Nat) : leP a a := .inr ⟨rfl, Nat.le_refl _⟩
theorem leP_trans {a b c : Nat × Nat} (h : leP a b) (k : leP b c) : leP a c := by unfold leP at *; omega
theorem leP_adv1 (p : Nat × Nat) (b : UInt8) : leP p (adv1 p b) := by unfold leP adv1; split <;> simp
theorem leP_adv : ∀ (l : Bs) (p : Nat × Nat), leP p (adv p l)
  | [], p => leP_refl p
  | b :: l, p => leP_trans (leP_adv1 p b) (leP_adv l (adv1 p b))
theorem adv_line : ∀ (l : Bs) (p : Nat × Nat), (adv p l).1 = p.1 + l.count 10
  | [], p => rfl
  | b :: l, p => by
    rw [adv_cons, adv_line l, List.count_cons]
    unfold adv1
    by_cases h : b = 10
    · subst h; simp; omega
    · simp [h]
theorem adv_col : ∀ (l : Bs) (p : Nat × Nat), 1 ≤ p.2 → 1 ≤ (adv p l).2 ∧ (adv p l).2 ≤ p.2 + l.length
  | [], p, h => ⟨h, Nat.le_refl _⟩
  | b :: l, p, h => by
    rw [adv_cons]
    have := adv_col l (adv1 p b) (by unfold adv1; split <;> simp)
    have h2 : (adv1 p b).2 ≤ p.2 + 1 := by unfold adv1; split <;> simp
    simp only [List.length_cons]
    omega
/-- A place of a list of bytes, reckoned from one. -/
def OnL (l : Bs) (p q : Nat × Nat) : Prop := ∃ i, i ≤ l.length ∧ q = adv p (l.take i)
theorem OnL.le {l : Bs} {p q : Nat × Nat} (h : OnL l p q) : leP p q := by
  obtain ⟨i, _, rfl⟩ := h
  exact leP_adv _ _
theorem OnL.here (l : Bs) (p : Nat × Nat) : OnL l p p := ⟨0, Nat.zero_le _, rfl⟩
theorem OnL.step {l : Bs} {p q : Nat × Nat} {n : Nat} (hn : n ≤ l.length) (h : OnL (l.drop n) (adv p (l.take n)) q) : OnL l p q := by
  obtain ⟨i, hi, rfl⟩ := h
  rw [List.length_drop] at hi
  refine ⟨n + i, by omega, ?_⟩
  rw [← adv_append, List.take_add]
theorem OnL.bounds {l : Bs} {q : Nat × Nat} (h : OnL l (1, 1) q) : 1 ≤ q.1 ∧ q.1 ≤ 1 + l.count 10 ∧ 1 ≤ q.2 ∧ q.2 ≤ l.length + 1 := by
  obtain ⟨i, hi, rfl⟩ := h
  have h1 := adv_line (l.take i) (1, 1)
  have h2 := adv_col (l.take i) (1, 1) (Nat.le_refl _)
  have h3 : (l.take i).count 10 ≤ l.count 10 := (List.take_sublist i l).count_le 10
  rw [List.length_take] at h2
  simp only at h1 h2
  omega
theorem lex_err : ∀ (n : Nat) (l : Bs) (p q : Nat × Nat) (o : Bool), l.length ≤ n → lexS l p o = .error q → OnL l p q
  | 0, [], p, q, o, _, h => by rw [lexS_nil] at h; cases h
  | 0, b :: l, _, _, _, hl, _ => by simp at hl
  | n + 1, [], p, q, o, _, h => by rw [lexS_nil] at h; cases h
  | n + 1, b :: l, p, q, o, hl, h => by
    cases hp : piece (b :: l) with
    | bad => rw [lexS_bad _ _ hp] at h; cases h; exact OnL.here _ _
    | gap k nl =>
      have hk := piece_gap hp
      rw [lexS_gap _ _ hp] at h
      cases hr : lexS ((b :: l).drop k) (adv p ((b :: l).take k)) (o && !nl) with
      | ok r => rw [hr] at h; cases h
      | error q' =>
        rw [hr] at h
        cases h
        exact (lex_err n _ _ _ _ (by simp only [List.length_drop, List.length_cons] at *; omega) hr).step hk.2
    | tok k t j =>
      have hk := piece_tok hp
      rw [lexS_tok _ _ hp] at h
      cases hr : lexS ((b :: l).drop j) (adv p ((b :: l).take j)) (askB k t) with
      | ok r => rw [hr] at h; cases h
      | error q' =>
        rw [hr] at h
        cases h
        exact (lex_err n _ _ _ _ (by simp only [List.length_drop, List.length_cons] at *; omega) hr).step hk.2.1
/-- The tokens of bytes stand in order, each at a place of theirs; the last is the end. -/
def Stand (l : Bs) (p : Nat × Nat) (ts : List Tk) : Prop := ts.Pairwise (fun a b => leP a.p b.p) ∧ (∀ t ∈ ts, OnL l p t.p) ∧ ∃ r q, ts = r ++ [⟨1, [], q⟩]
theorem Stand.step {l : Bs} {p : Nat × Nat} {n : Nat} {ts : List Tk} (hn : n ≤ l.length) (h : Stand (l.drop n) (adv p (l.take n)) ts) : Stand l p ts :=
  ⟨h.1, fun t ht => (h.2.1 t ht).step hn, h.2.2⟩
theorem Stand.cons {l : Bs} {p : Nat × Nat} {ts : List Tk} (h : Stand l p ts) (t : Tk) (ht : t.p = p) : Stand l p (t :: ts) := by
  refine ⟨List.Pairwise.cons (fun u hu => by rw [ht]; exact (h.2.1 u hu).le) h.1, fun u hu => ?_, ?_⟩
  · rcases List.mem_cons.1 hu with rfl | hu
    · rw [ht]; exact OnL.here _ _
    · exact h.2.1 u hu
  · obtain ⟨r, q, rfl⟩ := h.2.2
    exact ⟨t :: r, q, rfl⟩
theorem stand_end (l : Bs) (p : Nat × Nat) (o : Bool) : Stand l p ((if o then [semi p] else []) ++ [⟨1, [], p⟩]) := by
  have h : Stand l p [⟨1, [], p⟩] := ⟨by simp, fun t ht => by simp at ht; subst ht; exact OnL.here _ _, [], p, rfl⟩
  cases o with
  | false => exact h
  | true => exact h.cons (semi p) rfl
theorem lex_stand : ∀ (n : Nat) (l : Bs) (p : Nat × Nat) (o : Bool) (ts : List Tk), l.length ≤ n → lexS l p o = .ok ts → Stand l p ts
  | 0, [], p, o, ts, _, h => by rw [lexS_nil] at h; cases h; exact stand_end _ _ _
  | 0, b :: l, _, _, _, hl, _ => by simp at hl
  | n + 1, [], p, o, ts, _, h => by rw [lexS_nil] at h; cases h; exact stand_end _ _ _
  | n + 1, b :: l, p, o, ts, hl, h => by
    cases hp : piece (b :: l) with
    | bad => rw [lexS_bad _ _ hp] at h; cases h
    | gap k nl =>
      have hk := piece_gap hp
      rw [lexS_gap _ _ hp] at h
      cases hr : lexS ((b :: l).drop k) (adv p ((b :: l).take k)) (o && !nl) with
      | error q' => rw [hr] at h; cases h
      | ok r =>
        rw [hr] at h
        cases h
        have := (lex_stand n _ _ _ _ (by simp only [List.length_drop, List.length_cons] at *; omega) hr).step hk.2
        split
        · exact this.cons (semi p) rfl
        · exact this
    | tok k t j =>
      have hk := piece_tok hp
      rw [lexS_tok _ _ hp] at h
      cases hr : lexS ((b :: l).drop j) (adv p ((b :: l).take j)) (askB k t) with
      | error q' => rw [hr] at h; cases h
      | ok r =>
        rw [hr] at h
        cases h
        exact ((lex_stand n _ _ _ _ (by simp only [List.length_drop, List.length_cons] at *; omega) hr).step hk.2.1).cons ⟨k, t, p⟩ rfl
theorem lex_len : ∀ (n : Nat) (l : Bs) (p : Nat × Nat) (o : Bool) (ts : List Tk), l.length ≤ n → lexS l p o = .ok ts → ts.length ≤ l.length + 2
  | 0, [], p, o, ts, _, h => by rw [lexS_nil] at h; cases h; cases o <;> simp
  | 0, b :: l, _, _, _, hl, _ => by simp at hl
  | n + 1, [], p, o, ts, _, h => by rw [lexS_nil] at h; cases h; cases o <;> simp
  | n + 1, b :: l, p, o, ts, hl, h => by
    cases hp : piece (b :: l) with
    | bad => rw [lexS_bad _ _ hp] at h; cases h
    | gap k nl =>
      have hk := piece_gap hp
      rw [lexS_gap _ _ hp] at h
      cases hr : lexS ((b :: l).drop k) (adv p ((b :: l).take k)) (o && !nl) with
      | error q' => rw [hr] at h; cases h
      | ok r =>
        rw [hr] at h
        cases h
        have := lex_len n _ _ _ _ (by simp only [List.length_drop, List.length_cons] at *; omega) hr
        simp only [List.length_drop, List.length_append, List.length_cons] at *
        split <;> simp <;> omega
    | tok k t j =>
      have hk := piece_tok hp
      rw [lexS_tok _ _ hp] at h
      cases hr : lexS ((b :: l).drop j) (adv p ((b :: l).take j)) (askB k t) with
      | error q' => rw [hr] at h; cases h
      | ok r =>
        rw [hr] at h
        cases h
        have := lex_len n _ _ _ _ (by simp only [List.length_drop, List.length_cons] at *; omega) hr
        simp only [List.length_drop, List.length_append, List.length_cons] at *
        simp
        omega
end Go.Proofs.YtgnobpljnahceaaDoor
