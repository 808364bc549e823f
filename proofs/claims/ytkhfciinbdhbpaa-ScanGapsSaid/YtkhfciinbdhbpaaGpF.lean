/- A gap put in ahead of a token, or behind all, changes nothing but places; as plain mathematics; conditions: none. -/
import Derived.Test.YtkhfciinbdhbpaaGpE
import Derived.Test.YtkhfciinbdhbpaaSnP
namespace Go.Proofs.Ytkhfciinbdhbpaa
open Go.RowKit Go.WideShapes Go.ChangeShapes
set_option linter.unusedVariables false
set_option linter.unusedSimpArgs false
set_option maxRecDepth 100000

theorem drop_took {l Y : Bs} {k : Nat} (h : k ≤ l.length) : (l.take k ++ Y).drop k = Y := by
  rw [List.drop_append_of_le_length (by rw [List.length_take]; omega), List.drop_eq_nil_of_le (by rw [List.length_take]; omega)]
  rfl
theorem gap_step {L : Bs} {k : Nat} {nl : Bool} (h : piece L = .gap k nl) (p q : Nat × Nat) (o : Bool) : keys (lexS L p o) = (keys (lexS (L.drop k) q (o && !nl))).map ((if nl && o then [((5 : Int), ([59] : Bs))] else []) ++ ·) := by
  cases L with
  | nil => cases h
  | cons b l =>
    rw [lexS_gap _ _ h, keys_pre, keys_any _ q (adv p ((b :: l).take k))]
    cases nl <;> cases o <;> rfl
theorem tok_step {L : Bs} {k : Int} {t : Bs} {n : Nat} (h : piece L = .tok k t n) (p q : Nat × Nat) (o : Bool) : keys (lexS L p o) = (keys (lexS (L.drop n) q (askB k t))).map ([(k, t)] ++ ·) := by
  cases L with
  | nil => cases h
  | cons b l =>
    rw [lexS_tok _ _ h, keys_pre, keys_any _ q (adv p ((b :: l).take n))]
    rfl
theorem head_took {R Z : Bs} {j : Nat} (h : j ≤ R.length) (h0 : j ≠ 0) : (R.take j ++ Z).head? = R.head? := by
  cases R with
  | nil => simp at h; omega
  | cons x R =>
    cases j with
    | zero => exact absurd rfl h0
    | succ j => rfl
/-- Ahead of a place j a gap changes nothing. -/
def Ins (l : Bs) (o : Bool) (j : Nat) (K : List (Int × Bs)) : Prop := ∀ g, Gp g (l.drop j) → ∀ p, keys (lexS (l.take j ++ (g ++ l.drop j)) p o) = some K
theorem Ins.zero {l : Bs} {p : Nat × Nat} {o : Bool} {ts : List Tk} (h : lexS l p o = .ok ts) : Ins l o 0 (ts.map key) := by
  intro g hg p'
  have h2 := hg.same p' o
  rw [List.drop_zero] at h2
  show keys (lexS (g ++ l) p' o) = _
  rw [h2, keys_any l p' p, h]
  rfl
theorem Ins.gap {b : UInt8} {l : Bs} {k : Nat} {nl o : Bool} {j : Nat} {K : List (Int × Bs)} (hp : piece (b :: l) = .gap k nl) (hj : j ≤ ((b :: l).drop k).length) (h : Ins ((b :: l).drop k) (o && !nl) j K) {r : List Tk} {q : Nat × Nat} (hr : lexS ((b :: l).drop k) q (o && !nl) = .ok r) (hK : K = r.map key) :
    Ins (b :: l) o (k + j) ((if nl && o then [((5 : Int), ([59] : Bs))] else []) ++ K) := by
  intro g hg p
  have hkl := (piece_gap hp).2
  rw [← List.drop_drop] at hg ⊢
  rw [List.take_add, List.append_assoc]
  have h2 := h g hg p
  by_cases hc : b = 47 ∧ l.head? = some 47
  · by_cases h0 : j = 0
    · subst h0
      have hpc := line_put g hp hc hg.no
      rw [List.drop_zero]
      show keys (lexS ((b :: l).take k ++ (g ++ (b :: l).drop k)) p o) = _
      obtain ⟨e1, e2, e3⟩ := line_piece hp hc
      rw [gap_step hpc p q o]
      have hd : ((b :: l).take k ++ (g ++ (b :: l).drop k)).drop (k + g.length) = (b :: l).drop k := by
        rw [← List.drop_drop, drop_took hkl, List.drop_left]
      rw [hd, hr, hK]
      rfl
    · have hpc := line_next (((b :: l).drop k).take j ++ (g ++ ((b :: l).drop k).drop j)) hp hc (head_took hj h0)
      rw [gap_step hpc p p o, drop_took hkl, h2]
      rfl
  · have hpc := gap_cut (((b :: l).drop k).take j ++ (g ++ ((b :: l).drop k).drop j)) hp hc
    rw [gap_step hpc p p o, drop_took hkl, h2]
    rfl
theorem Ins.tok {b : UInt8} {l : Bs} {k : Int} {t : Bs} {n : Nat} {o : Bool} {j : Nat} {K : List (Int × Bs)} (hp : piece (b :: l) = .tok k t n) (hj : j ≤ ((b :: l).drop n).length) (h : Ins ((b :: l).drop n) (askB k t) j K) :
    Ins (b :: l) o (n + j) ([(k, t)] ++ K) := by
  intro g hg p
  have hkl := (piece_tok hp).2.1
  rw [← List.drop_drop] at hg ⊢
  rw [List.take_add, List.append_assoc]
  have h2 := h g hg p
  have hpc : piece ((b :: l).take n ++ (((b :: l).drop n).take j ++ (g ++ ((b :: l).drop n).drop j))) = .tok k t n := by
    by_cases h0 : j = 0
    · subst h0
      obtain ⟨c, g', rfl, hc⟩ := hg.hd
      exact tok_cut hc (g' ++ ((b :: l).drop n).drop 0) hp
    · exact tok_next _ hp (head_took hj h0)
  rw [tok_step hpc p p o, drop_took hkl, h2]
  rfl
theorem ins : ∀ (n : Nat) (l : Bs) (p : Nat × Nat) (o : Bool) (ts : List Tk), l.length ≤ n → lexS l p o = .ok ts → (∀ t ∈ ts, ∃ j, j ≤ l.length ∧ t.p = adv p (l.take j) ∧ Ins l o j (ts.map key)) ∧ Ins l o l.length (ts.map key)
  | n, [], p, o, ts, _, h => by
    refine ⟨fun t ht => ⟨0, Nat.le_refl _, ?_, Ins.zero h⟩, Ins.zero h⟩
    rw [lexS_nil] at h
    cases h
    cases o <;> simp at ht <;> rcases ht with rfl | rfl <;> rfl
  | 0, b :: l, _, _, _, hl, _ => by simp at hl
  | n + 1, b :: l, p, o, ts, hl, h => by
    have hz := Ins.zero h
    cases hp : piece (b :: l) with
    | bad => rw [lexS_bad _ _ hp] at h; cases h
    | gap k nl =>
      have hk := piece_gap hp
      rw [lexS_gap _ _ hp] at h
      cases hr : lexS ((b :: l).drop k) (adv p ((b :: l).take k)) (o && !nl) with
      | error q' => rw [hr] at h; cases h
      | ok r =>
        rw [hr] at h
        cases h
        obtain ⟨i1, i2⟩ := ins n _ _ _ _ (by simp only [List.length_drop, List.length_cons] at *; omega) hr
        have e : ((if (nl && o) = true then [semi p] else []) ++ r).map key = (if nl && o then [((5 : Int), ([59] : Bs))] else []) ++ r.map key := by
          cases nl <;> cases o <;> rfl
        refine ⟨fun t ht => ?_, ?_⟩
        · rcases List.mem_append.1 ht with ht | ht
          · refine ⟨0, Nat.zero_le _, ?_, hz⟩
            split at ht
            · simp at ht; rw [ht]; rfl
            · cases ht
          · obtain ⟨j, hj, hj2, hj3⟩ := i1 t ht
            refine ⟨k + j, by rw [List.length_drop] at hj; omega, ?_, ?_⟩
            · rw [List.take_add, adv_append]; exact hj2
            · rw [e]; exact Ins.gap hp hj hj3 hr rfl
        · have h3 := Ins.gap hp (Nat.le_refl _) i2 hr rfl
          rw [show k + ((b :: l).drop k).length = (b :: l).length from by rw [List.length_drop]; omega] at h3
          rw [e]; exact h3
    | tok k t j =>
      have hk := piece_tok hp
      rw [lexS_tok _ _ hp] at h
      cases hr : lexS ((b :: l).drop j) (adv p ((b :: l).take j)) (askB k t) with
      | error q' => rw [hr] at h; cases h
      | ok r =>
        rw [hr] at h
        cases h
        obtain ⟨i1, i2⟩ := ins n _ _ _ _ (by simp only [List.length_drop, List.length_cons] at *; omega) hr
        refine ⟨fun u hu => ?_, ?_⟩
        · rcases List.mem_append.1 hu with hu | hu
          · refine ⟨0, Nat.zero_le _, ?_, hz⟩
            simp at hu; rw [hu]; rfl
          · obtain ⟨m, hm, hm2, hm3⟩ := i1 u hu
            refine ⟨j + m, by rw [List.length_drop] at hm; omega, ?_, ?_⟩
            · rw [List.take_add, adv_append]; exact hm2
            · exact Ins.tok hp hm hm3
        · have h3 := Ins.tok (o := o) hp (Nat.le_refl _) i2
          rw [show j + ((b :: l).drop j).length = (b :: l).length from by rw [List.length_drop]; omega] at h3
          exact h3
end Go.Proofs.Ytkhfciinbdhbpaa
