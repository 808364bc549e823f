/- A token's piece behind which a blank is put is the same, as plain mathematics; conditions: none. -/
import Derived.Test.YtkhfciinbdhbpaaGpA
namespace Go.Proofs.Ytkhfciinbdhbpaa
open Go.RowKit Go.WideShapes Go.ChangeShapes
set_option linter.unusedVariables false
set_option linter.unusedSimpArgs false
set_option maxRecDepth 100000

theorem ops_blank : ops02.all (fun u => u[1]? != some 32 && u[1]? != some 9) = true := by decide
theorem op_no {b c : UInt8} (hc : c = 32 ∨ c = 9) : inL ops02 [b, c] = false := by
  cases h : inL ops02 [b, c] with
  | false => rfl
  | true =>
    unfold inL at h
    rw [List.any_eq_true] at h
    obtain ⟨u, hu, e⟩ := h
    rw [beq_iff_eq] at e
    have h2 := (List.all_eq_true.1 ops_blank) u hu
    rw [← e] at h2
    rcases hc with rfl | rfl <;> simp at h2
theorem tok_cut {b c : UInt8} {l : Bs} {k : Int} {t : Bs} {n : Nat} (hc : c = 32 ∨ c = 9) (r : Bs) (h : piece (b :: l) = .tok k t n) : piece ((b :: l).take n ++ c :: r) = .tok k t n := by
  obtain ⟨hn, hnl, _, _⟩ := piece_tok h
  have hpart : partC (c.toNat : Int) = false := by rcases hc with rfl | rfl <;> rfl
  have hdig : digitC (c.toNat : Int) = false := by rcases hc with rfl | rfl <;> rfl
  have hpc : at_ partC c = false := hpart
  obtain ⟨m, rfl⟩ : ∃ m, n = m + 1 := ⟨n - 1, by omega⟩
  have hform : (b :: l).take (m + 1) ++ c :: r = b :: (l.take m ++ c :: r) := rfl
  have hhead : (l.take m ++ c :: r).head? = l.head? ∨ (l.take m ++ c :: r).head? = some c := by
    cases m with
    | zero => right; rfl
    | succ m =>
      cases l with
      | nil => right; rfl
      | cons x l => left; rfl
  rw [hform, piece_cons]
  rw [piece_cons] at h
  by_cases h1 : b = 10
  · rw [if_pos h1] at h; cases h
  rw [if_neg h1] at h ⊢
  by_cases h2 : b = 32 ∨ b = 9 ∨ b = 13
  · rw [if_pos h2] at h; cases h
  rw [if_neg h2] at h ⊢
  by_cases h3 : b = 47 ∧ l.head? = some 47
  · rw [if_pos h3] at h; cases h
  have h3' : ¬ (b = 47 ∧ (l.take m ++ c :: r).head? = some 47) := fun ⟨e1, e2⟩ => by
    rcases hhead with e | e
    · exact h3 ⟨e1, e ▸ e2⟩
    · rw [e] at e2
      rcases hc with rfl | rfl <;> cases e2
  rw [if_neg h3] at h
  rw [if_neg h3']
  by_cases h4 : b = 47 ∧ l.head? = some 42
  · rw [if_pos h4] at h
    split at h <;> cases h
  have h4' : ¬ (b = 47 ∧ (l.take m ++ c :: r).head? = some 42) := fun ⟨e1, e2⟩ => by
    rcases hhead with e | e
    · exact h4 ⟨e1, e ▸ e2⟩
    · rw [e] at e2
      rcases hc with rfl | rfl <;> cases e2
  rw [if_neg h4] at h
  rw [if_neg h4']
  by_cases h5 : at_ letterC b = true
  · rw [if_pos h5] at h ⊢
    injection h with e1 e2 e3
    have hh := headN_cut (p := partC) hpart r (b :: l)
    rw [e3, hform] at hh
    rw [hh, ← hform, List.take_append_of_le_length (by rw [List.length_take]; omega), List.take_take, Nat.min_self]
    rw [e3] at e1 e2
    rw [e1, e2]
  rw [if_neg h5] at h ⊢
  by_cases h6 : at_ digitC b = true
  · rw [if_pos h6] at h ⊢
    split at h
    · cases h
    injection h with e1 e2 e3
    have hh : numN b (b :: (l.take m ++ c :: r)) = m + 1 := by
      unfold numN at e3 ⊢
      split
      · rename_i h48
        rw [if_pos h48] at e3
        exact e3
      · rename_i h48
        rw [if_neg h48] at e3
        have hh := headN_cut (p := digitC) hdig r (b :: l)
        rw [e3, hform] at hh
        exact hh
    have hdr : (b :: (l.take m ++ c :: r)).drop (m + 1) = c :: r := by
      rw [← hform, List.drop_append_of_le_length (by rw [List.length_take]; omega), List.drop_eq_nil_of_le (by rw [List.length_take]; omega)]
      rfl
    rw [hh, hdr]
    rw [if_neg (by simp [hpc]), ← hform, List.take_append_of_le_length (by rw [List.length_take]; omega), List.take_take, Nat.min_self]
    rw [e3] at e2
    rw [e1, e2]
  rw [if_neg h6] at h ⊢
  by_cases h7 : b = 34
  · rw [if_pos h7] at h ⊢
    cases hq : strN l with
    | none => rw [hq] at h; cases h
    | some q =>
      rw [hq] at h
      injection h with e1 e2 e3
      have e4 : q.2 = m := by omega
      have hs := strN_cut (c :: r) _ l q (Nat.le_refl _) hq
      rw [e4] at hs
      rw [hs]
      show Pc.tok 4 q.1 (q.2 + 1) = _
      rw [e1, e2, e3]
  rw [if_neg h7] at h ⊢
  by_cases h8 : 2 ≤ (b :: l).length ∧ inL ops02 ((b :: l).take 2) = true
  · rw [if_pos h8] at h
    injection h with e1 e2 e3
    have e4 : m = 1 := by omega
    subst e4
    cases l with
    | nil => have := h8.1; simp at this
    | cons x l =>
      have h9 : 2 ≤ (b :: (List.take 1 (x :: l) ++ c :: r)).length ∧ inL ops02 ((b :: (List.take 1 (x :: l) ++ c :: r)).take 2) = true := ⟨by simp, h8.2⟩
      rw [if_pos h9]
      show Pc.tok 5 [b, x] 2 = _
      rw [← e1, ← e2]
      rfl
  rw [if_neg h8] at h
  by_cases h9 : inL ops02 [b] = true
  · rw [if_pos h9] at h
    injection h with e1 e2 e3
    have e4 : m = 0 := by omega
    subst e4
    have h10 : ¬ (2 ≤ (b :: (List.take 0 l ++ c :: r)).length ∧ inL ops02 ((b :: (List.take 0 l ++ c :: r)).take 2) = true) := fun ⟨_, e⟩ => by
      have e' : inL ops02 [b, c] = true := e
      rw [op_no hc] at e'
      cases e'
    rw [if_neg h10, if_pos h9, e1, e2]
  · rw [if_neg h9] at h; cases h
end Go.Proofs.Ytkhfciinbdhbpaa
