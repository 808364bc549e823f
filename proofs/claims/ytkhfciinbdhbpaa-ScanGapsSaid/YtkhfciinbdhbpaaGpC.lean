/- A token's piece hangs on its own bytes and the next one alone; a gap's; as plain mathematics; conditions: none. -/
import Derived.Test.YtkhfciinbdhbpaaGpB
namespace Go.Proofs.Ytkhfciinbdhbpaa
open Go.RowKit Go.WideShapes Go.ChangeShapes
set_option linter.unusedVariables false
set_option linter.unusedSimpArgs false
set_option maxRecDepth 100000

theorem headN_next {p : Int → Bool} (X : Bs) : ∀ l : Bs, X.head? = (l.drop (headN p l)).head? → headN p (l.take (headN p l) ++ X) = headN p l
  | [], h => by
    cases X with
    | nil => rfl
    | cons x X => cases h
  | b :: l, h => by
    rw [headN_cons] at h ⊢
    by_cases hb : p (b.toNat : Int) = true
    · rw [if_pos hb] at h ⊢
      show headN p (b :: (l.take (headN p l) ++ X)) = _
      rw [headN_cons, if_pos hb, headN_next X l h]
    · rw [if_neg hb] at h ⊢
      cases X with
      | nil => cases h
      | cons x X =>
        have hx : x = b := by injection h
        subst hx
        show headN p (x :: X) = 0
        rw [headN_cons, if_neg hb]
theorem tok_next {b : UInt8} {l : Bs} {k : Int} {t : Bs} {n : Nat} (X : Bs) (h : piece (b :: l) = .tok k t n) (hX : X.head? = ((b :: l).drop n).head?) : piece ((b :: l).take n ++ X) = .tok k t n := by
  obtain ⟨hn, hnl, _, _⟩ := piece_tok h
  obtain ⟨m, rfl⟩ : ∃ m, n = m + 1 := ⟨n - 1, by omega⟩
  have hform : (b :: l).take (m + 1) ++ X = b :: (l.take m ++ X) := rfl
  have hX2 : X.head? = (l.drop m).head? := hX
  have hhead : (l.take m ++ X).head? = l.head? := by
    cases m with
    | zero => exact hX2
    | succ m =>
      cases l with
      | nil => exact hX2
      | cons x l => rfl
  rw [hform, piece_cons]
  rw [piece_cons] at h
  by_cases h1 : b = 10
  · rw [if_pos h1] at h; cases h
  rw [if_neg h1] at h ⊢
  by_cases h2 : b = 32 ∨ b = 9 ∨ b = 13
  · rw [if_pos h2] at h; cases h
  rw [if_neg h2] at h ⊢
  by_cases h3 : b = 47 ∧ l.head? = some 47
  · rw [if_pos h3] at h; cases h
  have h3' : ¬ (b = 47 ∧ (l.take m ++ X).head? = some 47) := by rw [hhead]; exact h3
  rw [if_neg h3] at h
  rw [if_neg h3']
  by_cases h4 : b = 47 ∧ l.head? = some 42
  · rw [if_pos h4] at h
    split at h <;> cases h
  have h4' : ¬ (b = 47 ∧ (l.take m ++ X).head? = some 42) := by rw [hhead]; exact h4
  rw [if_neg h4] at h
  rw [if_neg h4']
  by_cases h5 : at_ letterC b = true
  · rw [if_pos h5] at h ⊢
    injection h with e1 e2 e3
    have hh := headN_next (p := partC) X (b :: l) (by rw [e3]; exact hX)
    rw [e3, hform] at hh
    rw [hh, ← hform, List.take_append_of_le_length (by rw [List.length_take]; omega), List.take_take, Nat.min_self]
    rw [e3] at e1 e2
    rw [e1, e2]
  rw [if_neg h5] at h ⊢
  by_cases h6 : at_ digitC b = true
  · rw [if_pos h6] at h ⊢
    split at h
    · cases h
    rename_i hna
    injection h with e1 e2 e3
    have hh : numN b (b :: (l.take m ++ X)) = m + 1 := by
      unfold numN at e3 ⊢
      split
      · rename_i h48
        rw [if_pos h48] at e3
        exact e3
      · rename_i h48
        rw [if_neg h48] at e3
        have hh := headN_next (p := digitC) X (b :: l) (by rw [e3]; exact hX)
        rw [e3, hform] at hh
        exact hh
    have hdr : (b :: (l.take m ++ X)).drop (m + 1) = X := by
      rw [← hform, List.drop_append_of_le_length (by rw [List.length_take]; omega), List.drop_eq_nil_of_le (by rw [List.length_take]; omega)]
      rfl
    rw [hh, hdr]
    rw [if_neg (by rw [hX, ← e3]; exact hna), ← hform, List.take_append_of_le_length (by rw [List.length_take]; omega), List.take_take, Nat.min_self]
    rw [e3] at e2
    rw [e1, e2]
  rw [if_neg h6] at h ⊢
  by_cases h7 : b = 34
  · rw [if_pos h7] at h ⊢
    cases hq : strN l with
    | none => rw [hq] at h; cases h
    | some q =>
      rw [hq] at h
      injection h with e1 e2 e3
      have e4 : q.2 = m := by omega
      have hs := strN_cut (X) _ l q (Nat.le_refl _) hq
      rw [e4] at hs
      rw [hs]
      show Pc.tok 4 q.1 (q.2 + 1) = _
      rw [e1, e2, e3]
  rw [if_neg h7] at h ⊢
  by_cases h8 : 2 ≤ (b :: l).length ∧ inL ops02 ((b :: l).take 2) = true
  · rw [if_pos h8] at h
    injection h with e1 e2 e3
    have e4 : m = 1 := by omega
    subst e4
    cases l with
    | nil => have := h8.1; simp at this
    | cons x l =>
      have h9 : 2 ≤ (b :: (List.take 1 (x :: l) ++ X)).length ∧ inL ops02 ((b :: (List.take 1 (x :: l) ++ X)).take 2) = true := ⟨by simp, h8.2⟩
      rw [if_pos h9]
      show Pc.tok 5 [b, x] 2 = _
      rw [← e1, ← e2]
      rfl
  rw [if_neg h8] at h
  by_cases h9 : inL ops02 [b] = true
  · rw [if_pos h9] at h
    injection h with e1 e2 e3
    have e4 : m = 0 := by omega
    subst e4
    have h10 : ¬ (2 ≤ (b :: (List.take 0 l ++ X)).length ∧ inL ops02 ((b :: (List.take 0 l ++ X)).take 2) = true) := fun ⟨e', e⟩ => by
      cases X with
      | nil => simp at e'
      | cons x X =>
        cases l with
        | nil => cases hX2
        | cons y l =>
          have hxy : x = y := by injection hX2
          subst hxy
          exact h8 ⟨by simp, e⟩
    rw [if_neg h10, if_pos h9, e1, e2]
  · rw [if_neg h9] at h; cases h
end Go.Proofs.Ytkhfciinbdhbpaa
