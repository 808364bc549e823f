/- Pieces hang on their own bytes and the next one alone, as plain mathematics; conditions: none. -/
import Derived.Test.YtkhfciinbdhbpaaSnX
namespace Go.Proofs.Ytkhfciinbdhbpaa
open Go.RowKit Go.WideShapes Go.ChangeShapes
set_option linter.unusedVariables false
set_option linter.unusedSimpArgs false
set_option maxRecDepth 100000

theorem headN_cut {p : Int → Bool} {c : UInt8} (hc : p (c.toNat : Int) = false) (r : Bs) : ∀ l : Bs, headN p (l.take (headN p l) ++ c :: r) = headN p l
  | [] => by
    show headN p (c :: r) = 0
    rw [headN_cons, if_neg (by simp [hc])]
  | b :: l => by
    rw [headN_cons]
    by_cases hb : p (b.toNat : Int) = true
    · rw [if_pos hb]
      show headN p (b :: (l.take (headN p l) ++ c :: r)) = _
      rw [headN_cons, if_pos hb, headN_cut hc r l]
    · rw [if_neg hb]
      show headN p (c :: r) = 0
      rw [headN_cons, if_neg (by simp [hc])]
theorem cend_cut (r : Bs) : ∀ (l : Bs) (n : Nat), cend l = some n → cend (l.take (n + 2) ++ r) = some n
  | [], n, h => by simp [cend] at h
  | b :: l, n, h => by
    unfold cend at h
    split at h
    · rename_i hc
      cases h
      obtain ⟨h1, h2⟩ := hc
      cases l with
      | nil => simp at h2
      | cons c l =>
        simp at h2
        show cend (b :: c :: r) = some 0
        unfold cend
        rw [if_pos ⟨h1, by simp [h2]⟩]
    · rename_i hc
      cases hq : cend l with
      | none => rw [hq] at h; simp at h
      | some m =>
        rw [hq] at h
        simp at h
        subst h
        show cend (b :: (l.take (m + 2) ++ r)) = _
        unfold cend
        have hl := cend_le l m hq
        have hh : (l.take (m + 2) ++ r).head? = l.head? := by
          cases l with
          | nil => simp at hl
          | cons c l => rfl
        rw [hh, if_neg hc, cend_cut r l m hq]
        rfl
theorem strN_cut (r : Bs) : ∀ (n : Nat) (l : Bs) (q : Bs × Nat), l.length ≤ n → strN l = some q → strN (l.take q.2 ++ r) = some q
  | 0, l, q, hl, h => by
    cases l with
    | nil => simp [strN] at h
    | cons b l => simp at hl
  | n + 1, [], q, hl, h => by simp [strN] at h
  | n + 1, b :: l, q, hl, h => by
    simp only [List.length_cons] at hl
    unfold strN at h
    split at h
    · cases h
    rename_i h1
    split at h
    · rename_i h2
      cases h
      show strN (b :: r) = _
      unfold strN
      rw [if_neg h1, if_pos h2]
    rename_i h2
    split at h
    · rename_i h3
      split at h
      · cases h
      · rename_i c l'
        split at h
        · cases h
        · rename_i h4
          cases hq : strN l' with
          | none => rw [hq] at h; simp at h
          | some q' =>
            rw [hq] at h
            simp at h
            subst h
            simp only [List.length_cons] at hl
            show strN (b :: c :: (l'.take q'.2 ++ r)) = _
            unfold strN
            rw [if_neg h1, if_neg h2, if_pos h3]
            simp only []
            rw [if_neg h4, strN_cut r n l' q' (by omega) hq]
            rfl
    · rename_i h3
      cases hq : strN l with
      | none => rw [hq] at h; simp at h
      | some q' =>
        rw [hq] at h
        simp at h
        subst h
        show strN (b :: (l.take q'.2 ++ r)) = _
        unfold strN
        rw [if_neg h1, if_neg h2, if_neg h3, strN_cut r n l q' (by omega) hq]
        rfl
end Go.Proofs.Ytkhfciinbdhbpaa
