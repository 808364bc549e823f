/- Gaps cut off and put in, as plain mathematics; conditions: none. -/
import Derived.Test.YtkhfciinbdhbpaaGpC
namespace Go.Proofs.Ytkhfciinbdhbpaa
open Go.RowKit Go.WideShapes Go.ChangeShapes
set_option linter.unusedVariables false
set_option linter.unusedSimpArgs false
set_option maxRecDepth 100000

theorem gap_cut {b : UInt8} {l : Bs} {n : Nat} {nl : Bool} (r : Bs) (h : piece (b :: l) = .gap n nl) (hc : ¬ (b = 47 ∧ l.head? = some 47)) : piece ((b :: l).take n ++ r) = .gap n nl := by
  rw [piece_cons] at h
  by_cases h1 : b = 10
  · rw [if_pos h1] at h
    injection h with e1 e2
    subst e1 e2
    show piece (b :: r) = _
    rw [piece_cons, if_pos h1]
  rw [if_neg h1] at h
  by_cases h2 : b = 32 ∨ b = 9 ∨ b = 13
  · rw [if_pos h2] at h
    injection h with e1 e2
    subst e1 e2
    show piece (b :: r) = _
    rw [piece_cons, if_neg h1, if_pos h2]
  rw [if_neg h2, if_neg hc] at h
  by_cases h4 : b = 47 ∧ l.head? = some 42
  · rw [if_pos h4] at h
    cases l with
    | nil => cases h4.2
    | cons c l =>
      have hc42 : c = 42 := by have := h4.2; injection this
      subst hc42
      cases hq : cend l with
      | none => rw [show (42 :: l).tail = l from rfl, hq] at h; cases h
      | some q =>
        rw [show (42 :: l).tail = l from rfl, hq] at h
        injection h with e1 e2
        subst e1
        show piece (b :: 42 :: (l.take (q + 2) ++ r)) = _
        have hl := cend_le l q hq
        rw [piece_cons, if_neg h1, if_neg h2, if_neg (by rintro ⟨_, e⟩; cases e), if_pos ⟨h4.1, rfl⟩]
        rw [show (42 :: (l.take (q + 2) ++ r)).tail = l.take (q + 2) ++ r from rfl, cend_cut r l q hq]
        show Pc.gap (q + 4) (((l.take (q + 2) ++ r).take q).contains 10) = _
        rw [List.take_append_of_le_length (by rw [List.length_take]; omega), List.take_take, Nat.min_eq_left (by omega), e2]
  rw [if_neg h4] at h
  by_cases h5 : at_ letterC b = true
  · rw [if_pos h5] at h; cases h
  rw [if_neg h5] at h
  by_cases h6 : at_ digitC b = true
  · rw [if_pos h6] at h
    split at h <;> cases h
  rw [if_neg h6] at h
  by_cases h7 : b = 34
  · rw [if_pos h7] at h
    split at h <;> cases h
  rw [if_neg h7] at h
  split at h
  · cases h
  split at h <;> cases h
theorem headN_run {p : Int → Bool} (y : Bs) : ∀ a : Bs, (∀ x ∈ a, p (x.toNat : Int) = true) → headN p (a ++ y) = a.length + headN p y
  | [], _ => by simp
  | b :: a, h => by
    show headN p (b :: (a ++ y)) = _
    rw [headN_cons, if_pos (h b (by simp)), headN_run y a (fun x hx => h x (by simp [hx]))]
    simp
    omega
theorem headN_took {p : Int → Bool} : ∀ l : Bs, (∀ x ∈ l.take (headN p l), p (x.toNat : Int) = true) ∧ headN p (l.drop (headN p l)) = 0
  | [] => ⟨by simp [headN], rfl⟩
  | b :: l => by
    rw [headN_cons]
    by_cases hb : p (b.toNat : Int) = true
    · rw [if_pos hb]
      obtain ⟨h1, h2⟩ := headN_took (p := p) l
      refine ⟨fun x hx => ?_, h2⟩
      rcases List.mem_cons.1 (show x ∈ b :: l.take (headN p l) from hx) with rfl | h
      · exact hb
      · exact h1 x h
    · rw [if_neg hb]
      refine ⟨by simp, ?_⟩
      show headN p (b :: l) = 0
      rw [headN_cons, if_neg hb]
theorem line_piece {b : UInt8} {l : Bs} {n : Nat} {nl : Bool} (h : piece (b :: l) = .gap n nl) (hc : b = 47 ∧ l.head? = some 47) : n = headN noEndC (b :: l) ∧ nl = false ∧ 2 ≤ n := by
  rw [piece_cons, if_neg (by rw [hc.1]; decide), if_neg (by rw [hc.1]; decide), if_pos hc] at h
  injection h with e1 e2
  refine ⟨e1.symm, e2.symm, ?_⟩
  rw [← e1]
  cases l with
  | nil => cases hc.2
  | cons c l =>
    have h2 : c = 47 := by have := hc.2; injection this
    rw [hc.1, h2, headN_cons, if_pos (by rfl), headN_cons, if_pos (by rfl)]
    omega
theorem line_any {b : UInt8} {l : Bs} (X : Bs) {n : Nat} (hc : b = 47 ∧ l.head? = some 47) (hn : n = headN noEndC (b :: l)) (h2 : 2 ≤ n) : piece ((b :: l).take n ++ X) = .gap (headN noEndC ((b :: l).take n ++ X)) false := by
  obtain ⟨m, rfl⟩ : ∃ m, n = m + 2 := ⟨n - 2, by omega⟩
  cases l with
  | nil => cases hc.2
  | cons c l =>
    show piece (b :: c :: (l.take m ++ X)) = .gap (headN noEndC (b :: c :: (l.take m ++ X))) false
    rw [piece_cons, if_neg (by rw [hc.1]; decide), if_neg (by rw [hc.1]; decide), if_pos ⟨hc.1, hc.2⟩]
theorem line_next {b : UInt8} {l : Bs} (X : Bs) {n : Nat} {nl : Bool} (h : piece (b :: l) = .gap n nl) (hc : b = 47 ∧ l.head? = some 47) (hX : X.head? = ((b :: l).drop n).head?) : piece ((b :: l).take n ++ X) = .gap n nl := by
  obtain ⟨h1, h2, h3⟩ := line_piece h hc
  have hh := headN_next (p := noEndC) X (b :: l) (by rw [← h1]; exact hX)
  rw [← h1] at hh
  rw [line_any X hc h1 h3, hh, h2]
theorem line_put {b : UInt8} {l : Bs} (g : Bs) {n : Nat} {nl : Bool} (h : piece (b :: l) = .gap n nl) (hc : b = 47 ∧ l.head? = some 47) (hg : ∀ x ∈ g, noEndC (x.toNat : Int) = true) : piece ((b :: l).take n ++ (g ++ (b :: l).drop n)) = .gap (n + g.length) nl := by
  obtain ⟨h1, h2, h3⟩ := line_piece h hc
  obtain ⟨h4, h5⟩ := headN_took (p := noEndC) (b :: l)
  rw [← h1] at h4 h5
  have hl := (piece_gap h).2
  rw [line_any _ hc h1 h3, headN_run _ _ h4, headN_run _ _ hg, h5, h2, List.length_take, Nat.min_eq_left hl]
  rfl
end Go.Proofs.Ytkhfciinbdhbpaa
