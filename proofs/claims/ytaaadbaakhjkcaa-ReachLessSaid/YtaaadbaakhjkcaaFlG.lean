/- Blocks as mathematics; no conditions. -/
import Derived.Test.YtaaadbaakhjkcaaFlF
namespace Go.Proofs.Ytaaadbaakhjkcaa
open Go.RowKit Go.WideShapes Go.ChangeShapes
set_option linter.unusedVariables false
set_option linter.unusedSimpArgs false
set_option maxRecDepth 100000

theorem snoc_cases {α : Type} {p : List α} {x y : α} {i : Nat} (h : (p ++ [x])[i]? = some y) : (i < p.length ∧ p[i]? = some y) ∨ (i = p.length ∧ y = x) := by
  rcases Nat.lt_trichotomy i p.length with h2 | h2 | h2
  · rw [List.getElem?_append_left h2] at h
    exact .inl ⟨h2, h⟩
  · subst h2
    rw [List.getElem?_append_right (Nat.le_refl _)] at h
    simp at h
    exact .inr ⟨rfl, h.symm⟩
  · rw [List.getElem?_eq_none (by simp; omega)] at h
    cases h
theorem snoc_last {α : Type} (p : List α) (x : α) : (p ++ [x])[p.length]? = some x := by simp
theorem snoc_front {α : Type} {p : List α} {x : α} {i : Nat} (h : i < p.length) : (p ++ [x])[i]? = p[i]? := List.getElem?_append_left h
theorem bls_new {B : Nat → Bool} {k : Nat} (h : B k = true) : bls B (k + 1) = bls B k ++ [(k, k + 1)] := by rw [bls, if_pos h]
theorem bls_more {B : Nat → Bool} {k : Nat} (h : ¬ B k = true) {p : List (Nat × Nat)} {x : Nat × Nat} (hp : bls B k = p ++ [x]) : bls B (k + 1) = p ++ [(x.1, k + 1)] := by
  rw [bls, if_neg h, hp]
  simp
section
variable {B : Nat → Bool} (h0 : B 0 = true)
include h0
theorem bls_snoc (k : Nat) : ∃ p x, bls B (k + 1) = p ++ [x] := by
  have h := bls_pos h0 k
  rcases List.eq_nil_or_concat (bls B (k + 1)) with e | ⟨l, x, e⟩
  · rw [e] at h; simp at h
  · exact ⟨l, x, by simpa using e⟩
theorem bls_ok : ∀ k, BlsOk B (k + 1) (bls B (k + 1))
  | 0 => by
    rw [bls_new h0]
    show BlsOk B 1 [(0, 1)]
    refine ⟨fun x hx => ?_, fun i x y hx hy => ?_, fun i x hx => ?_, fun x hx => ?_, fun i x hx => ?_⟩
    · simp at hx; subst hx; rfl
    · simp at hy
    · rcases i with _ | i
      · simp at hx; subst hx; exact ⟨by decide, by decide⟩
      · simp at hx
    · simp at hx; subst hx; rfl
    · rcases i with _ | i
      · simp at hx; subst hx; exact ⟨h0, fun q h1 h2 => by change 0 < q at h1; change q < 1 at h2; omega⟩
      · simp at hx
  | k + 1 => by
    have ih := bls_ok k
    obtain ⟨p, x, hp⟩ := bls_snoc h0 k
    rw [hp] at ih
    have hxl : x.2 = k + 1 := ih.last x (by simp)
    have hx1 := ih.lt p.length x (snoc_last p x)
    have hxh := ih.heads p.length x (snoc_last p x)
    by_cases hb : B (k + 1) = true
    · rw [bls_new hb, hp]
      refine ⟨fun y hy => ?_, fun i y z hy hz => ?_, fun i y hy => ?_, fun y hy => ?_, fun i y hy => ?_⟩
      · rw [List.getElem?_append_left (by simp)] at hy
        exact ih.first y hy
      · rcases snoc_cases hz with ⟨h1, h2⟩ | ⟨h1, h2⟩
        · rw [List.getElem?_append_left (by omega)] at hy
          exact ih.next i y z hy h2
        · have h3 : i = p.length := by simp at h1; omega
          subst h3
          rw [List.getElem?_append_left (by simp), snoc_last] at hy
          cases hy
          rw [h2, hxl]
      · rcases snoc_cases hy with ⟨h1, h2⟩ | ⟨h1, h2⟩
        · have := ih.lt i y h2
          omega
        · subst h2
          exact ⟨by show k + 1 < k + 1 + 1; omega, Nat.le_refl _⟩
      · simp at hy
        subst hy
        rfl
      · rcases snoc_cases hy with ⟨h1, h2⟩ | ⟨h1, h2⟩
        · exact ih.heads i y h2
        · subst h2
          exact ⟨hb, fun q h3 h4 => by change k + 1 < q at h3; change q < k + 1 + 1 at h4; omega⟩
    · rw [bls_more hb hp]
      refine ⟨fun y hy => ?_, fun i y z hy hz => ?_, fun i y hy => ?_, fun y hy => ?_, fun i y hy => ?_⟩
      · rcases snoc_cases hy with ⟨h1, h2⟩ | ⟨h1, h2⟩
        · exact ih.first y ((snoc_front h1).trans h2)
        · subst h2
          exact ih.first x (by rw [h1]; exact snoc_last p x)
      · have hy1 : i < p.length := by
          rcases snoc_cases hz with ⟨h1, h2⟩ | ⟨h1, h2⟩ <;> omega
        rw [snoc_front hy1] at hy
        have hy2 := (snoc_front (x := x) hy1).trans hy
        rcases snoc_cases hz with ⟨h1, h2⟩ | ⟨h1, h2⟩
        · exact ih.next i y z hy2 ((snoc_front h1).trans h2)
        · subst h2
          exact ih.next i y x hy2 (by rw [h1]; exact snoc_last p x)
      · rcases snoc_cases hy with ⟨h1, h2⟩ | ⟨h1, h2⟩
        · have := ih.lt i y ((snoc_front h1).trans h2)
          omega
        · subst h2
          exact ⟨by show x.1 < k + 1 + 1; omega, Nat.le_refl _⟩
      · simp at hy
        subst hy
        rfl
      · rcases snoc_cases hy with ⟨h1, h2⟩ | ⟨h1, h2⟩
        · exact ih.heads i y ((snoc_front h1).trans h2)
        · subst h2
          refine ⟨hxh.1, fun q h3 h4 => ?_⟩
          change x.1 < q at h3
          change q < k + 1 + 1 at h4
          by_cases e : q = k + 1
          · subst e
            cases hq : B (k + 1) with
            | true => exact absurd hq hb
            | false => rfl
          · exact hxh.2 q h3 (by omega)
/-- Where a block begins stays, however many instructions follow. -/
theorem bls_from {i : Nat} {x : Nat × Nat} : ∀ (k d : Nat), (bls B (k + 1))[i]? = some x → ∃ y, (bls B (k + 1 + d))[i]? = some y ∧ y.1 = x.1 ∧ x.2 ≤ y.2
  | k, 0, h => ⟨x, h, rfl, Nat.le_refl _⟩
  | k, d + 1, h => by
    obtain ⟨y, hy, e1, e2⟩ := bls_from k d h
    obtain ⟨p, z, hp⟩ := bls_snoc h0 (k + d)
    rw [show k + 1 + d = k + d + 1 by omega] at hy
    rw [show k + 1 + (d + 1) = k + d + 1 + 1 by omega]
    have hok := bls_ok h0 (k + d)
    by_cases hb : B (k + d + 1) = true
    · rw [bls_new hb]
      refine ⟨y, ?_, e1, e2⟩
      rw [List.getElem?_append_left (by
        rcases Nat.lt_or_ge i (bls B (k + d + 1)).length with h2 | h2
        · exact h2
        · rw [List.getElem?_eq_none h2] at hy; cases hy)]
      exact hy
    · rw [bls_more hb hp]
      rw [hp] at hy hok
      rcases snoc_cases hy with ⟨h1, h2⟩ | ⟨h1, h2⟩
      · exact ⟨y, (snoc_front h1).trans h2, e1, e2⟩
      · subst h2
        subst h1
        have := hok.lt p.length y (snoc_last p y)
        exact ⟨(y.1, k + d + 1 + 1), snoc_last _ _, e1, by show x.2 ≤ k + d + 1 + 1; omega⟩
/-- The block of an instruction: it lies in it. -/
theorem at_in {n q : Nat} (hq : q < n) : ∃ x, (bls B n)[atB B q]? = some x ∧ x.1 ≤ q ∧ q < x.2 := by
  obtain ⟨p, x, hp⟩ := bls_snoc h0 q
  have hok := bls_ok h0 q
  have hl : atB B q = p.length := by unfold atB; rw [hp]; simp
  have h1 : (bls B (q + 1))[atB B q]? = some x := by rw [hl, hp]; exact snoc_last _ _
  have hlt := hok.lt _ x h1
  have hla : x.2 = q + 1 := hok.last x (by rw [hp]; simp)
  obtain ⟨y, hy, e1, e2⟩ := bls_from h0 q (n - (q + 1)) h1
  rw [show q + 1 + (n - (q + 1)) = n by omega] at hy
  exact ⟨y, hy, by omega, by omega⟩
theorem at_lt {n q : Nat} (hq : q < n) : atB B q < (bls B n).length := by
  obtain ⟨x, hx, _⟩ := at_in h0 hq
  rcases Nat.lt_or_ge (atB B q) (bls B n).length with h2 | h2
  · exact h2
  · rw [List.getElem?_eq_none h2] at hx; cases hx
end
end Go.Proofs.Ytaaadbaakhjkcaa
