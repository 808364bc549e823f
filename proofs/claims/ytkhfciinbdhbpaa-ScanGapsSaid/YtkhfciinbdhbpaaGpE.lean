/- The kinds and texts of tokens don't hang on places; gaps that change nothing; as plain mathematics; conditions: none. -/
import Derived.Test.YtkhfciinbdhbpaaGpD
namespace Go.Proofs.Ytkhfciinbdhbpaa
open Go.RowKit Go.WideShapes Go.ChangeShapes
set_option linter.unusedVariables false
set_option linter.unusedSimpArgs false
set_option maxRecDepth 100000

def keys : Except (Nat × Nat) (List Tk) → Option (List (Int × Bs))
  | .error _ => none
  | .ok ts => some (ts.map key)
theorem keys_pre (a : List Tk) (r) : keys (pre a r) = (keys r).map (a.map key ++ ·) := by cases r <;> simp [pre, keys]
theorem keys_pos : ∀ (n : Nat) (l : Bs) (p p' : Nat × Nat) (o : Bool), l.length ≤ n → keys (lexS l p o) = keys (lexS l p' o)
  | n, [], p, p', o, _ => by rw [lexS_nil, lexS_nil]; cases o <;> rfl
  | 0, b :: l, _, _, _, hl => by simp at hl
  | n + 1, b :: l, p, p', o, hl => by
    cases hp : piece (b :: l) with
    | bad => rw [lexS_bad _ _ hp, lexS_bad _ _ hp]; rfl
    | gap k nl =>
      have hk := piece_gap hp
      rw [lexS_gap _ _ hp, lexS_gap _ _ hp, keys_pre, keys_pre, keys_pos n _ _ (adv p' ((b :: l).take k)) _ (by simp only [List.length_drop, List.length_cons] at *; omega)]
      cases nl <;> cases o <;> rfl
    | tok k t j =>
      have hk := piece_tok hp
      rw [lexS_tok _ _ hp, lexS_tok _ _ hp, keys_pre, keys_pre, keys_pos n _ _ (adv p' ((b :: l).take j)) _ (by simp only [List.length_drop, List.length_cons] at *; omega)]
      rfl
theorem keys_any (l : Bs) (p p' : Nat × Nat) (o : Bool) : keys (lexS l p o) = keys (lexS l p' o) := keys_pos _ l p p' o (Nat.le_refl _)
/-- A gap that changes nothing ahead of l. -/
structure Gp (g l : Bs) : Prop where
  hd : ∃ c g', g = c :: g' ∧ (c = 32 ∨ c = 9)
  no : ∀ x ∈ g, noEndC (x.toNat : Int) = true
  same : ∀ (p : Nat × Nat) (o : Bool), keys (lexS (g ++ l) p o) = keys (lexS l p o)
theorem keys_gap {b : UInt8} {l : Bs} {n : Nat} (p : Nat × Nat) (o : Bool) (h : piece (b :: l) = .gap n false) : keys (lexS (b :: l) p o) = keys (lexS ((b :: l).drop n) p o) := by
  rw [lexS_gap _ _ h, keys_pre]
  simp only [Bool.false_and, Bool.not_false, Bool.and_true]
  rw [keys_any _ p (adv p ((b :: l).take n))]
  cases keys (lexS ((b :: l).drop n) (adv p ((b :: l).take n)) o) <;> rfl
theorem gp_blank (l : Bs) : Gp [32] l := ⟨⟨_, _, rfl, .inl rfl⟩, by decide, fun p o => keys_gap p o (show piece (32 :: l) = .gap 1 false from rfl)⟩
theorem gp_tab (l : Bs) : Gp [9] l := ⟨⟨_, _, rfl, .inr rfl⟩, by decide, fun p o => keys_gap p o (show piece (9 :: l) = .gap 1 false from rfl)⟩
theorem gp_note (l : Bs) : Gp [32, 47, 42, 32, 120, 32, 42, 47, 32] l := ⟨⟨_, _, rfl, .inl rfl⟩, by decide, fun p o =>
  (keys_gap p o (show piece (32 :: ([47, 42, 32, 120, 32, 42, 47, 32] ++ l)) = .gap 1 false from rfl)).trans
    ((keys_gap p o (show piece (47 :: ([42, 32, 120, 32, 42, 47, 32] ++ l)) = .gap 7 false from rfl)).trans
      (keys_gap p o (show piece (32 :: l) = .gap 1 false from rfl)))⟩
theorem gp_bare (l : Bs) : Gp [32, 47, 42, 42, 47, 32] l := ⟨⟨_, _, rfl, .inl rfl⟩, by decide, fun p o =>
  (keys_gap p o (show piece (32 :: ([47, 42, 42, 47, 32] ++ l)) = .gap 1 false from rfl)).trans
    ((keys_gap p o (show piece (47 :: ([42, 42, 47, 32] ++ l)) = .gap 4 false from rfl)).trans
      (keys_gap p o (show piece (32 :: l) = .gap 1 false from rfl)))⟩
theorem gp_behind : Gp [32, 47, 47, 32, 98, 101, 104, 105, 110, 100] [] := ⟨⟨_, _, rfl, .inl rfl⟩, by decide, fun p o =>
  (keys_gap p o (show piece (32 :: [47, 47, 32, 98, 101, 104, 105, 110, 100]) = .gap 1 false from rfl)).trans
    (keys_gap p o (show piece (47 :: [47, 32, 98, 101, 104, 105, 110, 100]) = .gap 9 false from rfl))⟩
end Go.Proofs.Ytkhfciinbdhbpaa
