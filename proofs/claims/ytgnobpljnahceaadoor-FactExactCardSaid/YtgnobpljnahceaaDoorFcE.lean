/- A line at its blanks, as plain mathematics; the fact of a line; conditions: none. -/
import Derived.Test.YtgnobpljnahceaaDoorFcD
namespace Go.Proofs.YtgnobpljnahceaaDoor
open Go.RowKit Go.WideShapes Go.ChangeShapes Go.Shelf
set_option linter.unusedVariables false
set_option linter.unusedSimpArgs false
set_option maxRecDepth 100000

/-- The pieces of a text between its blanks. -/
def splitS : Bs → List Bs
  | [] => [[]]
  | b :: l => if b = 32 then [] :: splitS l else match splitS l with | p :: ps => (b :: p) :: ps | [] => [[b]]
theorem splitS_ne (l : Bs) : splitS l ≠ [] := by
  cases l with
  | nil => simp [splitS]
  | cons b l =>
    unfold splitS
    split
    · simp
    · split <;> simp
theorem splitS_plain : ∀ (p : Bs), (∀ b ∈ p, b ≠ 32) → splitS p = [p]
  | [], _ => rfl
  | b :: p, h => by
    unfold splitS
    rw [if_neg (h b (by simp)), splitS_plain p (fun c hc => h c (by simp [hc]))]
theorem splitS_hit : ∀ (p r : Bs), (∀ b ∈ p, b ≠ 32) → splitS (p ++ 32 :: r) = p :: splitS r
  | [], r, _ => by show (if (32 : UInt8) = 32 then [] :: splitS r else _) = _; rw [if_pos rfl]
  | b :: p, r, h => by
    show splitS (b :: (p ++ 32 :: r)) = _
    conv => lhs; unfold splitS
    rw [if_neg (h b (by simp)), splitS_hit p r (fun c hc => h c (by simp [hc]))]
theorem index32 : ∀ (l : Bs), (Lib.index l [32] = -1 ∧ ∀ b ∈ l, b ≠ 32) ∨ ∃ p r, l = p ++ 32 :: r ∧ (∀ b ∈ p, b ≠ 32) ∧ Lib.index l [32] = (p.length : Int)
  | [] => .inl ⟨rfl, by simp⟩
  | b :: l => by
    by_cases hb : b = 32
    · subst hb
      exact .inr ⟨[], l, rfl, by simp, by simp [Lib.index]⟩
    · have hp : ([32] : Bs).isPrefixOf (b :: l) = false := by simp [List.isPrefixOf]; exact fun e => hb e.symm
      rcases index32 l with ⟨h1, h2⟩ | ⟨p, r, rfl, h2, h3⟩
      · refine .inl ⟨?_, fun c hc => ?_⟩
        · unfold Lib.index
          rw [hp, h1]
          rfl
        · rcases List.mem_cons.1 hc with rfl | hc
          · exact hb
          · exact h2 c hc
      · refine .inr ⟨b :: p, r, rfl, fun c hc => ?_, ?_⟩
        · rcases List.mem_cons.1 hc with rfl | hc
          · exact hb
          · exact h2 c hc
        · unfold Lib.index
          rw [hp, h3]
          have : ¬ ((p.length : Int) == -1) = true := fun e => by have := beq_iff_eq.1 e; omega
          rw [if_neg (by simp), if_neg this]
          simp
theorem split_same : ∀ (k : Nat) (s : ByteArray), Lib.countB s ⟨#[32]⟩ = k → (Lib.splitB ⟨#[32]⟩ 0 k s).map (·.data.toList) = splitS s.data.toList
  | 0, s, h => by
    rcases index32 s.data.toList with ⟨h1, h2⟩ | ⟨p, r, h1, h2, h3⟩
    · rw [Lib.splitB_zero, splitS_plain _ h2]; rfl
    · have h4 := Lib.countB_hit s ⟨#[32]⟩ p.length (by decide) (show Lib.indexB s ⟨#[32]⟩ = _ from h3)
      omega
  | k + 1, s, h => by
    rcases index32 s.data.toList with ⟨h1, h2⟩ | ⟨p, r, h1, h2, h3⟩
    · have h4 := Lib.countB_miss s ⟨#[32]⟩ (show Lib.indexB s ⟨#[32]⟩ = _ from h1)
      omega
    · have h5 : Lib.indexB s ⟨#[32]⟩ = (p.length : Int) := h3
      have h4 := Lib.countB_hit s ⟨#[32]⟩ p.length (by decide) h5
      rw [Lib.splitB_hit _ 0 k s p.length h5, List.map_cons, split_same k _ (by omega), h1, splitS_hit p r h2]
      have e1 : (s.extract 0 (p.length + 0)).data.toList = p := by
        rw [Lib.extract_from_zero, h1, Nat.add_zero, List.take_left]
      have e2 : (s.extract (p.length + (⟨#[32]⟩ : ByteArray).size) s.size).data.toList = r := by
        have : (⟨#[32]⟩ : ByteArray).size = 1 := rfl
        rw [this, Lib.extract_to_end, h1, ← List.drop_drop, List.drop_left]
        rfl
      rw [e1, e2]
theorem join_two (p : Bs) (ps : List Bs) (h : ps ≠ []) : Lib.join (p :: ps) [32] = p ++ 32 :: Lib.join ps [32] := by
  rw [Lib.join_cons]
  cases ps with
  | nil => exact absurd rfl h
  | cons q qs =>
    rw [Lib.join_cons]
    simp [Lib.joinTail]
theorem join_split : ∀ l : Bs, Lib.join (splitS l) [32] = l
  | [] => rfl
  | b :: l => by
    have ih := join_split l
    have hne := splitS_ne l
    unfold splitS
    split
    · next h => subst h; rw [join_two _ _ hne, ih]; rfl
    · cases hs : splitS l with
      | nil => exact absurd hs hne
      | cons p ps =>
        rw [hs] at ih
        simp only
        cases ps with
        | nil => rw [Lib.join_one] at ih ⊢; rw [ih]
        | cons q qs => rw [join_two _ _ (by simp)] at ih ⊢; rw [List.cons_append, ih]
theorem join_app : ∀ (ps qs : List Bs), ps ≠ [] → qs ≠ [] → Lib.join (ps ++ qs) [32] = Lib.join ps [32] ++ 32 :: Lib.join qs [32]
  | [], _, h, _ => absurd rfl h
  | [p], qs, _, h => by rw [List.singleton_append, join_two _ _ h, Lib.join_one]
  | p :: q :: ps, qs, _, h => by
    rw [List.cons_append, join_two p ((q :: ps) ++ qs) (by simp), join_app (q :: ps) qs (by simp) h, join_two p (q :: ps) (by simp)]
    simp
theorem join_mem : ∀ {ps : List Bs} {p : Bs}, p ∈ ps → p.length ≤ (Lib.join ps [32]).length
  | [], p, h => by cases h
  | [q], p, h => by simp at h; subst h; rw [Lib.join_one]; exact Nat.le_refl _
  | q :: r :: ps, p, h => by
    rw [join_two _ _ (by simp), List.length_append, List.length_cons]
    rcases List.mem_cons.1 h with rfl | h
    · omega
    · have := join_mem h
      omega
theorem join_take (ps : List Bs) (k : Nat) : (Lib.join (ps.take k) [32]).length ≤ (Lib.join ps [32]).length := by
  by_cases h1 : ps.take k = []
  · rw [h1]; simp [Lib.join_nil]
  by_cases h2 : ps.drop k = []
  · have := List.take_append_drop k ps
    rw [h2, List.append_nil] at this
    rw [this]
    exact Nat.le_refl _
  · conv => rhs; rw [← List.take_append_drop k ps, join_app _ _ h1 h2]
    rw [List.length_append]
    omega
/-- The fact of a line, out of its pieces and the tokens of all but the last two. -/
def toldR (ps : List Bs) (k : Nat) : Except (Nat × Nat) (List Tk) → Option TD
  | .error _ => none
  | .ok [] => none
  | .ok (t :: _) => if t.k = 4 then some ⟨t.t, ps.getD k [] == [110, 101, 118, 101, 114], if ps.getD (k + 1) [] = [45] then [] else (ps.getD (k + 1) []).map (· == 49)⟩ else none
def toldL (s : Bs) : Option TD :=
  if (splitS s).length < 3 then none else toldR (splitS s) ((splitS s).length - 2) (lexS (Lib.join ((splitS s).take ((splitS s).length - 2)) [32]) (1, 1) false)
end Go.Proofs.YtgnobpljnahceaaDoor
