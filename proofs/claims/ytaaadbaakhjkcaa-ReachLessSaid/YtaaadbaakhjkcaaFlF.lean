/- Rows of numbers side by side, each of which may grow; blocks as mathematics; no conditions. -/
import Derived.Test.YtaaadbaakhjkcaaFlE
namespace Go.Proofs.Ytaaadbaakhjkcaa
open Go.RowKit Go.WideShapes Go.ChangeShapes
set_option linter.unusedVariables false
set_option linter.unusedSimpArgs false
set_option maxRecDepth 100000

def upd {α : Type} (f : Nat → α) (i : Nat) (v : α) : Nat → α := fun q => if q = i then v else f q
theorem upd_at {α : Type} (f : Nat → α) (i : Nat) (v : α) : upd f i v i = v := if_pos rfl
theorem upd_ne {α : Type} (f : Nat → α) {i q : Nat} (v : α) (h : q ≠ i) : upd f i v q = f q := if_neg h
/-- Rows of one's own, no two of which lie in one block. -/
structure Fam (w : World) (B N : Nat) (R : Nat → Value) (RL : Nat → List Int) : Prop where
  own : ∀ i, i < N → w.ownsRow B 3 1 (R i) (RL i).length ((RL i).map iI)
  dis : ∀ i j, i < N → j < N → i ≠ j → ∀ q, (R i).ownBlock = some q → (R j).ownBlock ≠ some q
section
variable {w w' : World} {B N : Nat} {R : Nat → Value} {RL : Nat → List Int}
theorem Fam.below (h : Fam w B N R RL) (hb : Below w.heap.size w w') : Fam w' B N R RL := ⟨fun i hi => own_belowT (h.own i hi) hb, h.dis⟩
theorem Fam.start (w : World) (B N : Nat) : Fam w B N (fun _ => .slice none 0 0) (fun _ => []) := ⟨fun i _ => World.ownsRow_nil _ _ _ _, fun i j _ _ _ q hq => by cases hq⟩
/-- A cell is stored into a block of another type. -/
theorem Fam.far (h : Fam w B N R RL) {k i : Nat} {T : TypeId} {cs : Array Value} (hk : Blk w k T cs) (hT : 3 ≠ T) (u : Value) : Fam (w.setCell ⟨k, i, none⟩ u) B N R RL :=
  ⟨fun j hj => ownsRow_setCell_other (a := ⟨k, i, none⟩) (h.own j hj) (own_blk_ne (h.own j hj) hk hT) u, h.dis⟩
theorem Fam.grow (h : Fam w B N R RL) {i : Nat} (hi : i < N) {v' : Value} {y : Int} (hg : w.grownBy w' (R i).ownBlock) (hv : w'.ownsRow B 3 1 v' ((RL i).length + 1) ((RL i ++ [y]).map iI)) (hat : v'.ownBlock = (R i).ownBlock ∨ v'.ownBlock = some w.heap.size) : Fam w' B N (upd R i v') (upd RL i (RL i ++ [y])) := by
  refine ⟨fun j hj => ?_, fun j k hj hk hjk q hq => ?_⟩
  · by_cases e : j = i
    · subst e
      rw [upd_at, upd_at, List.length_append]
      exact hv
    · rw [upd_ne _ _ e, upd_ne _ _ e]
      exact own_grT (h.own j hj) hg (fun q hq e2 => h.dis j i hj hi e q hq e2.symm)
  · by_cases e : j = i
    · subst e
      rw [upd_at] at hq
      rw [upd_ne _ _ (Ne.symm hjk)]
      rcases hat with e2 | e2
      · exact h.dis j k hj hk hjk q (e2.symm.trans hq)
      · intro e3
        have e4 : w.heap.size = q := by injection e2.symm.trans hq
        have := ((h.own k hk).lt q e3).2
        omega
    · rw [upd_ne _ _ e] at hq
      by_cases e2 : k = i
      · subst e2
        rw [upd_at]
        rcases hat with e3 | e3
        · rw [e3]; exact h.dis j k hj hk hjk q hq
        · rw [e3]
          intro e4
          have e5 : w.heap.size = q := by injection e4
          have := ((h.own j hj).lt q hq).2
          omega
      · rw [upd_ne _ _ e2]
        exact h.dis j k hj hk hjk q hq
/-- A block that none of the rows lies in stays. -/
theorem Fam.stays (h : Fam w B N R RL) {i k : Nat} (hi : i < N) {T : TypeId} {cs : Array Value} (hk : Blk w k T cs) (hne : 3 ≠ T ∨ k < B) (hg : w.grownBy w' (R i).ownBlock) : Blk w' k T cs := by
  refine hk.grown hg (fun e => ?_)
  rcases hne with h2 | h2
  · exact own_blk_ne (h.own i hi) hk h2 e.symm
  · have := ((h.own i hi).lt k e.symm).1
    omega
end
/-- The blocks of the first k instructions: from where up to where. -/
def bls (B : Nat → Bool) : Nat → List (Nat × Nat)
  | 0 => []
  | k + 1 => if B k = true then bls B k ++ [(k, k + 1)] else (bls B k).dropLast ++ (match (bls B k).getLast? with | some x => [(x.1, k + 1)] | none => [])
/-- The block of an instruction. -/
def atB (B : Nat → Bool) (q : Nat) : Nat := (bls B (q + 1)).length - 1
section
variable {B : Nat → Bool} (h0 : B 0 = true)
include h0
theorem bls_pos : ∀ k, 0 < (bls B (k + 1)).length
  | 0 => by unfold bls; rw [if_pos h0]; simp
  | k + 1 => by
    have ih := bls_pos k
    unfold bls
    split
    · simp
    · cases hl : (bls B (k + 1)).getLast? with
      | none =>
        rw [List.getLast?_eq_none_iff] at hl
        rw [hl] at ih
        simp at ih
      | some x => simp
theorem bls_len (k : Nat) : (bls B (k + 2)).length = (bls B (k + 1)).length + (if B (k + 1) = true then 1 else 0) := by
  have ih := bls_pos h0 k
  show (bls B ((k + 1) + 1)).length = _
  rw [bls]
  split
  · simp
  · cases hl : (bls B (k + 1)).getLast? with
    | none =>
      rw [List.getLast?_eq_none_iff] at hl
      rw [hl] at ih
      simp at ih
    | some x =>
      simp
      omega
/-- What blocks are: one behind the other, up to k; each begins where it may, and in none does one begin but at its head. -/
structure BlsOk (B : Nat → Bool) (k : Nat) (l : List (Nat × Nat)) : Prop where
  first : ∀ x : Nat × Nat, l[0]? = some x → x.1 = 0
  next : ∀ (i : Nat) (x y : Nat × Nat), l[i]? = some x → l[i + 1]? = some y → x.2 = y.1
  lt : ∀ (i : Nat) (x : Nat × Nat), l[i]? = some x → x.1 < x.2 ∧ x.2 ≤ k
  last : ∀ x : Nat × Nat, l.getLast? = some x → x.2 = k
  heads : ∀ (i : Nat) (x : Nat × Nat), l[i]? = some x → B x.1 = true ∧ ∀ q, x.1 < q → q < x.2 → B q = false
end
end Go.Proofs.Ytaaadbaakhjkcaa
