/- Whether a truth stands in a list (isIn); conditions: the list is in memory. -/
import Derived.Test.YtaaadbaakhjkcaaFlG
namespace Go.Proofs.Ytaaadbaakhjkcaa
open Go.RowKit Go.WideShapes Go.ChangeShapes
set_option linter.unusedVariables false
set_option linter.unusedSimpArgs false
set_option maxRecDepth 100000

def encB (b : Bool) : List Value := [.bool b]
theorem encB_length (b : Bool) : (encB b).length = 1 := rfl
def BoolsAt (w : World) (v : Value) (l : List Bool) : Prop := RowAt 1 encB w v l
theorem BoolsAt.at_ {w : World} {A : Option Addr} {n c i : Nat} {l : List Bool} (h : BoolsAt w (.slice A n c) l) (hi : i < l.length) : ∃ blk off x, A = some ⟨blk, off, none⟩ ∧ blk < w.heap.size ∧ l[i]? = some x ∧ w.cell? ⟨blk, off + i, none⟩ = some (.bool x) := by
  obtain ⟨b, o, x, e1, e2, e3, e4⟩ := RowAt.at_ h hi
  refine ⟨b, o, x, e1, e2, e3, ?_⟩
  have h2 := e4 0 (.bool x) rfl
  rw [Nat.mul_one, Nat.add_zero] at h2
  exact h2
def inB (l : List Bool) (i : Int) : Bool := decide (0 ≤ i) && (match l[i.toNat]? with | some b => b | none => false)
theorem inB_neg {l : List Bool} {i : Int} (h : ¬ 0 ≤ i) : inB l i = false := by unfold inB; rw [decide_eq_false h]; rfl
theorem inB_some {l : List Bool} {k : Nat} {b : Bool} (h : l[k]? = some b) : inB l (k : Int) = b := by
  unfold inB
  rw [decide_eq_true (by omega), Int.toNat_natCast, h]
  rfl
theorem inB_none {l : List Bool} {k : Nat} (h : l.length ≤ k) : inB l (k : Int) = false := by
  unfold inB
  rw [Int.toNat_natCast, List.getElem?_eq_none h]
  simp
theorem isin_any (v : Value) (l : List Bool) (i : Int) (w : World) (h : BoolsAt w v l) : Calls Try.prog 50 #[v, .int .i64 i] w (BoolP w (inB l i)) := by
  obtain ⟨A, c, rfl⟩ := RowAt.form h
  obtain ⟨m, hm⟩ : ∃ m, m = l.length := ⟨_, rfl⟩
  rw [← hm] at h ⊢
  by_cases h0 : (0 : Int) ≤ i
  · obtain ⟨k, rfl⟩ : ∃ k : Nat, i = (k : Int) := ⟨i.toNat, by omega⟩
    by_cases hk : k < m
    · obtain ⟨b, o, x, rfl, hbl, hx, y⟩ := h.at_ (i := k) (by omega)
      have HE := hide (inB_some hx)
      have j1 : (k : Int) < (m : Int) := by omega
      clear hx hbl hm h
      cases x with
      | true =>
        go_enter Try.func50, Try.ntmps50
        go_wp2_with fail
        go_ret
        exact ⟨ret_bS HE.out.symm, Below.refl _ _⟩
      | false =>
        go_enter Try.func50, Try.ntmps50
        go_wp2_with fail
        go_ret
        exact ⟨ret_bS HE.out.symm, Below.refl _ _⟩
    · have HE := hide (inB_none (l := l) (k := k) (by omega))
      have j1 : ¬ (k : Int) < (m : Int) := by omega
      clear hm h hk
      go_enter Try.func50, Try.ntmps50
      go_wp2_with fail
      go_ret
      exact ⟨ret_bS HE.out.symm, Below.refl _ _⟩
  · have HE := hide (inB_neg (l := l) h0)
    clear hm h
    go_enter Try.func50, Try.ntmps50
    go_wp2_with fail
    go_ret
    exact ⟨ret_bS HE.out.symm, Below.refl _ _⟩
end Go.Proofs.Ytaaadbaakhjkcaa
