/- What ScopeFirst answers. -/
import Derived.Test.YtllddgfmjmblmaaScope6
namespace Go.Proofs.Ytllddgfmjmblmaa
open Go.RowKit Go.WideShapes Go.ChangeShapes
set_option linter.unusedVariables false
set_option maxRecDepth 100000

theorem look_append (tbl : List ((Int × ByteArray) × Nat)) (k k' : Int × ByteArray) (i : Nat) : look (tbl ++ [(k, i)]) k' = match look tbl k' with | some j => some j | none => if k = k' then some i else none := by
  unfold look
  rw [List.find?_append]
  cases h : tbl.find? fun p => decide (p.1 = k') with
  | some p => simp
  | none =>
    by_cases e : k = k'
    · simp [e]
    · simp [e]

/-- A table whose scopes are all there. -/
def TblOk (n : Nat) (tbl : List ((Int × ByteArray) × Nat)) : Prop := ∀ p ∈ tbl, p.1.1 ≤ n
theorem look_new {n : Nat} {tbl : List ((Int × ByteArray) × Nat)} (h : TblOk n tbl) {a : Int} (ha : n < a) (name : ByteArray) : look tbl (a, name) = none :=
  look_none fun p hp e => by
    have := h p hp
    rw [e] at this
    simp at this
    omega

theorem findF_push {outer : List Int} (tbl : List ((Int × ByteArray) × Nat)) (name : ByteArray) (v : Int) : ∀ (f : Nat) (a : Int), OuterOk outer → a ≤ outer.length → findF (outer ++ [v]) tbl name f a = findF outer tbl name f a
  | 0, a, _, _ => rfl
  | f + 1, a, ho, ha => by
    unfold findF
    by_cases hb : hasB outer.length a = true
    · have hb' : hasB (outer ++ [v]).length a = true := by rw [hasB_iff] at hb ⊢; simp; omega
      rw [if_pos hb, if_pos hb']
      obtain ⟨h1, h2, h3⟩ := outer_at ho hb
      have hl : (a - 1).toNat < outer.length := (List.getElem?_eq_some_iff.1 h1).1
      have hd : (outer ++ [v]).getD (a - 1).toNat 0 = outer.getD (a - 1).toNat 0 := by
        rw [List.getD_eq_getElem?_getD, List.getD_eq_getElem?_getD, List.getElem?_append_left hl]
      rw [hd]
      cases look tbl (a, name) with
      | some i => rfl
      | none => exact findF_push tbl name v f _ ho (by rw [hasB_iff] at hb; omega)
    · have hb' : ¬ hasB (outer ++ [v]).length a = true := by
        rw [hasB_iff] at hb ⊢
        simp
        omega
      rw [if_neg hb, if_neg hb']

theorem findF_tbl {outer : List Int} {tbl : List ((Int × ByteArray) × Nat)} (name : ByteArray) (b : Int) (nm : ByteArray) (i : Nat) : ∀ (f : Nat) (a : Int), OuterOk outer → a < b → findF outer (tbl ++ [((b, nm), i)]) name f a = findF outer tbl name f a
  | 0, a, _, _ => rfl
  | f + 1, a, ho, ha => by
    unfold findF
    by_cases hb : hasB outer.length a = true
    · rw [if_pos hb, if_pos hb]
      obtain ⟨h1, h2, h3⟩ := outer_at ho hb
      have hl : look (tbl ++ [((b, nm), i)]) (a, name) = look tbl (a, name) := by
        rw [look_append]
        cases look tbl (a, name) with
        | some j => rfl
        | none =>
          have : ¬ ((b, nm) = (a, name)) := fun e => by injection e with e; omega
          simp [this]
      rw [hl]
      cases look tbl (a, name) with
      | some i => rfl
      | none => exact findF_tbl name b nm i f _ ho (by omega)
    · rw [if_neg hb, if_neg hb]

end Go.Proofs.Ytllddgfmjmblmaa
