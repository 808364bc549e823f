/- Package wide: Parse; conditions: none. -/
import Derived.Test.YtgleldpdelhhhaaDoorWide8
import Derived.Test.YtgleldpdelhhhaaDoorTrim
namespace Go.Proofs.YtgleldpdelhhhaaDoor
open Go.RowKit Go.WideShapes Go.ChangeShapes Go.Shelf
set_option linter.unusedVariables false
set_option maxRecDepth 100000

/-! ### strings.Trim of digits -/
abbrev tenS : ByteArray := ⟨#[48, 49, 50, 51, 52, 53, 54, 55, 56, 57]⟩
theorem keep_drop {α : Type} (p : α → Bool) : ∀ (l : List α) (x : α), x ∈ l → p x = false → x ∈ l.dropWhile p
  | [], x, h, _ => by cases h
  | y :: l, x, h, hp => by
    rw [List.dropWhile_cons]
    split
    · rename_i hy
      rcases List.mem_cons.1 h with rfl | h
      · rw [hp] at hy; cases hy
      · exact keep_drop p l x h hp
    · exact h
theorem drop_all {α : Type} (p : α → Bool) : ∀ (l : List α), (∀ x ∈ l, p x = true) → l.dropWhile p = []
  | [], _ => rfl
  | y :: l, h => by
    rw [List.dropWhile_cons, if_pos (h y List.mem_cons_self)]
    exact drop_all p l fun x hx => h x (List.mem_cons_of_mem _ hx)
theorem trimS_nil {l cs : List UInt8} (h : ∀ x ∈ l, cs.contains x = true) : Lib.trimS l cs = [] := by
  unfold Lib.trimS Lib.trimLeftS Lib.trimRightS
  rw [drop_all _ l.reverse (fun x hx => h x (List.mem_reverse.1 hx))]
  rfl
theorem trimS_ne {l cs : List UInt8} {x : UInt8} (hx : x ∈ l) (h : cs.contains x = false) : Lib.trimS l cs ≠ [] := by
  intro e
  unfold Lib.trimS Lib.trimLeftS Lib.trimRightS at e
  have h1 : x ∈ (l.reverse.dropWhile (cs.contains ·)).reverse := List.mem_reverse.2 (keep_drop _ _ _ (List.mem_reverse.2 hx) h)
  have h2 := keep_drop (cs.contains ·) _ _ h1 h
  rw [e] at h2
  cases h2
def digB (c : UInt8) : Bool := 48 ≤ c.toNat && c.toNat ≤ 57
theorem ten_has (c : UInt8) : tenS.data.toList.contains c = digB c := by
  have h : ∀ n : Nat, n < 256 → tenS.data.toList.contains (UInt8.ofNat n) = digB (UInt8.ofNat n) := by decide +kernel
  have := h c.toNat c.toNat_lt
  simpa using this
theorem trim_any (s : ByteArray) (hs : s.size ≤ maxLen) (w : World) :
    Calls Tryd.prog 58 #[.string s, .string tenS] w fun e w' => e = .returned (.string ⟨(Lib.trimS s.data.toList tenS.data.toList).toArray⟩) ∧ Below w.heap.size w w' := by
  unfold maxLen at hs
  exact Any.strings_Trim_laid Tryd.lays160 (by kernel_rfl) s tenS w (by omega) (by decide) (ascii_of_all (by decide +kernel))
end Go.Proofs.YtgleldpdelhhhaaDoor
