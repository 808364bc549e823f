/- The sum of bytes; conditions: none. -/
import Derived.Test.YtgnobpljnahceaaDoorSnF
import Derived.Laws.Bits64
import Derived.IntWalk
import Derived.Lib.Strings
namespace Go.Proofs.YtgnobpljnahceaaDoor
open Go.RowKit Go.WideShapes Go.ChangeShapes
set_option linter.unusedVariables false
set_option linter.unusedSimpArgs false
set_option maxRecDepth 100000

/-- A step of the sum, and the sum. -/
def fstep (h : Nat) (b : UInt8) : Nat := ((h ^^^ b.toNat) * 1099511628211) % 18446744073709551616
def fnvF (h : Nat) (l : Bs) : Nat := l.foldl fstep h
def fnv (l : Bs) : Nat := fnvF 14695981039346656037 l
theorem fstep_lt (h : Nat) (b : UInt8) : fstep h b < 18446744073709551616 := by unfold fstep; omega
theorem fnvF_lt : ∀ (l : Bs) (h : Nat), h < 18446744073709551616 → fnvF h l < 18446744073709551616
  | [], h, hh => hh
  | b :: l, h, hh => fnvF_lt l (fstep h b) (fstep_lt h b)
theorem fnv_start : (14695981039346656037 : Nat) < 18446744073709551616 := by omega
theorem fnv_lt (l : Bs) : fnv l < 18446744073709551616 := fnvF_lt l _ fnv_start
theorem fnv_snoc (l : Bs) (b : UInt8) : fnv (l ++ [b]) = fstep (fnv l) b := by unfold fnv fnvF; rw [List.foldl_append, List.foldl_cons, List.foldl_nil]
theorem xor_lt64 (h : Nat) (b : UInt8) (hh : h < 18446744073709551616) : h ^^^ b.toNat < 18446744073709551616 :=
  Nat.xor_lt_two_pow (n := 64) hh (Nat.lt_of_lt_of_le b.toNat_lt (by omega))
theorem fstep_run (h : Nat) (b : UInt8) (hh : h < 18446744073709551616) : IntKind.u64.wrap (bits .xor .u64 (h : Int) (b.toNat : Int) * 1099511628211) = (fstep h b : Int) := by
  have hb := b.toNat_lt
  rw [bits_xor_u64_nat h b.toNat hh (by omega), IntKind.wrap_u64]
  unfold fstep
  omega
theorem take_next {s : ByteArray} {k : Nat} (h : k < s.size) : s.data.toList.take (k + 1) = s.data.toList.take k ++ [s[k]'h] := by
  rw [List.take_add_one, List.getElem?_eq_getElem (by rw [← Go.Lib.size_eq]; exact h)]
  rfl
/-- Ahead of each round of Sum. -/
def SumRel (w : World) (s : ByteArray) (h i : Value) (wr : World) : Prop := ∃ k : Nat, i = .int .i64 (k : Int) ∧ k ≤ s.size ∧ h = .int .u64 (fnv (s.data.toList.take k) : Int) ∧ w = wr

set_option maxHeartbeats 2000000 in
theorem sum_any (s : ByteArray) (hs : s.size ≤ 4611686018427387904) (w : World) : Calls Tryd.prog 15 #[.string s] w fun e w' => e = .returned (.int .u64 (fnv s.data.toList : Int)) ∧ w = w' := by
  go_enter Tryd.func15, Tryd.ntmps15
  go_wp2_with fail
  go_loopw [3, 4, 7] (fun h i j wr => SumRel w s h j wr) (fun _ _ j _ => (((s.size : Int) - intOf j).toNat))
  case atStart => exact ⟨0, rfl, Nat.zero_le _, rfl, rfl⟩
  case round =>
    obtain ⟨k, rfl, hk, rfl, rfl⟩ := hrel
    obtain ⟨h, hh⟩ : ∃ h, h = fnv (s.data.toList.take k) := ⟨_, rfl⟩
    rw [← hh]
    have HH := hide hh
    have hl : h < 18446744073709551616 := by rw [hh]; exact fnv_lt _
    by_cases hlt : k < s.size
    · have j1 : (k : Int) < (s.size : Int) := by omega
      have q1 : IntKind.i64.wrap ((k : Int) + 1) = (k : Int) + 1 := IntWalk.i64_in _ (by omega)
      have q2 : IntKind.u64.wrap ((s[k]'hlt).toNat : Int) = ((s[k]'hlt).toNat : Int) := IntWalk.u64_in _ (by have := (s[k]'hlt).toNat_lt; omega)
      have q3 := fstep_run h (s[k]'hlt) hl
      have hn : fnv (s.data.toList.take (k + 1)) = fstep h (s[k]'hlt) := by rw [take_next hlt, fnv_snoc, ← hh]
      have HN := hide hn
      clear hh hl hn
      go_wp2_with fail
      go_roundw
      case rel => exact ⟨k + 1, by simp, by omega, by rw [HN.out], rfl⟩
      case measure => simp [intOf]; omega
    · have j1 : ¬ (k : Int) < (s.size : Int) := by omega
      have he : h = fnv s.data.toList := by rw [hh, List.take_of_length_le (by rw [← Go.Lib.size_eq]; omega)]
      have HE := hide he
      clear hh he
      go_wp2_with fail
      go_ret
      exact ⟨by rw [← HE.out]; rfl, rfl⟩
end Go.Proofs.YtgnobpljnahceaaDoor
