/- How many bytes at a text's beginning are parts of names; conditions: the text's size. -/
import Derived.Test.YtgnobpljnahceaaDoorSnB
import Derived.StillTailTactics
namespace Go.Proofs.YtgnobpljnahceaaDoor
open Go.RowKit Go.WideShapes Go.ChangeShapes
set_option linter.unusedVariables false
set_option maxRecDepth 100000

theorem dropS (s : ByteArray) (k : Nat) (h : k < s.size) : s.data.toList.drop k = (s[k]'h) :: s.data.toList.drop (k + 1) := by
  rw [List.drop_eq_getElem_cons (by simpa using h)]
  rfl
/-- How many bytes at the beginning are of a kind. -/
def headN (p : Int → Bool) (l : List UInt8) : Nat := (l.takeWhile fun b => p (b.toNat : Int)).length
theorem headN_cons (p : Int → Bool) (b : UInt8) (l : List UInt8) : headN p (b :: l) = if p (b.toNat : Int) then headN p l + 1 else 0 := by
  unfold headN
  rw [List.takeWhile_cons]
  split <;> simp
def RunRel (w : World) (p : Int → Bool) (s : ByteArray) (i : Value) (wr : World) : Prop :=
  ∃ k : Nat, i = .int .i64 (k : Int) ∧ k ≤ s.size ∧ headN p s.data.toList = k + headN p (s.data.toList.drop k) ∧ w = wr

/-- Whether a byte isn't a line's end. -/
def noEndC (c : Int) : Bool := c != 10
theorem is_no_end (c : Int) (w : World) : Calls Tryd.prog 66 #[.int .u8 c] w fun e w' => e = .returned (.bool (noEndC c)) ∧ w = w' := by
  go_enter Tryd.func66, Tryd.ntmps66
  go_wp2_with fail
  all_goals go_ret
  all_goals exact ⟨rfl, rfl⟩

set_option maxHeartbeats 1000000 in
theorem run_part (s : ByteArray) (hs : s.size ≤ 4611686018427387904) (w : World) :
    Calls Tryd.prog 65 #[.string s, .func (.func 70) #[] #[]] w fun e w' => e = .returned (.int .i64 (headN partC s.data.toList : Int)) ∧ w = w' := by
  obtain ⟨c, hc⟩ : ∃ c, c = headN partC s.data.toList := ⟨_, rfl⟩
  rw [← hc]
  have HC := hide hc
  have HS := hide hs
  have hz : s.size ≤ 9223372036854775807 := by omega
  clear hc
  go_enter Tryd.func65, Tryd.ntmps65
  go_wp2_with fail
  go_loopw [5] (fun i wr => RunRel w partC s i wr) (fun i _ => (((s.size : Int) - intOf i).toNat))
  case atStart => exact ⟨0, rfl, Nat.zero_le _, by simp, rfl⟩
  case round =>
    obtain ⟨k, rfl, hks, hcm, rfl⟩ := hrel
    have HCM := hide hcm
    clear hcm
    by_cases h1 : k < s.size
    · have e1 := dropS s k h1
      have hcm := HCM.out
      rw [e1, headN_cons] at hcm
      have i1 : (k : Int) < (s.size : Int) := by omega
      have hw : IntKind.i64.wrap ((k : Int) + 1) = (k : Int) + 1 := IntWalk.i64_in _ (by have := HS.out; omega)
      have hp := is_part ((s[k]'h1).toNat : Int) w
      cases hb : partC ((s[k]'h1).toNat : Int) with
      | true =>
        rw [hb] at hp
        rw [hb, if_pos rfl] at hcm
        have HP := hide hp
        have HE := hide (show RunRel w partC s (.int .i64 ((k : Int) + 1)) w from ⟨k + 1, by simp, by omega, by omega, rfl⟩)
        clear hp hcm hb e1
        go_wp2_with fail
        refine HP.out.mono ?_
        rintro e w' ⟨rfl, rfl⟩
        go_wp2_with fail
        go_roundw
        case rel => exact HE.out
        case measure => simp [intOf]; omega
      | false =>
        rw [hb] at hp
        rw [hb, if_neg (by simp)] at hcm
        have HP := hide hp
        have hck : c = k := by have := HC.out; omega
        clear hp hcm hb e1
        go_wp2_with fail
        refine HP.out.mono ?_
        rintro e w' ⟨rfl, rfl⟩
        go_wp2_with fail
        go_ret
        exact ⟨by rw [hck]; rfl, rfl⟩
    · have hk : k = s.size := by omega
      have hcm := HCM.out
      rw [List.drop_eq_nil_of_le (by simp; omega)] at hcm
      have hck : c = k := by have := HC.out; simp [headN] at hcm this; omega
      have i1 : decide ((k : Int) < (s.size : Int)) = false := decide_eq_false (by omega)
      clear hcm
      go_wp2_with fail
      go_ret
      exact ⟨by rw [hck]; rfl, rfl⟩
set_option maxHeartbeats 1000000 in
theorem run_digit (s : ByteArray) (hs : s.size ≤ 4611686018427387904) (w : World) :
    Calls Tryd.prog 65 #[.string s, .func (.func 71) #[] #[]] w fun e w' => e = .returned (.int .i64 (headN digitC s.data.toList : Int)) ∧ w = w' := by
  obtain ⟨c, hc⟩ : ∃ c, c = headN digitC s.data.toList := ⟨_, rfl⟩
  rw [← hc]
  have HC := hide hc
  have HS := hide hs
  have hz : s.size ≤ 9223372036854775807 := by omega
  clear hc
  go_enter Tryd.func65, Tryd.ntmps65
  go_wp2_with fail
  go_loopw [5] (fun i wr => RunRel w digitC s i wr) (fun i _ => (((s.size : Int) - intOf i).toNat))
  case atStart => exact ⟨0, rfl, Nat.zero_le _, by simp, rfl⟩
  case round =>
    obtain ⟨k, rfl, hks, hcm, rfl⟩ := hrel
    have HCM := hide hcm
    clear hcm
    by_cases h1 : k < s.size
    · have e1 := dropS s k h1
      have hcm := HCM.out
      rw [e1, headN_cons] at hcm
      have i1 : (k : Int) < (s.size : Int) := by omega
      have hw : IntKind.i64.wrap ((k : Int) + 1) = (k : Int) + 1 := IntWalk.i64_in _ (by have := HS.out; omega)
      have hp := is_digit ((s[k]'h1).toNat : Int) w
      cases hb : digitC ((s[k]'h1).toNat : Int) with
      | true =>
        rw [hb] at hp
        rw [hb, if_pos rfl] at hcm
        have HP := hide hp
        have HE := hide (show RunRel w digitC s (.int .i64 ((k : Int) + 1)) w from ⟨k + 1, by simp, by omega, by omega, rfl⟩)
        clear hp hcm hb e1
        go_wp2_with fail
        refine HP.out.mono ?_
        rintro e w' ⟨rfl, rfl⟩
        go_wp2_with fail
        go_roundw
        case rel => exact HE.out
        case measure => simp [intOf]; omega
      | false =>
        rw [hb] at hp
        rw [hb, if_neg (by simp)] at hcm
        have HP := hide hp
        have hck : c = k := by have := HC.out; omega
        clear hp hcm hb e1
        go_wp2_with fail
        refine HP.out.mono ?_
        rintro e w' ⟨rfl, rfl⟩
        go_wp2_with fail
        go_ret
        exact ⟨by rw [hck]; rfl, rfl⟩
    · have hk : k = s.size := by omega
      have hcm := HCM.out
      rw [List.drop_eq_nil_of_le (by simp; omega)] at hcm
      have hck : c = k := by have := HC.out; simp [headN] at hcm this; omega
      have i1 : decide ((k : Int) < (s.size : Int)) = false := decide_eq_false (by omega)
      clear hcm
      go_wp2_with fail
      go_ret
      exact ⟨by rw [hck]; rfl, rfl⟩
set_option maxHeartbeats 1000000 in
theorem run_no_end (s : ByteArray) (hs : s.size ≤ 4611686018427387904) (w : World) :
    Calls Tryd.prog 65 #[.string s, .func (.func 66) #[] #[]] w fun e w' => e = .returned (.int .i64 (headN noEndC s.data.toList : Int)) ∧ w = w' := by
  obtain ⟨c, hc⟩ : ∃ c, c = headN noEndC s.data.toList := ⟨_, rfl⟩
  rw [← hc]
  have HC := hide hc
  have HS := hide hs
  have hz : s.size ≤ 9223372036854775807 := by omega
  clear hc
  go_enter Tryd.func65, Tryd.ntmps65
  go_wp2_with fail
  go_loopw [5] (fun i wr => RunRel w noEndC s i wr) (fun i _ => (((s.size : Int) - intOf i).toNat))
  case atStart => exact ⟨0, rfl, Nat.zero_le _, by simp, rfl⟩
  case round =>
    obtain ⟨k, rfl, hks, hcm, rfl⟩ := hrel
    have HCM := hide hcm
    clear hcm
    by_cases h1 : k < s.size
    · have e1 := dropS s k h1
      have hcm := HCM.out
      rw [e1, headN_cons] at hcm
      have i1 : (k : Int) < (s.size : Int) := by omega
      have hw : IntKind.i64.wrap ((k : Int) + 1) = (k : Int) + 1 := IntWalk.i64_in _ (by have := HS.out; omega)
      have hp := is_no_end ((s[k]'h1).toNat : Int) w
      cases hb : noEndC ((s[k]'h1).toNat : Int) with
      | true =>
        rw [hb] at hp
        rw [hb, if_pos rfl] at hcm
        have HP := hide hp
        have HE := hide (show RunRel w noEndC s (.int .i64 ((k : Int) + 1)) w from ⟨k + 1, by simp, by omega, by omega, rfl⟩)
        clear hp hcm hb e1
        go_wp2_with fail
        refine HP.out.mono ?_
        rintro e w' ⟨rfl, rfl⟩
        go_wp2_with fail
        go_roundw
        case rel => exact HE.out
        case measure => simp [intOf]; omega
      | false =>
        rw [hb] at hp
        rw [hb, if_neg (by simp)] at hcm
        have HP := hide hp
        have hck : c = k := by have := HC.out; omega
        clear hp hcm hb e1
        go_wp2_with fail
        refine HP.out.mono ?_
        rintro e w' ⟨rfl, rfl⟩
        go_wp2_with fail
        go_ret
        exact ⟨by rw [hck]; rfl, rfl⟩
    · have hk : k = s.size := by omega
      have hcm := HCM.out
      rw [List.drop_eq_nil_of_le (by simp; omega)] at hcm
      have hck : c = k := by have := HC.out; simp [headN] at hcm this; omega
      have i1 : decide ((k : Int) < (s.size : Int)) = false := decide_eq_false (by omega)
      clear hcm
      go_wp2_with fail
      go_ret
      exact ⟨by rw [hck]; rfl, rfl⟩
end Go.Proofs.YtgnobpljnahceaaDoor
