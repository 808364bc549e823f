/- The reference's Quote, and the statement ScanTexts as a walk; conditions: the text's size, the library's variable. -/
import Derived.Test.YtgnobpljnahceaaDoorSnU
namespace Go.Proofs.YtgnobpljnahceaaDoor
open Go.RowKit Go.WideShapes Go.ChangeShapes
set_option linter.unusedVariables false
set_option linter.unusedSimpArgs false
set_option maxRecDepth 100000

theorem ba_add (x y : Bs) : (⟨x.toArray⟩ : ByteArray) ++ ⟨y.toArray⟩ = ⟨(x ++ y).toArray⟩ := by
  apply ByteArray.ext
  apply Array.ext'
  simp
theorem ba_size (x : Bs) : (⟨x.toArray⟩ : ByteArray).size = x.length := by rw [Lib.size_eq]
/-- Ahead of each round of the reference's Quote. -/
def RQRel (w : World) (s : ByteArray) (o i : Value) (wr : World) : Prop :=
  ∃ k : Nat, i = .int .i64 (k : Int) ∧ k ≤ s.size ∧ o = .string ⟨(34 :: qt (s.data.toList.take k)).toArray⟩ ∧ w = wr
set_option maxHeartbeats 4000000 in
theorem ref_quote (s : ByteArray) (hs : s.size ≤ 70000) (w : World) :
    Calls Tryd.prog 25 #[.string s] w fun e w' => e = .returned (.string ⟨(quoteL s.data.toList).toArray⟩) ∧ w = w' := by
  have HS := hide hs
  clear hs
  go_enter Tryd.func25, Tryd.ntmps25
  go_wp2_with fail
  go_loopw [3, 4] (fun o i wr => RQRel w s o i wr) (fun _ i _ => (((s.size : Int) - intOf i).toNat))
  case atStart => exact ⟨0, rfl, Nat.zero_le _, rfl, rfl⟩
  case round =>
    obtain ⟨k, rfl, hk, rfl, rfl⟩ := hrel
    have q2 : IntKind.i64.wrap ((k : Int) + 1) = (k : Int) + 1 := IntWalk.i64_in _ (by have := HS.out; omega)
    obtain ⟨O, hO⟩ : ∃ O : ByteArray, O = ⟨(34 :: qt (s.data.toList.take k)).toArray⟩ := ⟨_, rfl⟩
    have hOs : O.size ≤ 150000 := by
      have := qt_len (s.data.toList.take k)
      rw [List.length_take] at this
      rw [hO, ba_size]
      simp only [List.length_cons]
      have := HS.out
      omega
    rw [← hO]
    have HO := hide hO
    have HOS := hide hOs
    clear hO
    by_cases hlt : k < s.size
    · have j1 : (k : Int) < (s.size : Int) := by omega
      have j2 : (k : Int) + 1 ≤ (s.size : Int) := by omega
      have j3 : (k : Int) ≤ (k : Int) + 1 := by omega
      have hqt := qt_take hlt
      have hex : s.extract k (k + 1) = ⟨[s[k]'hlt].toArray⟩ := by
        rw [Lib.extract_eq, dropS s k hlt, Nat.add_sub_cancel_left]
        rfl
      obtain ⟨c, hcc⟩ : ∃ c, s[k]'hlt = c := ⟨_, rfl⟩
      rw [hcc] at hqt hex
      have hfin : ∀ O' : ByteArray, O' = O ++ ⟨(q1 c).toArray⟩ → RQRel w s (.string O') (.int .i64 ((k : Int) + 1)) w := fun O' h =>
        ⟨k + 1, by simp, by omega, by rw [h, HO.out, ba_add, hqt]; rfl, rfl⟩
      have HFIN := hide hfin
      have hcs : (⟨[c].toArray⟩ : ByteArray).size = 1 := rfl
      clear hfin hqt
      by_cases h10 : (c.toNat : Int) = 10
      · have hq : q1 c = [92, 110] := by rw [u8_int (n := 10) (by omega) h10]; rfl
        have hn : O.size + 2 ≤ 9223372036854775807 := by omega
        have HQ := hide hq
        clear hq
        go_wp2_with fail
        go_roundw
        case rel => exact HFIN.out _ (by rw [HQ.out])
        case measure => simp [intOf]; omega
      have b10 : ((c.toNat : Int) == 10) = false := beq_false_of_ne h10
      by_cases h9 : (c.toNat : Int) = 9
      · have hq : q1 c = [92, 116] := by rw [u8_int (n := 9) (by omega) h9]; rfl
        have HQ := hide hq
        clear hq
        go_wp2_with fail
        go_roundw
        case rel => exact HFIN.out _ (by rw [HQ.out])
        case measure => simp [intOf]; omega
      have b9 : ((c.toNat : Int) == 9) = false := beq_false_of_ne h9
      have hc10 : ¬ c = 10 := fun e => h10 (by rw [e]; rfl)
      have hc9 : ¬ c = 9 := fun e => h9 (by rw [e]; rfl)
      by_cases hqs : c = 34 ∨ c = 92
      · have hq : q1 c = [92, c] := by unfold q1; rw [if_neg hc10, if_neg hc9, if_pos hqs]
        have hqi : (c.toNat : Int) = 34 ∨ (c.toNat : Int) = 92 := by rcases hqs with e | e <;> rw [e] <;> simp
        have hOO : O ++ ⟨#[92]⟩ ++ ⟨[c].toArray⟩ = O ++ ⟨(q1 c).toArray⟩ := by
          rw [hq, HO.out]
          show (⟨(34 :: qt (s.data.toList.take k)).toArray⟩ : ByteArray) ++ ⟨[92].toArray⟩ ++ ⟨[c].toArray⟩ = _
          rw [ba_add, ba_add, ba_add, List.append_assoc]
          rfl
        have HOO := hide hOO
        obtain ⟨Y, hY⟩ : ∃ Y : ByteArray, Y = ⟨[c].toArray⟩ := ⟨_, rfl⟩
        rw [← hY] at hex hcs HOO
        have HY := hide hY
        have hOO2 : (O ++ ⟨#[92]⟩).size = O.size + 1 := by rw [ByteArray.size_append]; rfl
        clear hq hqs hOO hY
        rcases hqi with e | e
        all_goals
          go_wp2_with fail
          go_roundw
          case rel => exact HFIN.out _ HOO.out
          case measure => simp [intOf]; omega
      have h34 : ¬ (c.toNat : Int) = 34 := fun e => hqs (.inl (u8_int (n := 34) (by omega) e))
      have h92 : ¬ (c.toNat : Int) = 92 := fun e => hqs (.inr (u8_int (n := 92) (by omega) e))
      have b34 : ((c.toNat : Int) == 34) = false := beq_false_of_ne h34
      have b92 : ((c.toNat : Int) == 92) = false := beq_false_of_ne h92
      obtain ⟨Y, hY⟩ : ∃ Y : ByteArray, Y = ⟨[c].toArray⟩ := ⟨_, rfl⟩
      rw [← hY] at hex hcs
      have HY := hide hY
      clear hY
      by_cases h32 : (32 : Int) ≤ (c.toNat : Int)
      · have hq : q1 c = [c] := by unfold q1; rw [if_neg hc10, if_neg hc9, if_neg hqs, if_pos (UInt8.le_iff_toNat_le.2 (by have : (32 : UInt8).toNat = 32 := rfl; omega))]
        have HQ := hide hq
        clear hq
        go_wp2_with fail
        go_roundw
        case rel => exact HFIN.out _ (by rw [HQ.out, HY.out])
        case measure => simp [intOf]; omega
      · have hq : q1 c = [] := by unfold q1; rw [if_neg hc10, if_neg hc9, if_neg hqs, if_neg (fun e => h32 (by have := UInt8.le_iff_toNat_le.1 e; have : (32 : UInt8).toNat = 32 := rfl; omega))]
        have HQ := hide hq
        clear hq
        go_wp2_with fail
        go_roundw
        case rel => exact HFIN.out _ (by rw [HQ.out, HO.out, ba_add, List.append_nil])
        case measure => simp [intOf]; omega
    · have j1 : ¬ (k : Int) < (s.size : Int) := by omega
      have htk : s.data.toList.take k = s.data.toList := List.take_of_length_le (by rw [← Lib.size_eq]; omega)
      have hfin : O ++ ⟨#[34]⟩ = ⟨(quoteL s.data.toList).toArray⟩ := by
        rw [HO.out, htk]
        show (⟨(34 :: qt s.data.toList).toArray⟩ : ByteArray) ++ ⟨[34].toArray⟩ = _
        rw [ba_add]
        rfl
      have HFIN := hide hfin
      clear hfin htk
      go_wp2_with fail
      go_ret
      exact ⟨by rw [HFIN.out]; rfl, rfl⟩

end Go.Proofs.YtgnobpljnahceaaDoor
