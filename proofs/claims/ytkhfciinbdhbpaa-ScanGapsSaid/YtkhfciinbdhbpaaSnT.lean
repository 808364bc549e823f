/- The reference's IsName; conditions: the text's size. -/
import Derived.Test.YtkhfciinbdhbpaaSnS
namespace Go.Proofs.Ytkhfciinbdhbpaa
open Go.RowKit Go.WideShapes Go.ChangeShapes
set_option linter.unusedVariables false
set_option linter.unusedSimpArgs false
set_option maxRecDepth 100000

def NameRel (w : World) (s : ByteArray) (i : Value) (wr : World) : Prop :=
  ∃ k : Nat, i = .int .i64 (k : Int) ∧ k ≤ s.size ∧ headN partC s.data.toList = k + headN partC (s.data.toList.drop k) ∧ (0 < k → ∀ h : 0 < s.size, letterC ((s[0]'h).toNat : Int) = true) ∧ w = wr
set_option maxHeartbeats 4000000 in
theorem ref_name (s : ByteArray) (hs : s.size ≤ 4611686018427387904) (w : World) :
    Calls Try.prog 17 #[.string s] w fun e w' => e = .returned (.bool (nameB s)) ∧ w = w' := by
  have hwd := ref_word s hs
  obtain ⟨wd, hwd2⟩ : ∃ b, b = inL words02 s.data.toList := ⟨_, rfl⟩
  rw [← hwd2] at hwd
  obtain ⟨r, hr⟩ : ∃ r, r = nameB s := ⟨_, rfl⟩
  rw [← hr]
  unfold nameB at hr
  rw [isIn_inL, ← hwd2] at hr
  have HR := hide hr
  have HW := hide hwd
  have HS := hide hs
  have HT := hide (Lib.size_eq s)
  clear hr hs hwd hwd2
  go_enter Try.func17, Try.ntmps17
  go_wp2_with fail
  go_loopw [3] (fun i wr => NameRel w s i wr) (fun i _ => (((s.size : Int) - intOf i).toNat))
  case atStart => exact ⟨0, rfl, Nat.zero_le _, by simp, fun h => absurd h (by omega), rfl⟩
  case round =>
    obtain ⟨k, rfl, hk, hrec, hfst, rfl⟩ := hrel
    have HREC := hide hrec
    have HF := hide hfst
    clear hrec hfst
    have q2 : IntKind.i64.wrap ((k : Int) + 1) = (k : Int) + 1 := IntWalk.i64_in _ (by have := HS.out; omega)
    by_cases hlt : k < s.size
    · have j1 : (k : Int) < (s.size : Int) := by omega
      have hd := dropS s k hlt
      have hlet := ref_letter ((s[k]'hlt).toNat : Int)
      have hdig := ref_digit ((s[k]'hlt).toNat : Int)
      have hcm := HREC.out
      rw [hd, headN_cons] at hcm
      have hpart : partC ((s[k]'hlt).toNat : Int) = (letterC ((s[k]'hlt).toNat : Int) || digitC ((s[k]'hlt).toNat : Int)) := rfl
      have h0 : 0 < s.size := by omega
      have e0 := dropS s 0 h0
      rw [List.drop_zero] at e0
      have hres : partC ((s[k]'hlt).toNat : Int) = false ∨ (k = 0 ∧ letterC ((s[k]'hlt).toNat : Int) = false) → r = false := by
        intro h
        rw [HR.out]
        rcases h with h | ⟨rfl, h⟩
        · rw [h] at hcm
          have : (headN partC s.data.toList == s.size) = false := beq_false_of_ne (by simp at hcm; omega)
          rw [this]
          simp
        · rw [e0]
          simp only
          rw [h]
          rfl
      have hnx : partC ((s[k]'hlt).toNat : Int) = true → (k = 0 → letterC ((s[k]'hlt).toNat : Int) = true) → NameRel w s (.int .i64 ((k : Int) + 1)) w := by
        intro h h2
        refine ⟨k + 1, by simp, by omega, by rw [h, if_pos rfl] at hcm; omega, fun _ hh => ?_, rfl⟩
        rcases Nat.eq_zero_or_pos k with rfl | hp
        · exact h2 rfl
        · exact HF.out hp hh
      have HRES := hide hres
      have HNX := hide hnx
      have HPT := hide hpart
      obtain ⟨lb, hlb⟩ : ∃ b, b = letterC ((s[k]'hlt).toNat : Int) := ⟨_, rfl⟩
      obtain ⟨db, hdb⟩ : ∃ b, b = digitC ((s[k]'hlt).toNat : Int) := ⟨_, rfl⟩
      rw [← hlb] at hlet
      rw [← hdb] at hdig
      have HL := hide hlet
      have HD := hide hdig
      have HLB := hide hlb
      have HDB := hide hdb
      clear hd hlet hdig hcm hpart e0 hres hnx hlb hdb
      cases lb with
      | true =>
        have hp : partC ((s[k]'hlt).toNat : Int) = true := by rw [HPT.out, ← HLB.out]; rfl
        have HGO := hide (HNX.out hp (fun _ => HLB.out.symm))
        clear hp
        go_wp2_with fail
        refine (HL.out _).mono ?_
        rintro e w' ⟨rfl, rfl⟩
        go_wp2_with fail
        go_roundw
        case rel => exact HGO.out
        case measure => simp [intOf]; omega
      | false =>
        by_cases hk0 : k = 0
        · have HRF := hide (HRES.out (.inr ⟨hk0, HLB.out.symm⟩))
          have hki : (k : Int) = 0 := by omega
          have hkb : ((k : Int) == 0) = true := by simp [hk0]
          subst hk0
          go_wp2_with fail
          refine (HL.out _).mono ?_
          rintro e w' ⟨rfl, rfl⟩
          go_wp2_with fail
          go_ret
          exact ⟨ret_bS HRF.out.symm, rfl⟩
        · have hkb : ((k : Int) == 0) = false := beq_false_of_ne (by omega)
          have hki : ¬ (k : Int) = 0 := by omega
          cases db with
          | true =>
            have hp : partC ((s[k]'hlt).toNat : Int) = true := by rw [HPT.out, ← HDB.out]; simp
            have HGO := hide (HNX.out hp (fun e => absurd e hk0))
            clear hp
            go_wp2_with fail
            refine (HL.out _).mono ?_
            rintro e w' ⟨rfl, rfl⟩
            go_wp2_with fail
            refine (HD.out _).mono ?_
            rintro e w' ⟨rfl, rfl⟩
            go_wp2_with fail
            go_roundw
            case rel => exact HGO.out
            case measure => simp [intOf]; omega
          | false =>
            have hp : partC ((s[k]'hlt).toNat : Int) = false := by rw [HPT.out, ← HDB.out, ← HLB.out]; rfl
            have HRF := hide (HRES.out (.inl hp))
            clear hp
            go_wp2_with fail
            refine (HL.out _).mono ?_
            rintro e w' ⟨rfl, rfl⟩
            go_wp2_with fail
            refine (HD.out _).mono ?_
            rintro e w' ⟨rfl, rfl⟩
            go_wp2_with fail
            go_ret
            exact ⟨ret_bS HRF.out.symm, rfl⟩
    · have j1 : ¬ (k : Int) < (s.size : Int) := by omega
      have hke : k = s.size := by omega
      by_cases h0 : s.size = 0
      · have hse : s = ByteArray.empty := ByteArray.ext (Array.eq_empty_of_size_eq_zero h0)
        have hres : r = false := by rw [HR.out, hse]; rfl
        have hbl : s.toList.isEmpty = true := by rw [ByteArray.toList_eq, hse]; rfl
        have hbl2 : s.toList = [] := by rw [ByteArray.toList_eq, hse]; rfl
        have HRES := hide hres
        clear hres hse hke
        go_wp2_with fail
        go_ret
        exact ⟨by rw [HRES.out]; simp [hbl, hbl2], rfl⟩
      · have hne : s.data.toList ≠ [] := fun e => h0 (by rw [HT.out, e]; rfl)
        have hbl : s.toList.isEmpty = false := by
          rw [ByteArray.toList_eq]
          cases h : s.data.toList with
          | nil => exact absurd h hne
          | cons a b => rfl
        have hbl2 : ¬ s.toList = [] := by rw [ByteArray.toList_eq]; exact hne
        have hs0 : 0 < s.size := by omega
        have hl0 := HF.out (by omega) hs0
        have hhd : headN partC s.data.toList = s.size := by
          have := HREC.out
          rw [List.drop_eq_nil_of_le (by rw [← HT.out]; omega)] at this
          simp [headN] at this
          unfold headN
          omega
        have hres : r = !wd := by
          rw [HR.out, hhd]
          have e0 := dropS s 0 hs0
          rw [List.drop_zero] at e0
          rw [e0]
          simp [hl0]
        have HRES := hide hres
        clear hres hne hl0 hhd hke
        cases wd with
        | true =>
          go_wp2_with fail
          refine (HW.out _).mono ?_
          rintro e w' ⟨rfl, rfl⟩
          go_wp2_with fail
          go_ret
          exact ⟨by rw [HRES.out]; simp [hbl, hbl2], rfl⟩
        | false =>
          go_wp2_with fail
          refine (HW.out _).mono ?_
          rintro e w' ⟨rfl, rfl⟩
          go_wp2_with fail
          go_ret
          exact ⟨by rw [HRES.out]; simp [hbl, hbl2], rfl⟩
end Go.Proofs.Ytkhfciinbdhbpaa
