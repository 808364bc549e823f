/- The statement FactExact, as a walk; conditions: the library's variable and table, what is known of the arguments. -/
import Derived.Test.YtgnobpljnahceaaDoorFcX
import Derived.Test.YtgnobpljnahceaaDoorFcS
namespace Go.Proofs.YtgnobpljnahceaaDoor
open Go.RowKit Go.WideShapes Go.ChangeShapes Go.Shelf
set_option linter.unusedVariables false
set_option linter.unusedSimpArgs false
set_option maxRecDepth 100000

set_option maxHeartbeats 8000000 in
theorem exact_walk (va : Value) (la : List TD) (s : ByteArray) (w : World) (hta : TDs w va la) (hqa : la.length ≤ maxLen ∧ ∀ t ∈ la, t.k.length ≤ maxLen ∧ t.s.length ≤ maxLen) (hs : s.size ≤ maxLen) (hE : Env w) :
    Calls Tryd.prog 3 #[va, .string s] w fun e w' => e = .returned (.bool true) ∧ Below w.heap.size w w' := by
  have HAW := hide (awake28 w hE)
  have HE := hide hE
  have HTA := hide hta
  have HQA := hide hqa
  have HS := hide hs
  clear hE hta hqa hs
  go_enter Tryd.func3, Tryd.ntmps3
  go_wp2_with fail
  refine HAW.out.mono ?_
  rintro e w1 ⟨rfl, hb1⟩
  have HB1 := hide hb1
  have HTA1 := hide (HTA.out.below hb1 (Nat.le_refl _))
  have HE1 := hide (HE.out.below hb1 (Nat.le_refl _))
  clear hb1
  go_wp2_with fail
  refine (great_any _ la w1 HTA1.out HQA.out.1 HQA.out.2).mono ?_
  rintro e w' ⟨⟨b, rfl, hb⟩, rfl⟩
  cases b with
  | true =>
    clear hb
    go_wp2_with fail
    go_ret
    exact ⟨rfl, HB1.out⟩
  | false =>
  have HSA := hide (hb rfl)
  clear hb
  by_cases hlong : 2048 < s.size
  · have i1 : (2048 : Int) < (s.size : Int) := by omega
    go_wp2_with fail
    go_ret
    exact ⟨rfl, HB1.out⟩
  have i1 : ¬ (2048 : Int) < (s.size : Int) := by omega
  have HLG := hide hlong
  clear hlong
  go_wp2_with fail
  refine (encode_small _ la w1 HTA1.out HE1.out HSA.out).mono ?_
  rintro e w2 ⟨rfl, hb2⟩
  have HB2 := hide (HB1.out.trans (hb2.mono HB1.out.size))
  have HTA2 := hide (HTA1.out.below hb2 (Nat.le_refl _))
  have HE2 := hide (HE1.out.below hb2 (Nat.le_refl _))
  clear hb2
  have HG := hide (rgood _ la w2 HTA2.out (by have := HSA.out.1; omega) (fun t ht => by have := HSA.out.2 t ht; omega))
  have HEN := hide (fun q => rencode _ la (w2.drewN q) (HTA2.out.below (below_drewNL (Below.refl _ _) q) (Nat.le_refl _)) (by have := HSA.out.1; omega) (fun t ht => by have := HSA.out.2 t ht; omega) (by have := small_line HSA.out; omega))
  obtain ⟨X, hX⟩ : ∃ X : ByteArray, X = ⟨(encL la).toArray⟩ := ⟨_, rfl⟩
  rw [← hX] at HEN ⊢
  clear hX
  cases hok : okS none la with

  | true =>
    rw [hok] at HG
    rw [if_pos rfl]
    clear hok
    go_wp2_with fail
    refine HG.out.mono ?_
    rintro e w3 ⟨rfl, q3, rfl⟩
    have HB3 := hide (below_drewNL HB2.out q3)
    have HE3 := hide (HE2.out.below (below_drewNL (Below.refl _ _) q3) (Nat.le_refl _))
    have HEN3 := hide (HEN.out q3)
    clear HG
    go_wp2_with fail
    refine HEN3.out.mono ?_
    rintro e w4 ⟨rfl, rfl⟩
    have HD := hide (decode_any s (by have := HLG.out; omega) (w2.drewN q3) HE3.out)
    go_wp2_with fail
    refine HD.out.mono ?_
    cases hds : decL s.data.toList with
    | none =>
      rintro e w5 ⟨rfl, hb5⟩
      have HB5 := hide (HB3.out.trans (hb5.mono HB3.out.size))
      have HRD := hide (rdecode s (by have := HLG.out; omega) w5)
      rw [hds] at HRD
      clear hb5 HD hds
      go_wp2_with fail
      refine HRD.out.mono ?_
      rintro e w6 ⟨rfl, hb6⟩
      have HB6 := hide (HB5.out.trans (hb6.mono HB5.out.size))
      clear hb6 HRD
      go_wp2_with fail
      go_ret
      exact ⟨rfl, HB6.out⟩
    | some l =>
      rintro e w5 ⟨v5, rfl, ht5, hb5⟩
      have HB5 := hide (HB3.out.trans (hb5.mono HB3.out.size))
      have HT5 := hide ht5
      have HRD := hide (rdecode s (by have := HLG.out; omega) w5)
      have hsz := dec_sizes hds (by have := HLG.out; rw [← Lib.size_eq]; omega)
      have HLQ := hide (show l.length ≤ maxLen ∧ ∀ t ∈ l, t.k.length ≤ maxLen ∧ t.s.length ≤ maxLen from ⟨by have := hsz.1; simp only [maxLen]; omega, fun t ht => by have := hsz.2.1 t ht; simp only [maxLen]; omega⟩)
      rw [hds] at HRD
      clear hb5 HD hds ht5 hsz
      go_wp2_with fail
      refine HRD.out.mono ?_
      rintro e w6 ⟨v6, rfl, ht6, hb6⟩
      have HB6 := hide (HB5.out.trans (hb6.mono HB5.out.size))
      have HSM := hide (same_any v5 v6 l l w6 (HT5.out.below hb6 (Nat.le_refl _)) ht6 HLQ.out HLQ.out)
      clear hb6 HRD ht6
      go_wp2_with fail
      refine HSM.out.mono ?_
      rintro e w7 ⟨⟨b, rfl, hb⟩, q7, rfl⟩
      obtain rfl : b = true := hb.2 rfl
      have HB7 := hide (below_drewNL HB6.out q7)
      have HS1 := hide (sum_any s (by have := HLG.out; omega) (w6.drewN q7))
      have HS2 := hide (rsum_any s (by have := HLG.out; omega) (w6.drewN q7))
      obtain ⟨N, hN⟩ : ∃ N, N = fnv s.data.toList := ⟨_, rfl⟩
      rw [← hN] at HS1 HS2
      clear hb HSM hN
      go_wp2_with fail
      refine HS1.out.mono ?_
      rintro e w8 ⟨rfl, rfl⟩
      go_wp2_with fail
      refine HS2.out.mono ?_
      rintro e w8 ⟨rfl, rfl⟩
      go_wp2_with fail
      go_ret
      exact ⟨rfl, HB7.out⟩
  | false =>
    rw [hok] at HG
    rw [if_neg (by simp)]
    clear hok
    go_wp2_with fail
    refine HG.out.mono ?_
    rintro e w3 ⟨rfl, q3, rfl⟩
    have HB3 := hide (below_drewNL HB2.out q3)
    have HE3 := hide (HE2.out.below (below_drewNL (Below.refl _ _) q3) (Nat.le_refl _))
    clear HG
    have HD := hide (decode_any s (by have := HLG.out; omega) (w2.drewN q3) HE3.out)
    go_wp2_with fail
    refine HD.out.mono ?_
    cases hds : decL s.data.toList with
    | none =>
      rintro e w5 ⟨rfl, hb5⟩
      have HB5 := hide (HB3.out.trans (hb5.mono HB3.out.size))
      have HRD := hide (rdecode s (by have := HLG.out; omega) w5)
      rw [hds] at HRD
      clear hb5 HD hds
      go_wp2_with fail
      refine HRD.out.mono ?_
      rintro e w6 ⟨rfl, hb6⟩
      have HB6 := hide (HB5.out.trans (hb6.mono HB5.out.size))
      clear hb6 HRD
      go_wp2_with fail
      go_ret
      exact ⟨rfl, HB6.out⟩
    | some l =>
      rintro e w5 ⟨v5, rfl, ht5, hb5⟩
      have HB5 := hide (HB3.out.trans (hb5.mono HB3.out.size))
      have HT5 := hide ht5
      have HRD := hide (rdecode s (by have := HLG.out; omega) w5)
      have hsz := dec_sizes hds (by have := HLG.out; rw [← Lib.size_eq]; omega)
      have HLQ := hide (show l.length ≤ maxLen ∧ ∀ t ∈ l, t.k.length ≤ maxLen ∧ t.s.length ≤ maxLen from ⟨by have := hsz.1; simp only [maxLen]; omega, fun t ht => by have := hsz.2.1 t ht; simp only [maxLen]; omega⟩)
      rw [hds] at HRD
      clear hb5 HD hds ht5 hsz
      go_wp2_with fail
      refine HRD.out.mono ?_
      rintro e w6 ⟨v6, rfl, ht6, hb6⟩
      have HB6 := hide (HB5.out.trans (hb6.mono HB5.out.size))
      have HSM := hide (same_any v5 v6 l l w6 (HT5.out.below hb6 (Nat.le_refl _)) ht6 HLQ.out HLQ.out)
      clear hb6 HRD ht6
      go_wp2_with fail
      refine HSM.out.mono ?_
      rintro e w7 ⟨⟨b, rfl, hb⟩, q7, rfl⟩
      obtain rfl : b = true := hb.2 rfl
      have HB7 := hide (below_drewNL HB6.out q7)
      have HS1 := hide (sum_any s (by have := HLG.out; omega) (w6.drewN q7))
      have HS2 := hide (rsum_any s (by have := HLG.out; omega) (w6.drewN q7))
      obtain ⟨N, hN⟩ : ∃ N, N = fnv s.data.toList := ⟨_, rfl⟩
      rw [← hN] at HS1 HS2
      clear hb HSM hN
      go_wp2_with fail
      refine HS1.out.mono ?_
      rintro e w8 ⟨rfl, rfl⟩
      go_wp2_with fail
      refine HS2.out.mono ?_
      rintro e w8 ⟨rfl, rfl⟩
      go_wp2_with fail
      go_ret
      exact ⟨rfl, HB7.out⟩
end Go.Proofs.YtgnobpljnahceaaDoor
