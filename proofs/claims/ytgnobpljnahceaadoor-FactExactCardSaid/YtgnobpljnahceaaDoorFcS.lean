/- The statement FactBack, as a walk; conditions: the library's variable and table, what is known of the arguments. -/
import Derived.Test.YtgnobpljnahceaaDoorFcR
namespace Go.Proofs.YtgnobpljnahceaaDoor
open Go.RowKit Go.WideShapes Go.ChangeShapes Go.Shelf
set_option linter.unusedVariables false
set_option linter.unusedSimpArgs false
set_option maxRecDepth 100000

theorem dec_sizes {s : Bs} {l : List TD} (h : decL s = some l) (hs : s.length ≤ 2048) : l.length ≤ 65536 ∧ (∀ t ∈ l, t.k.length ≤ 70000 ∧ t.s.length ≤ 100000) ∧ (linesL l).length ≤ 30000000 := by
  have h1 := (dec_some h).2.2
  have h2 := decs_le h1
  have h3 := decs_count h1
  have h4 := lines_count s
  rw [lines_sum] at h2
  refine ⟨by omega, fun t ht => ?_, by omega⟩
  have := h2.2 t ht
  omega
set_option maxHeartbeats 16000000 in
theorem back_walk (va vb : Value) (la lb : List TD) (s : ByteArray) (w : World) (hta : TDs w va la) (htb : TDs w vb lb) (hqa : la.length ≤ maxLen ∧ ∀ t ∈ la, t.k.length ≤ maxLen ∧ t.s.length ≤ maxLen) (hqb : lb.length ≤ maxLen ∧ ∀ t ∈ lb, t.k.length ≤ maxLen ∧ t.s.length ≤ maxLen) (hs : s.size ≤ maxLen) (hE : Env w) :
    Calls Tryd.prog 4 #[va, vb, .string s] w fun e w' => e = .returned (.bool true) ∧ Below w.heap.size w w' := by
  have HAW := hide (awake28 w hE)
  have HE := hide hE
  have HTA := hide hta
  have HTB := hide htb
  have HQA := hide hqa
  have HQB := hide hqb
  have HS := hide hs
  clear hE hta htb hqa hqb hs
  go_enter Tryd.func4, Tryd.ntmps4
  go_wp2_with fail
  refine HAW.out.mono ?_
  rintro e w1 ⟨rfl, hb1⟩
  have HB1 := hide hb1
  have HTA1 := hide (HTA.out.below hb1 (Nat.le_refl _))
  have HTB1 := hide (HTB.out.below hb1 (Nat.le_refl _))
  have HE1 := hide (HE.out.below hb1 (Nat.le_refl _))
  clear hb1
  go_wp2_with fail
  refine (great_any _ la w1 HTA1.out HQA.out.1 HQA.out.2).mono ?_
  rintro e w' ⟨⟨b, rfl, hb⟩, rfl⟩
  cases b with
  | true =>
    clear hb
    go_wp2_with fail
    go_ret
    exact ⟨rfl, HB1.out⟩
  | false =>
  have HSA := hide (hb rfl)
  clear hb
  go_wp2_with fail
  refine (great_any _ lb w1 HTB1.out HQB.out.1 HQB.out.2).mono ?_
  rintro e w' ⟨⟨b, rfl, hb⟩, rfl⟩
  cases b with
  | true =>
    clear hb
    go_wp2_with fail
    go_ret
    exact ⟨rfl, HB1.out⟩
  | false =>
  have HSB := hide (hb rfl)
  clear hb
  by_cases hlong : 2048 < s.size
  · have i1 : (2048 : Int) < (s.size : Int) := by omega
    go_wp2_with fail
    go_ret
    exact ⟨rfl, HB1.out⟩
  have i1 : ¬ (2048 : Int) < (s.size : Int) := by omega
  have HLG := hide hlong
  clear hlong
  go_wp2_with fail
  refine (encode_small _ la w1 HTA1.out HE1.out HSA.out).mono ?_
  rintro e w2 ⟨rfl, hb2⟩
  have HB2 := hide (HB1.out.trans (hb2.mono HB1.out.size))
  have HTA2 := hide (HTA1.out.below hb2 (Nat.le_refl _))
  have HTB2 := hide (HTB1.out.below hb2 (Nat.le_refl _))
  have HE2 := hide (HE1.out.below hb2 (Nat.le_refl _))
  clear hb2
  have H2 := hide (encode_small _ lb w2 HTB2.out HE2.out HSB.out)
  obtain ⟨X, hX⟩ : ∃ X : ByteArray, X = ⟨(encL la).toArray⟩ := ⟨_, rfl⟩
  obtain ⟨Y, hY⟩ : ∃ X : ByteArray, X = ⟨(encL lb).toArray⟩ := ⟨_, rfl⟩
  rw [← hX]
  rw [← hY] at H2
  have HXL := hide (show X.toList = encL la from by rw [hX]; exact str_list _)
  have HYL := hide (show Y.toList = encL lb from by rw [hY]; exact str_list _)
  have HXD := hide (show X.data.toList = encL la from by rw [hX])
  have HXS := hide (show X.size ≤ 20021 from by
    rw [hX, ba_size]
    have h2 := small_line HSA.out
    unfold encL
    rw [List.length_append, lastL_len]
    omega)
  clear hX hY

  cases hoa : okS none la with
  | true =>
    rw [if_pos rfl]
    cases hob : okS none lb with
    | true =>
      have HOA := hide hoa
      clear hoa
      rw [hob, if_pos rfl] at H2
      have HOB := hide hob
      clear hob
      go_wp2_with fail
      refine H2.out.mono ?_
      rintro e w3 ⟨rfl, hb3⟩
      have HB3 := hide (HB2.out.trans (hb3.mono HB2.out.size))
      have HTA3 := hide (HTA2.out.below hb3 (Nat.le_refl _))
      have HTB3 := hide (HTB2.out.below hb3 (Nat.le_refl _))
      have HE3 := hide (HE2.out.below hb3 (Nat.le_refl _))
      clear hb3 H2
      go_wp2_with fail
      refine (same_any _ _ la lb w3 HTA3.out HTB3.out HQA.out HQB.out).mono ?_
      rintro e w4 ⟨⟨b, rfl, hb⟩, q4, rfl⟩
      have hxy : (X.toList == Y.toList) = b := by
        rw [HXL.out, HYL.out]
        by_cases h : la = lb
        · rw [hb.2 h, h, beq_self_eq_true]
        · have hbf : b = false := by
            cases b with
            | false => rfl
            | true => exact absurd (hb.1 rfl) h
          rw [hbf]
          exact beq_false_of_ne (fun e => h (enc_same HOA.out HOB.out e))
      have HB4 := hide (below_drewNL HB3.out q4)
      have hd4 : Below w3.heap.size w3 (w3.drewN q4) := below_drewNL (Below.refl _ _) q4
      have HE4 := hide (HE3.out.below hd4 (Nat.le_refl _))
      have HTA4 := hide (HTA3.out.below hd4 (Nat.le_refl _))
      obtain ⟨w4, hw4⟩ : ∃ W, W = w3.drewN q4 := ⟨_, rfl⟩
      rw [← hw4] at HB4 HE4 HTA4 ⊢
      clear hb hd4 hw4
      cases b
      all_goals
        have HD1 := hide (decode_any X (by have := HXS.out; omega) w4 HE4.out)
        rw [HXD.out, dec_enc HOA.out] at HD1
        go_wp2_with fail
        refine HD1.out.mono ?_
        rintro e w5 ⟨v5, rfl, ht5, hb5⟩
        have HB5 := hide (HB4.out.trans (hb5.mono HB4.out.size))
        have HE5 := hide (HE4.out.below hb5 (Nat.le_refl _))
        have HSM := hide (same_any v5 _ la la w5 ht5 (HTA4.out.below hb5 (Nat.le_refl _)) HQA.out HQA.out)
        clear hb5 HD1 ht5
        go_wp2_with fail
        refine HSM.out.mono ?_
        rintro e w6 ⟨⟨b, rfl, hb⟩, q6, rfl⟩
        obtain rfl : b = true := hb.2 rfl
        have HB6 := hide (below_drewNL HB5.out q6)
        have HE6 := hide (HE5.out.below (below_drewNL (Below.refl _ _) q6) (Nat.le_refl _))
        clear hb HSM
        have HD := hide (decode_any s (by have := HLG.out; omega) (w5.drewN q6) HE6.out)
        cases hds : decL s.data.toList with
        | none =>
          rw [hds] at HD
          clear hds
          go_wp2_with fail
          refine HD.out.mono ?_
          rintro e w9 ⟨rfl, hb9⟩
          have HB9 := hide (HB6.out.trans (hb9.mono HB6.out.size))
          clear hb9 HD
          go_wp2_with fail
          go_ret
          exact ⟨rfl, HB9.out⟩
        | some l =>
          rw [hds] at HD
          have HZ := hide (dec_sizes hds (by have := HLG.out; rw [← Lib.size_eq]; omega))
          have HOK := hide (dec_some hds)
          clear hds
          go_wp2_with fail
          refine HD.out.mono ?_
          rintro e w9 ⟨v9, rfl, ht9, hb9⟩
          have HB9 := hide (HB6.out.trans (hb9.mono HB6.out.size))
          have HE9 := hide (HE6.out.below hb9 (Nat.le_refl _))
          have h10 := encode_any v9 l w9 ht9 HE9.out.hT HZ.out.1 HZ.out.2.1 HZ.out.2.2
          have hse : (⟨(encL l).toArray⟩ : ByteArray) = s := by rw [HOK.out.2.1]
          rw [HOK.out.1, if_pos rfl, hse] at h10
          have H10 := hide h10
          clear hb9 HD ht9 h10 hse
          go_wp2_with fail
          refine H10.out.mono ?_
          rintro e w10 ⟨rfl, hb10⟩
          have HB10 := hide (HB9.out.trans (hb10.mono HB9.out.size))
          clear hb10 H10
          go_wp2_with fail
          go_ret
          exact ⟨rfl, HB10.out⟩
    | false =>
      have HOA := hide hoa
      clear hoa
      rw [hob, if_neg (by simp)] at H2
      have HOB := hide hob
      clear hob
      go_wp2_with fail
      refine H2.out.mono ?_
      rintro e w3 ⟨rfl, hb3⟩
      have HB3 := hide (HB2.out.trans (hb3.mono HB2.out.size))
      have HTA3 := hide (HTA2.out.below hb3 (Nat.le_refl _))
      have HTB3 := hide (HTB2.out.below hb3 (Nat.le_refl _))
      have HE3 := hide (HE2.out.below hb3 (Nat.le_refl _))
      clear hb3 H2
      have HD1 := hide (decode_any X (by have := HXS.out; omega) w3 HE3.out)
      rw [HXD.out, dec_enc HOA.out] at HD1
      go_wp2_with fail
      refine HD1.out.mono ?_
      rintro e w5 ⟨v5, rfl, ht5, hb5⟩
      have HB5 := hide (HB3.out.trans (hb5.mono HB3.out.size))
      have HE5 := hide (HE3.out.below hb5 (Nat.le_refl _))
      have HSM := hide (same_any v5 _ la la w5 ht5 (HTA3.out.below hb5 (Nat.le_refl _)) HQA.out HQA.out)
      clear hb5 HD1 ht5
      go_wp2_with fail
      refine HSM.out.mono ?_
      rintro e w6 ⟨⟨b, rfl, hb⟩, q6, rfl⟩
      obtain rfl : b = true := hb.2 rfl
      have HB6 := hide (below_drewNL HB5.out q6)
      have HE6 := hide (HE5.out.below (below_drewNL (Below.refl _ _) q6) (Nat.le_refl _))
      clear hb HSM
      have HD := hide (decode_any s (by have := HLG.out; omega) (w5.drewN q6) HE6.out)
      cases hds : decL s.data.toList with
      | none =>
        rw [hds] at HD
        clear hds
        go_wp2_with fail
        refine HD.out.mono ?_
        rintro e w9 ⟨rfl, hb9⟩
        have HB9 := hide (HB6.out.trans (hb9.mono HB6.out.size))
        clear hb9 HD
        go_wp2_with fail
        go_ret
        exact ⟨rfl, HB9.out⟩
      | some l =>
        rw [hds] at HD
        have HZ := hide (dec_sizes hds (by have := HLG.out; rw [← Lib.size_eq]; omega))
        have HOK := hide (dec_some hds)
        clear hds
        go_wp2_with fail
        refine HD.out.mono ?_
        rintro e w9 ⟨v9, rfl, ht9, hb9⟩
        have HB9 := hide (HB6.out.trans (hb9.mono HB6.out.size))
        have HE9 := hide (HE6.out.below hb9 (Nat.le_refl _))
        have h10 := encode_any v9 l w9 ht9 HE9.out.hT HZ.out.1 HZ.out.2.1 HZ.out.2.2
        have hse : (⟨(encL l).toArray⟩ : ByteArray) = s := by rw [HOK.out.2.1]
        rw [HOK.out.1, if_pos rfl, hse] at h10
        have H10 := hide h10
        clear hb9 HD ht9 h10 hse
        go_wp2_with fail
        refine H10.out.mono ?_
        rintro e w10 ⟨rfl, hb10⟩
        have HB10 := hide (HB9.out.trans (hb10.mono HB9.out.size))
        clear hb10 H10
        go_wp2_with fail
        go_ret
        exact ⟨rfl, HB10.out⟩
  | false =>
    rw [if_neg (by simp)]
    cases hob : okS none lb with
    | true =>
      have HOA := hide hoa
      clear hoa
      rw [hob, if_pos rfl] at H2
      have HOB := hide hob
      clear hob
      go_wp2_with fail
      refine H2.out.mono ?_
      rintro e w3 ⟨rfl, hb3⟩
      have HB3 := hide (HB2.out.trans (hb3.mono HB2.out.size))
      have HTA3 := hide (HTA2.out.below hb3 (Nat.le_refl _))
      have HTB3 := hide (HTB2.out.below hb3 (Nat.le_refl _))
      have HE3 := hide (HE2.out.below hb3 (Nat.le_refl _))
      clear hb3 H2
      have HD := hide (decode_any s (by have := HLG.out; omega) w3 HE3.out)
      cases hds : decL s.data.toList with
      | none =>
        rw [hds] at HD
        clear hds
        go_wp2_with fail
        refine HD.out.mono ?_
        rintro e w9 ⟨rfl, hb9⟩
        have HB9 := hide (HB3.out.trans (hb9.mono HB3.out.size))
        clear hb9 HD
        go_wp2_with fail
        go_ret
        exact ⟨rfl, HB9.out⟩
      | some l =>
        rw [hds] at HD
        have HZ := hide (dec_sizes hds (by have := HLG.out; rw [← Lib.size_eq]; omega))
        have HOK := hide (dec_some hds)
        clear hds
        go_wp2_with fail
        refine HD.out.mono ?_
        rintro e w9 ⟨v9, rfl, ht9, hb9⟩
        have HB9 := hide (HB3.out.trans (hb9.mono HB3.out.size))
        have HE9 := hide (HE3.out.below hb9 (Nat.le_refl _))
        have h10 := encode_any v9 l w9 ht9 HE9.out.hT HZ.out.1 HZ.out.2.1 HZ.out.2.2
        have hse : (⟨(encL l).toArray⟩ : ByteArray) = s := by rw [HOK.out.2.1]
        rw [HOK.out.1, if_pos rfl, hse] at h10
        have H10 := hide h10
        clear hb9 HD ht9 h10 hse
        go_wp2_with fail
        refine H10.out.mono ?_
        rintro e w10 ⟨rfl, hb10⟩
        have HB10 := hide (HB9.out.trans (hb10.mono HB9.out.size))
        clear hb10 H10
        go_wp2_with fail
        go_ret
        exact ⟨rfl, HB10.out⟩
    | false =>
      have HOA := hide hoa
      clear hoa
      rw [hob, if_neg (by simp)] at H2
      have HOB := hide hob
      clear hob
      go_wp2_with fail
      refine H2.out.mono ?_
      rintro e w3 ⟨rfl, hb3⟩
      have HB3 := hide (HB2.out.trans (hb3.mono HB2.out.size))
      have HTA3 := hide (HTA2.out.below hb3 (Nat.le_refl _))
      have HTB3 := hide (HTB2.out.below hb3 (Nat.le_refl _))
      have HE3 := hide (HE2.out.below hb3 (Nat.le_refl _))
      clear hb3 H2
      have HD := hide (decode_any s (by have := HLG.out; omega) w3 HE3.out)
      cases hds : decL s.data.toList with
      | none =>
        rw [hds] at HD
        clear hds
        go_wp2_with fail
        refine HD.out.mono ?_
        rintro e w9 ⟨rfl, hb9⟩
        have HB9 := hide (HB3.out.trans (hb9.mono HB3.out.size))
        clear hb9 HD
        go_wp2_with fail
        go_ret
        exact ⟨rfl, HB9.out⟩
      | some l =>
        rw [hds] at HD
        have HZ := hide (dec_sizes hds (by have := HLG.out; rw [← Lib.size_eq]; omega))
        have HOK := hide (dec_some hds)
        clear hds
        go_wp2_with fail
        refine HD.out.mono ?_
        rintro e w9 ⟨v9, rfl, ht9, hb9⟩
        have HB9 := hide (HB3.out.trans (hb9.mono HB3.out.size))
        have HE9 := hide (HE3.out.below hb9 (Nat.le_refl _))
        have h10 := encode_any v9 l w9 ht9 HE9.out.hT HZ.out.1 HZ.out.2.1 HZ.out.2.2
        have hse : (⟨(encL l).toArray⟩ : ByteArray) = s := by rw [HOK.out.2.1]
        rw [HOK.out.1, if_pos rfl, hse] at h10
        have H10 := hide h10
        clear hb9 HD ht9 h10 hse
        go_wp2_with fail
        refine H10.out.mono ?_
        rintro e w10 ⟨rfl, hb10⟩
        have HB10 := hide (HB9.out.trans (hb10.mono HB9.out.size))
        clear hb10 H10
        go_wp2_with fail
        go_ret
        exact ⟨rfl, HB10.out⟩
end Go.Proofs.YtgnobpljnahceaaDoor
