/- ReachLess; conditions: the func and the rows are in memory. -/
import Derived.Test.YtaaadbaakhjkcaaRcI
namespace Go.Proofs.Ytaaadbaakhjkcaa
open Go.RowKit Go.WideShapes Go.ChangeShapes
set_option linter.unusedVariables false
set_option linter.unusedSimpArgs false
set_option maxRecDepth 100000

set_option maxHeartbeats 16000000 in
theorem less_any (p : Pr) (hs : List Bool) (code : List IV) (ns : Nat) (nv mv : List Bool) (vn vm : Value) (w : World) (h : PrOk w p hs code ns) (hnv : BoolsAt w vn nv) (hmv : BoolsAt w vm mv) : Calls Try.prog 6 #[p.val, vn, vm] w (BoolP w true) := by
  obtain ⟨i0, hi0, hz0, hz1, hz2⟩ := info_parts boolInfoF
  obtain ⟨gp, hgp⟩ : ∃ gp, gp = w.heap.size := ⟨_, rfl⟩
  obtain ⟨W1, hW1⟩ : ∃ W1, W1 = w.alloc (.cells p.arr 29) := ⟨_, rfl⟩
  have hb1 : Below w.heap.size w W1 := by rw [hW1]; exact (Below.refl _ _).alloc (Nat.le_refl _) _
  have hbp : Blk W1 gp 29 p.arr := by rw [hW1, hgp]; exact Blk.new _ _ _
  have HOK := hide (h.below hb1 (Nat.le_refl _))
  obtain ⟨An, cn, hvn⟩ := RowAt.form hnv
  obtain ⟨Am, cm, hvm⟩ := RowAt.form hmv
  obtain ⟨ln, hln⟩ : ∃ ln, ln = nv.length := ⟨_, rfl⟩
  obtain ⟨lm, hlm⟩ : ∃ lm, lm = mv.length := ⟨_, rfl⟩
  rw [← hln] at hvn
  rw [← hlm] at hvm
  subst hvn hvm
  have HNV := hide (show BoolsAt W1 (.slice An ln cn) nv from hnv.below hb1 (Nat.le_refl _))
  have HMV := hide (show BoolsAt W1 (.slice Am lm cm) mv from hmv.below hb1 (Nat.le_refl _))
  have HLL := hide (And.intro hln hlm)
  obtain ⟨PV, hPV⟩ : ∃ PV, PV = p.val := ⟨_, rfl⟩
  have HPV := hide (show PV = .agg p.arr from hPV)
  have HPV2 := hide (show PV = p.val from hPV)
  have HB1 := hide hb1
  have HW1 := hide hW1
  have HGP := hide hgp
  have HBP := hide hbp
  clear h hnv hmv hb1 hW1 hgp hbp hPV hln hlm
  have HAW := hide (awake22_any W1)
  go_enter Try.func6, Try.ntmps6
  go_upto_region 1 with (fail)
  rw [← HPV2.out, ← HGP.out]
  rw [HPV.out, ← HW1.out, ← HPV.out]
  go_wp2_with fail
  refine HAW.out.mono ?_
  rintro e w2 ⟨rfl, hb2⟩
  have HB2 := hide (show Below W1.heap.size W1 w2 from hb2)
  have HBP2 := hide (HBP.out.below hb2 HBP.out.lt)
  have HGC := hide (greatc_any p hs code ns w2 (HOK.out.below hb2 (Nat.le_refl _)))
  rw [← HPV2.out] at HGC
  clear hb2
  go_wp2_with (first
    | (refine wpList_load_blk (.tmp 3) HBP2.out HPV.out Try.underlying29 rfl pr_size rfl rfl rfl ?_)
    | (refine wp_load_blk (.tmp 3) HBP2.out HPV.out Try.underlying29 rfl pr_size rfl rfl ?_))
  refine HGC.out.mono ?_
  rintro e w3 ⟨rfl, hb3⟩
  have HB3 := hide (HB2.out.trans (hb3.mono HB2.out.size))
  clear hb3
  have HF := hide (HB1.out.trans (HB3.out.mono HB1.out.size))
  cases hgc : greatC hs code ns with
  | true =>
    clear hgc
    go_wp2_with fail
    go_ret
    exact ⟨rfl, HF.out⟩
  | false =>
    have HSM := hide (small_of22 hgc)
    clear hgc
    by_cases c1 : (100 : Int) < (ln : Int)
    · go_wp2_with fail
      go_ret
      exact ⟨rfl, HF.out⟩
    by_cases c2 : (100 : Int) < (lm : Int)
    · go_wp2_with fail
      go_ret
      exact ⟨rfl, HF.out⟩
    have HC := hide (show ln ≤ 100 ∧ lm ≤ 100 by omega)
    obtain ⟨Bd, hBd⟩ : ∃ Bd, Bd = w3.heap.size := ⟨_, rfl⟩
    obtain ⟨W4, hW4⟩ : ∃ W4, W4 = w3.alloc (.cells #[] 4) := ⟨_, rfl⟩
    have HO4 := hide (show W4.ownsRow Bd 4 1 (.slice (some ⟨Bd, 0, none⟩) 0 0) 0 ((bothL nv mv 0).flatMap encB) from ⟨rfl, .inr ⟨Bd, 0, #[], rfl, Nat.le_refl _, by rw [hW4, hBd]; exact Blk.new _ _ _, Nat.le_refl _, by simp only [maxLen]; omega, rfl, rfl⟩⟩)
    have HB4 := hide (show Below W1.heap.size W1 W4 by rw [hW4]; exact HB3.out.alloc HB3.out.size _)
    have HBD := hide (show W1.heap.size ≤ Bd by rw [hBd]; exact HB3.out.size)
    have HS4 := hide (show Bd ≤ W4.heap.size by rw [hW4, hBd]; simp)
    have HBDE := hide hBd
    have HW4 := hide hW4
    clear hBd hW4
    go_upto_region 7 with (fail)
    rw [← HBDE.out, ← HW4.out]
    clear c1 c2
    obtain ⟨mx, hmx⟩ : ∃ mx, mx = max ln lm := ⟨_, rfl⟩
    have HMX := hide (show mx = max ln lm ∧ ln ≤ mx ∧ lm ≤ mx ∧ mx ≤ 100 by have := HC.out; omega)
    have HQM := hide (show max (ln : Int) (lm : Int) = (mx : Int) by omega)
    clear hmx
    go_loopw [7, 8] (fun lv kv wr => ∃ (k : Nat) (A : Option Addr) (c : Nat), k ≤ mx ∧ lv = .slice A k c ∧ kv = .int .i64 (k : Int) ∧ Hid (wr.ownsRow Bd 4 1 (.slice A k c) k ((bothL nv mv k).flatMap encB)) ∧ Hid (Below W1.heap.size W1 wr) ∧ Hid (Bd ≤ wr.heap.size)) (fun _ kv _ => mx - (intOf kv).toNat)
    case atStart => exact ⟨0, _, 0, Nat.zero_le _, rfl, rfl, HO4, HB4, HS4⟩
    case round =>
      clear HO4 HB4 HS4
      obtain ⟨k, A, c, hk, rfl, rfl, HO, HWR, HS⟩ := hrel
      have qm := HQM.out
      by_cases hlt : k < mx
      · have k1 : (k : Int) < (mx : Int) := by omega
        have k2 : (0 : Int) ≤ (k : Int) := by omega
        have q5 : IntKind.i64.wrap ((k : Int) + 1) = ((k + 1 : Nat) : Int) := by rw [show (k : Int) + 1 = ((k + 1 : Nat) : Int) by omega]; exact IntWalk.i64_in _ (by have := HMX.out; omega)
        obtain ⟨kn, hkn⟩ : ∃ kn, kn = k + 1 := ⟨_, rfl⟩
        rw [← hkn] at q5
        have HKN := hide hkn
        have HLT := hide hlt
        have HKK := hide (show k ≤ 100 by have := HMX.out; omega)
        have HRNV := hide (show BoolsAt wr (.slice An ln cn) nv from HNV.out.below HWR.out (Nat.le_refl _))
        have HRMV := hide (show BoolsAt wr (.slice Am lm cm) mv from HMV.out.below HWR.out (Nat.le_refl _))
        have k3 : (k : Int) < max (ln : Int) (lm : Int) := by rw [qm]; exact k1
        clear hkn hlt
        by_cases a1 : (k : Int) < (ln : Int)
        · skip
          obtain ⟨b3, o3, va, e3, hl3, hx3, y3⟩ := BoolsAt.at_ HRNV.out (i := k) (by have := HLL.out; omega)
          have hg3 := getB_at hx3
          subst e3
          clear hl3 hx3
          cases hva : va with
          | true =>
            rw [hva] at hg3
            subst hva
            have HBT := hide (show bothL nv mv (k + 1) = bothL nv mv k ++ [true] by rw [bothL_succ, hg3]; rfl)
            obtain ⟨W9, hW9⟩ : ∃ W9, W9 = wr.alloc (.cells #[.bool true] 4) := ⟨_, rfl⟩
            have hb9 : Below wr.heap.size wr W9 := by rw [hW9]; exact (Below.refl _ _).alloc (Nat.le_refl _) _
            have HC9 := hide (show Blk W9 wr.heap.size 4 #[.bool true] by rw [hW9]; exact Blk.new _ _ _)
            have HO9 := hide (own_belowT HO.out hb9)
            have HWR9 := hide (HWR.out.trans (hb9.mono HWR.out.size))
            have HS9 := hide (show Bd ≤ W9.heap.size from Nat.le_trans HS.out hb9.size)
            have HW9 := hide hW9
            clear hW9 hb9
            go_upto_region 8 with (first
              | (at_builtin
                 rw [← HW9.out]
                 refine wpList_append_any _ rfl (.tmp 37) (.tmp 60) _ rfl Bd 4 i0 _ 1 1 Try.underlying46 hi0 hz0 hz1 hz2 rfl (by omega) (.slice A k c) k _ rfl HO9.out (wr.heap.size + 1) (some ⟨wr.heap.size, 0, none⟩) 1 1 [.bool true] rfl ?rd ?on ?b1 ?b2 ?sz ?_
                 case rd => exact ⟨rfl, fun _ => ⟨_, rfl, Nat.lt_succ_self _, fun q u hu => by rw [Addr.add_lit, Nat.zero_add, HC9.out.cell q]; simpa using hu⟩⟩
                 case on => (intro u hu; simp at hu; subst hu; rfl)
                 case b1 => (have := HKK.out; simp only [maxLen]; omega)
                 case b2 => (have := HKK.out; omega)
                 case sz => exact HS9.out
                 intro v10 w10 hown10 hg10 hat10
                 have HWR10 := hide (HWR9.out.grown hg10 HWR9.out.size (fun q hq => by have := (HO9.out.lt q hq).1; have := HBD.out; omega))
                 have HS10 := hide (show Bd ≤ w10.heap.size from Nat.le_trans HS9.out hg10.size)
                 have HO10 := hide (show w10.ownsRow Bd 4 1 v10 (k + 1) ((bothL nv mv (k + 1)).flatMap encB) by rw [HBT.out, List.flatMap_append]; exact hown10)
                 obtain ⟨A10, c10, rfl⟩ := own_formT hown10
                 clear hown10 hg10 hat10))
            go_wp2_with fail
            go_roundw
            case rel => exact ⟨k + 1, A10, c10, by have := HLT.out; omega, rfl, by rw [HKN.out], HO10, HWR10, HS10⟩
            case measure => rw [HKN.out]; simp [intOf]; have := HLT.out; omega
          | false =>
            rw [hva] at hg3
            subst hva
            by_cases a2 : (k : Int) < (lm : Int)
            · skip
              obtain ⟨b4, o4, vb, e4, hl4, hx4, y4⟩ := BoolsAt.at_ HRMV.out (i := k) (by have := HLL.out; omega)
              have hg4 := getB_at hx4
              subst e4
              clear hl4 hx4
              have HBT := hide (show bothL nv mv (k + 1) = bothL nv mv k ++ [vb] by rw [bothL_succ, hg3, hg4]; rfl)
              obtain ⟨W9, hW9⟩ : ∃ W9, W9 = wr.alloc (.cells #[.bool vb] 4) := ⟨_, rfl⟩
              have hb9 : Below wr.heap.size wr W9 := by rw [hW9]; exact (Below.refl _ _).alloc (Nat.le_refl _) _
              have HC9 := hide (show Blk W9 wr.heap.size 4 #[.bool vb] by rw [hW9]; exact Blk.new _ _ _)
              have HO9 := hide (own_belowT HO.out hb9)
              have HWR9 := hide (HWR.out.trans (hb9.mono HWR.out.size))
              have HS9 := hide (show Bd ≤ W9.heap.size from Nat.le_trans HS.out hb9.size)
              have HW9 := hide hW9
              clear hW9 hb9
              go_upto_region 8 with (first
                | (at_builtin
                   rw [← HW9.out]
                   refine wpList_append_any _ rfl (.tmp 37) (.tmp 60) _ rfl Bd 4 i0 _ 1 1 Try.underlying46 hi0 hz0 hz1 hz2 rfl (by omega) (.slice A k c) k _ rfl HO9.out (wr.heap.size + 1) (some ⟨wr.heap.size, 0, none⟩) 1 1 [.bool vb] rfl ?rd ?on ?b1 ?b2 ?sz ?_
                   case rd => exact ⟨rfl, fun _ => ⟨_, rfl, Nat.lt_succ_self _, fun q u hu => by rw [Addr.add_lit, Nat.zero_add, HC9.out.cell q]; simpa using hu⟩⟩
                   case on => (intro u hu; simp at hu; subst hu; rfl)
                   case b1 => (have := HKK.out; simp only [maxLen]; omega)
                   case b2 => (have := HKK.out; omega)
                   case sz => exact HS9.out
                   intro v10 w10 hown10 hg10 hat10
                   have HWR10 := hide (HWR9.out.grown hg10 HWR9.out.size (fun q hq => by have := (HO9.out.lt q hq).1; have := HBD.out; omega))
                   have HS10 := hide (show Bd ≤ w10.heap.size from Nat.le_trans HS9.out hg10.size)
                   have HO10 := hide (show w10.ownsRow Bd 4 1 v10 (k + 1) ((bothL nv mv (k + 1)).flatMap encB) by rw [HBT.out, List.flatMap_append]; exact hown10)
                   obtain ⟨A10, c10, rfl⟩ := own_formT hown10
                   clear hown10 hg10 hat10))
              go_wp2_with fail
              go_roundw
              case rel => exact ⟨k + 1, A10, c10, by have := HLT.out; omega, rfl, by rw [HKN.out], HO10, HWR10, HS10⟩
              case measure => rw [HKN.out]; simp [intOf]; have := HLT.out; omega
            · have hg4 : getB mv k = false := getB_none (by have := HLL.out; omega)
              have HBT := hide (show bothL nv mv (k + 1) = bothL nv mv k ++ [false] by rw [bothL_succ, hg3, hg4]; rfl)
              obtain ⟨W9, hW9⟩ : ∃ W9, W9 = wr.alloc (.cells #[.bool false] 4) := ⟨_, rfl⟩
              have hb9 : Below wr.heap.size wr W9 := by rw [hW9]; exact (Below.refl _ _).alloc (Nat.le_refl _) _
              have HC9 := hide (show Blk W9 wr.heap.size 4 #[.bool false] by rw [hW9]; exact Blk.new _ _ _)
              have HO9 := hide (own_belowT HO.out hb9)
              have HWR9 := hide (HWR.out.trans (hb9.mono HWR.out.size))
              have HS9 := hide (show Bd ≤ W9.heap.size from Nat.le_trans HS.out hb9.size)
              have HW9 := hide hW9
              clear hW9 hb9
              go_upto_region 8 with (first
                | (at_builtin
                   rw [← HW9.out]
                   refine wpList_append_any _ rfl (.tmp 37) (.tmp 60) _ rfl Bd 4 i0 _ 1 1 Try.underlying46 hi0 hz0 hz1 hz2 rfl (by omega) (.slice A k c) k _ rfl HO9.out (wr.heap.size + 1) (some ⟨wr.heap.size, 0, none⟩) 1 1 [.bool false] rfl ?rd ?on ?b1 ?b2 ?sz ?_
                   case rd => exact ⟨rfl, fun _ => ⟨_, rfl, Nat.lt_succ_self _, fun q u hu => by rw [Addr.add_lit, Nat.zero_add, HC9.out.cell q]; simpa using hu⟩⟩
                   case on => (intro u hu; simp at hu; subst hu; rfl)
                   case b1 => (have := HKK.out; simp only [maxLen]; omega)
                   case b2 => (have := HKK.out; omega)
                   case sz => exact HS9.out
                   intro v10 w10 hown10 hg10 hat10
                   have HWR10 := hide (HWR9.out.grown hg10 HWR9.out.size (fun q hq => by have := (HO9.out.lt q hq).1; have := HBD.out; omega))
                   have HS10 := hide (show Bd ≤ w10.heap.size from Nat.le_trans HS9.out hg10.size)
                   have HO10 := hide (show w10.ownsRow Bd 4 1 v10 (k + 1) ((bothL nv mv (k + 1)).flatMap encB) by rw [HBT.out, List.flatMap_append]; exact hown10)
                   obtain ⟨A10, c10, rfl⟩ := own_formT hown10
                   clear hown10 hg10 hat10))
              go_wp2_with fail
              go_roundw
              case rel => exact ⟨k + 1, A10, c10, by have := HLT.out; omega, rfl, by rw [HKN.out], HO10, HWR10, HS10⟩
              case measure => rw [HKN.out]; simp [intOf]; have := HLT.out; omega
        · have hg3 : getB nv k = false := getB_none (by have := HLL.out; omega)
          have a2 : (k : Int) < (lm : Int) := by have := HMX.out; omega
          obtain ⟨b4, o4, vb, e4, hl4, hx4, y4⟩ := BoolsAt.at_ HRMV.out (i := k) (by have := HLL.out; omega)
          have hg4 := getB_at hx4
          subst e4
          clear hl4 hx4
          have HBT := hide (show bothL nv mv (k + 1) = bothL nv mv k ++ [vb] by rw [bothL_succ, hg3, hg4]; rfl)
          obtain ⟨W9, hW9⟩ : ∃ W9, W9 = wr.alloc (.cells #[.bool vb] 4) := ⟨_, rfl⟩
          have hb9 : Below wr.heap.size wr W9 := by rw [hW9]; exact (Below.refl _ _).alloc (Nat.le_refl _) _
          have HC9 := hide (show Blk W9 wr.heap.size 4 #[.bool vb] by rw [hW9]; exact Blk.new _ _ _)
          have HO9 := hide (own_belowT HO.out hb9)
          have HWR9 := hide (HWR.out.trans (hb9.mono HWR.out.size))
          have HS9 := hide (show Bd ≤ W9.heap.size from Nat.le_trans HS.out hb9.size)
          have HW9 := hide hW9
          clear hW9 hb9
          go_upto_region 8 with (first
            | (at_builtin
               rw [← HW9.out]
               refine wpList_append_any _ rfl (.tmp 37) (.tmp 60) _ rfl Bd 4 i0 _ 1 1 Try.underlying46 hi0 hz0 hz1 hz2 rfl (by omega) (.slice A k c) k _ rfl HO9.out (wr.heap.size + 1) (some ⟨wr.heap.size, 0, none⟩) 1 1 [.bool vb] rfl ?rd ?on ?b1 ?b2 ?sz ?_
               case rd => exact ⟨rfl, fun _ => ⟨_, rfl, Nat.lt_succ_self _, fun q u hu => by rw [Addr.add_lit, Nat.zero_add, HC9.out.cell q]; simpa using hu⟩⟩
               case on => (intro u hu; simp at hu; subst hu; rfl)
               case b1 => (have := HKK.out; simp only [maxLen]; omega)
               case b2 => (have := HKK.out; omega)
               case sz => exact HS9.out
               intro v10 w10 hown10 hg10 hat10
               have HWR10 := hide (HWR9.out.grown hg10 HWR9.out.size (fun q hq => by have := (HO9.out.lt q hq).1; have := HBD.out; omega))
               have HS10 := hide (show Bd ≤ w10.heap.size from Nat.le_trans HS9.out hg10.size)
               have HO10 := hide (show w10.ownsRow Bd 4 1 v10 (k + 1) ((bothL nv mv (k + 1)).flatMap encB) by rw [HBT.out, List.flatMap_append]; exact hown10)
               obtain ⟨A10, c10, rfl⟩ := own_formT hown10
               clear hown10 hg10 hat10))
          go_wp2_with fail
          go_roundw
          case rel => exact ⟨k + 1, A10, c10, by have := HLT.out; omega, rfl, by rw [HKN.out], HO10, HWR10, HS10⟩
          case measure => rw [HKN.out]; simp [intOf]; have := HLT.out; omega
      · have k1 : ¬ (k : Int) < (mx : Int) := by omega
        have k3 : ¬ (k : Int) < max (ln : Int) (lm : Int) := by rw [qm]; exact k1
        have HKE := hide (show k = mx by omega)
        have HBO := hide (show BoolsAt wr (.slice A k c) (bothL nv mv k) from RowAt.own (e := 4) encB_length (by rw [bothL_len]; exact HO.out))
        have HMO := hide (show ∀ i, inB nv i = true → inB (bothL nv mv k) i = true from fun i hi => both_more nv mv (by have := HKE.out; have := HMX.out; have := HLL.out; omega) i hi)
        clear hlt hk
        go_upto_region 10 with (fail)
        clear k1 k3 qm
        have HWF := hide (show Below W1.heap.size W1 wr from HWR.out)
        have HBPr := hide (HBP.out.below HWR.out HBP.out.lt)
        have HOKr := hide (HOK.out.below HWR.out (Nat.le_refl _))
        have HFF := hide (HB1.out.trans (HWR.out.mono HB1.out.size))
        cases hgd : goodP p hs code ns with
        | false =>
          have HOF := hide (of_none p hs code ns wr HOKr.out (by have := HSM.out.1; omega) HSM.out.2.2 hgd)
          rw [← HPV2.out] at HOF
          go_wp2_with (first
    | (refine wpList_load_blk (.tmp 3) HBPr.out HPV.out Try.underlying29 rfl pr_size rfl rfl rfl ?_)
    | (refine wp_load_blk (.tmp 3) HBPr.out HPV.out Try.underlying29 rfl pr_size rfl rfl ?_))
          refine HOF.out.mono ?_
          rintro e w5 ⟨rfl, hb5⟩
          obtain ⟨g, hg⟩ : ∃ g, g = w5.heap.size := ⟨_, rfl⟩
          obtain ⟨W5, hW5⟩ : ∃ W5, W5 = w5.alloc (.cells #[.slice none 0 0, .slice none 0 0, .slice none 0 0] 34) := ⟨_, rfl⟩
          have hba : Below wr.heap.size wr W5 := by rw [hW5]; exact hb5.alloc hb5.size _
          have HBG := hide (show Blk W5 g 34 #[.slice none 0 0, .slice none 0 0, .slice none 0 0] by rw [hW5, hg]; exact Blk.new _ _ _)
          have HBP5 := hide (HBPr.out.below hba HBPr.out.lt)
          have HF5 := hide (HFF.out.trans (hba.mono HFF.out.size))
          have HC1 := hide (codr_none p hs code ns (.slice An ln cn) W5 (HOKr.out.below hba (Nat.le_refl _)))
          rw [← HPV2.out] at HC1
          have HO5 := hide (HOKr.out.below hba (Nat.le_refl _))
          have g0 : W5.cell? ⟨g, 0, none⟩ = some (.slice none 0 0) := HBG.out.cell 0
          have g1 : W5.cell? ⟨g, 1, none⟩ = some (.slice none 0 0) := HBG.out.cell 1
          have g2 : W5.cell? ⟨g, 2, none⟩ = some (.slice none 0 0) := HBG.out.cell 2
          have HG := hide hg
          have HW5 := hide hW5
          clear hb5 hg hW5 hba hgd
          go_upto_region 11 with (fail)
          rw [← HG.out, ← HW5.out]
          go_wp2_with (first
    | (refine wpList_load_blk (.tmp 3) HBP5.out HPV.out Try.underlying29 rfl pr_size rfl rfl rfl ?_)
    | (refine wp_load_blk (.tmp 3) HBP5.out HPV.out Try.underlying29 rfl pr_size rfl rfl ?_))
          refine HC1.out.mono ?_
          rintro e w6 ⟨rfl, hb6⟩
          have HBP6 := hide (HBP5.out.below hb6 HBP5.out.lt)
          have HF6 := hide (HF5.out.trans (hb6.mono HF5.out.size))
          have HC2 := hide (codr_none p hs code ns (.slice A k c) w6 (HO5.out.below hb6 (Nat.le_refl _)))
          rw [← HPV2.out] at HC2
          clear g0 g1 g2
          have HBG6 := HBG.out.below hb6 HBG.out.lt
          have g0 : w6.cell? ⟨g, 0, none⟩ = some (.slice none 0 0) := HBG6.cell 0
          have g1 : w6.cell? ⟨g, 1, none⟩ = some (.slice none 0 0) := HBG6.cell 1
          have g2 : w6.cell? ⟨g, 2, none⟩ = some (.slice none 0 0) := HBG6.cell 2
          clear hb6 HBG6
          go_wp2_with (first
    | (refine wpList_load_blk (.tmp 3) HBP6.out HPV.out Try.underlying29 rfl pr_size rfl rfl rfl ?_)
    | (refine wp_load_blk (.tmp 3) HBP6.out HPV.out Try.underlying29 rfl pr_size rfl rfl ?_))
          refine HC2.out.mono ?_
          rintro e w7 ⟨rfl, hb7⟩
          have HF7 := hide (HF6.out.trans (hb7.mono HF6.out.size))
          clear hb7 g0 g1 g2
          go_upto_region 16 with (fail)
          go_loopw [12] (fun iv wk => iv = .int .i64 0 ∧ wk = w7) (fun _ _ => 0)
          case atStart => exact ⟨rfl, rfl⟩
          case round =>
            obtain ⟨rfl, rfl⟩ := hrel
            go_wp2_with fail
            go_ret
            exact ⟨rfl, HF7.out⟩
        | true =>
          have HGD := hide hgd
          have HOF := hide (of_some p hs code ns wr HOKr.out (by have := HSM.out.1; omega) HSM.out.2.2 hgd)
          rw [← HPV2.out] at HOF
          clear hgd
          go_wp2_with (first
    | (refine wpList_load_blk (.tmp 3) HBPr.out HPV.out Try.underlying29 rfl pr_size rfl rfl rfl ?_)
    | (refine wp_load_blk (.tmp 3) HBPr.out HPV.out Try.underlying29 rfl pr_size rfl rfl ?_))
          refine HOF.out.mono ?_
          rintro e w5 ⟨B, vb, va, vo, R, io, hB, rfl, hpath, hGR, hb5⟩
          obtain ⟨Ab, cb, Aa, ca, Ao, co, kb, n, lo, o, rfl, rfl, rfl, hF⟩ := grf_of HGD.out (by have := HSM.out.1; omega) hB hpath hGR
          obtain ⟨g, hg⟩ : ∃ g, g = w5.heap.size := ⟨_, rfl⟩
          obtain ⟨W5, hW5⟩ : ∃ W5, W5 = w5.alloc (.cells #[.slice Ab kb cb, .slice Aa n ca, .slice Ao lo co] 34) := ⟨_, rfl⟩
          have hba : Below w5.heap.size w5 W5 := by rw [hW5]; exact (Below.refl _ _).alloc (Nat.le_refl _) _
          have HBG := hide (show Blk W5 g 34 #[.slice Ab kb cb, .slice Aa n ca, .slice Ao lo co] by rw [hW5, hg]; exact Blk.new _ _ _)
          have hbb : Below wr.heap.size wr W5 := hb5.trans (hba.mono hb5.size)
          have HFR := hide (hF.below hba (Nat.le_refl _))
          have HBP5 := hide (HBPr.out.below hbb HBPr.out.lt)
          have HF5 := hide (HFF.out.trans (hbb.mono HFF.out.size))
          have HO5 := hide (HOKr.out.below hbb (Nat.le_refl _))
          have HNV5 := hide (show BoolsAt W5 (.slice An ln cn) nv from (HNV.out.below HWF.out (Nat.le_refl _)).below hbb (Nat.le_refl _))
          have HBO5 := hide (show BoolsAt W5 (.slice A k c) (bothL nv mv k) from HBO.out.below hbb (Nat.le_refl _))
          have HC1 := hide (codr_any p hs code ns B Ab Aa Ao cb ca co kb n lo R o nv (.slice An ln cn) W5 HO5.out HFR.out HSM.out.2.2 HNV5.out)
          rw [← HPV2.out] at HC1
          have g0 : W5.cell? ⟨g, 0, none⟩ = some (.slice Ab kb cb) := HBG.out.cell 0
          have g1 : W5.cell? ⟨g, 1, none⟩ = some (.slice Aa n ca) := HBG.out.cell 1
          have g2 : W5.cell? ⟨g, 2, none⟩ = some (.slice Ao lo co) := HBG.out.cell 2
          have HG := hide hg
          have HW5 := hide hW5
          clear hpath hGR hb5 hF hg hW5 hba hbb hB
          go_upto_region 11 with (fail)
          rw [← HG.out, ← HW5.out]
          go_wp2_with (first
    | (refine wpList_load_blk (.tmp 3) HBP5.out HPV.out Try.underlying29 rfl pr_size rfl rfl rfl ?_)
    | (refine wp_load_blk (.tmp 3) HBP5.out HPV.out Try.underlying29 rfl pr_size rfl rfl ?_))
          refine HC1.out.mono ?_
          rintro e w6 ⟨ga, na, fa, rfl, hna, hga, hbla, hb6, hfa⟩
          have HBP6 := hide (HBP5.out.below hb6 HBP5.out.lt)
          have HF6 := hide (HF5.out.trans (hb6.mono HF5.out.size))
          have HO6 := hide (HO5.out.below hb6 (Nat.le_refl _))
          have HC2 := hide (codr_any p hs code ns B Ab Aa Ao cb ca co kb n lo R o (bothL nv mv k) (.slice A k c) w6 HO6.out (HFR.out.below hb6 (Nat.le_refl _)) HSM.out.2.2 (HBO5.out.below hb6 (Nat.le_refl _)))
          rw [← HPV2.out] at HC2
          have HBA := hide hbla
          have HFA := hide (And.intro hna hfa)
          clear g0 g1 g2
          have HBG6 := HBG.out.below hb6 HBG.out.lt
          have g0 : w6.cell? ⟨g, 0, none⟩ = some (.slice Ab kb cb) := HBG6.cell 0
          have g1 : w6.cell? ⟨g, 1, none⟩ = some (.slice Aa n ca) := HBG6.cell 1
          have g2 : w6.cell? ⟨g, 2, none⟩ = some (.slice Ao lo co) := HBG6.cell 2
          clear hb6 HBG6 hna hga hbla hfa
          go_wp2_with (first
    | (refine wpList_load_blk (.tmp 3) HBP6.out HPV.out Try.underlying29 rfl pr_size rfl rfl rfl ?_)
    | (refine wp_load_blk (.tmp 3) HBP6.out HPV.out Try.underlying29 rfl pr_size rfl rfl ?_))
          refine HC2.out.mono ?_
          rintro e w7 ⟨gb, nb, fb, rfl, hnb, hgb, hblb, hb7, hfb⟩
          obtain rfl : nb = na := by rw [hnb, HFA.out.1]
          have HF7 := hide (HF6.out.trans (hb7.mono HF6.out.size))
          have HO7 := hide (HO6.out.below hb7 (Nat.le_refl _))
          have HBP7 := hide (HBP6.out.below hb7 HBP6.out.lt)
          have HBA7 := hide (HBA.out.below hb7 HBA.out.lt)
          have HBB7 := hide hblb
          have HFB := hide hfb
          have HNA := hide (show nb ≤ 40 by rw [HFA.out.1]; exact HSM.out.1)
          have HIM := hide (fun q (hq : q < nb) (hh : fb q = true) => show fa q = true from (HFA.out.2 q hq).2 (rchR_less HMO.out ((hfb q hq).1 hh)))
          clear hb7 g0 g1 g2 hnb hgb hblb hfb
          go_upto_region 16 with (fail)
          obtain ⟨W7, hW7⟩ : ∃ W7, W7 = w7 := ⟨_, rfl⟩
          subst hW7
          go_loopw [12] (fun iv wk => ∃ i : Nat, i ≤ nb ∧ iv = .int .i64 (i : Int) ∧ Hid (Below W7.heap.size W7 wk)) (fun iv _ => nb - (intOf iv).toNat)
          case atStart => exact ⟨0, Nat.zero_le _, rfl, hide (Below.refl _ _)⟩
          case round =>
            obtain ⟨i, hi, rfl, HWi⟩ := hrel
            by_cases hil : i < nb
            · have i1 : (i : Int) < (nb : Int) := by omega
              have i2 : (0 : Int) ≤ (i : Int) := by omega
              have q5 : IntKind.i64.wrap ((i : Int) + 1) = ((i + 1 : Nat) : Int) := by rw [show (i : Int) + 1 = ((i + 1 : Nat) : Int) by omega]; exact IntWalk.i64_in _ (by have := HNA.out; omega)
              obtain ⟨i', hi'⟩ : ∃ i', i' = i + 1 := ⟨_, rfl⟩
              rw [← hi'] at q5
              have HI' := hide hi'
              have HIL := hide hil
              have ya := ((HBA7.out.below HWi.out HBA7.out.lt).cell i).trans (bc_at _ hil)
              have yb := ((HBB7.out.below HWi.out HBB7.out.lt).cell i).trans (bc_at _ hil)
              cases hfai : fa i with
              | false =>
                have hfbi : fb i = false := by
                  cases hq : fb i with
                  | false => rfl
                  | true => rw [HIM.out i hil hq] at hfai; cases hfai
                rw [hfai] at ya
                rw [hfbi] at yb
                clear hi' hil hfai hfbi
                go_wp2_with fail
                go_roundw
                case rel => exact ⟨i + 1, by have := HIL.out; omega, by rw [HI'.out], HWi⟩
                case measure => rw [HI'.out]; simp [intOf]; have := HIL.out; omega
              | true =>
                have HRC := hide (show Rch code 0 i from rchR_code ((HFA.out.2 i hil).1 hfai))
                have HCM := hide (comes_any p hs code ns 0 (i : Int) wr (HO7.out.below HWi.out (Nat.le_refl _)) (by have := HSM.out.1; omega) HSM.out.2.2)
                rw [← HPV2.out] at HCM
                have HBPi := hide (HBP7.out.below HWi.out HBP7.out.lt)
                rw [hfai] at ya
                clear hi' hil hfai
                cases hfbi : fb i with
                | false =>
                  rw [hfbi] at yb
                  clear hfbi
                  go_wp2_with (first
    | (refine wpList_load_blk (.tmp 3) HBPi.out HPV.out Try.underlying29 rfl pr_size rfl (wanted_of 16 99 true rfl rfl rfl rfl) rfl ?_))
                  refine HCM.out.mono ?_
                  rintro e w8 ⟨r8, rfl, hb8, hr8⟩
                  obtain rfl : r8 = true := hr8.2 ⟨by omega, by have := HIL.out; have := HFA.out.1; omega, by omega, by have := HIL.out; have := HFA.out.1; omega, HGD.out, by simpa using HRC.out⟩
                  have HW8 := hide (HWi.out.trans (hb8.mono HWi.out.size))
                  clear hb8 hr8 ya yb
                  go_wp2_with fail
                  go_roundw
                  case rel => exact ⟨i + 1, by have := HIL.out; omega, by rw [HI'.out], HW8⟩
                  case measure => rw [HI'.out]; simp [intOf]; have := HIL.out; omega
                | true =>
                  rw [hfbi] at yb
                  clear hfbi
                  go_wp2_with (first
    | (refine wpList_load_blk (.tmp 3) HBPi.out HPV.out Try.underlying29 rfl pr_size rfl (wanted_of 16 99 true rfl rfl rfl rfl) rfl ?_))
                  refine HCM.out.mono ?_
                  rintro e w8 ⟨r8, rfl, hb8, hr8⟩
                  obtain rfl : r8 = true := hr8.2 ⟨by omega, by have := HIL.out; have := HFA.out.1; omega, by omega, by have := HIL.out; have := HFA.out.1; omega, HGD.out, by simpa using HRC.out⟩
                  have HW8 := hide (HWi.out.trans (hb8.mono HWi.out.size))
                  clear hb8 hr8 ya yb
                  go_wp2_with fail
                  go_roundw
                  case rel => exact ⟨i + 1, by have := HIL.out; omega, by rw [HI'.out], HW8⟩
                  case measure => rw [HI'.out]; simp [intOf]; have := HIL.out; omega
            · have i1 : ¬ (i : Int) < (nb : Int) := by omega
              clear hil hi
              go_wp2_with fail
              go_ret
              exact ⟨rfl, HF7.out.trans (HWi.out.mono HF7.out.size)⟩
end Go.Proofs.Ytaaadbaakhjkcaa
