/- FlowParts; conditions: the func is in memory. -/
import Derived.Test.YtaaadbaakhjkcaaFlT
import Derived.Test.YtaaadbaakhjkcaaTail
namespace Go.Proofs.Ytaaadbaakhjkcaa
open Go.RowKit Go.WideShapes Go.ChangeShapes
set_option linter.unusedVariables false
set_option linter.unusedSimpArgs false
set_option maxRecDepth 100000

set_option maxHeartbeats 16000000 in
theorem parts_any (p : Pr) (hs : List Bool) (code : List IV) (ns : Nat) (w : World) (h : PrOk w p hs code ns) : Calls Try.prog 3 #[p.val] w (BoolP w true) := by
  obtain ⟨i0, hi0, hz0, hz1, hz2⟩ := info_parts intInfoT
  obtain ⟨gp, hgp⟩ : ∃ gp, gp = w.heap.size := ⟨_, rfl⟩
  obtain ⟨W1, hW1⟩ : ∃ W1, W1 = w.alloc (.cells p.arr 29) := ⟨_, rfl⟩
  have hb1 : Below w.heap.size w W1 := by rw [hW1]; exact (Below.refl _ _).alloc (Nat.le_refl _) _
  have hbp : Blk W1 gp 29 p.arr := by rw [hW1, hgp]; exact Blk.new _ _ _
  have HOK := hide (h.below hb1 (Nat.le_refl _))
  obtain ⟨Ac, cc, hcv⟩ := h.cv.form
  obtain ⟨PV, hPV⟩ : ∃ PV, PV = p.val := ⟨_, rfl⟩
  have HPV := hide (show PV = .agg p.arr from hPV)
  have HPV2 := hide (show PV = p.val from hPV)
  have HB1 := hide hb1
  have HW1 := hide hW1
  have HGP := hide hgp
  have HBP := hide hbp
  have HCV := hide hcv
  clear h hb1 hW1 hgp hbp hPV hcv
  have HAW := hide (awake19_any W1)
  go_enter Try.func3, Try.ntmps3
  go_upto_region 1 with (fail)
  rw [← HPV2.out, ← HGP.out]
  rw [HPV.out, ← HW1.out, ← HPV.out]
  go_wp2_with fail
  refine HAW.out.mono ?_
  rintro e w2 ⟨rfl, hb2⟩
  have HB2 := hide (show Below W1.heap.size W1 w2 from hb2)
  have HBP2 := hide (HBP.out.below hb2 HBP.out.lt)
  have HGC := hide (greatc9_any p hs code ns w2 (HOK.out.below hb2 (Nat.le_refl _)))
  rw [← HPV2.out] at HGC
  clear hb2
  go_wp2_with (first
    | (refine wpList_load_blk (.tmp 1) HBP2.out HPV.out Try.underlying29 rfl pr_size rfl rfl rfl ?_)
    | (refine wp_load_blk (.tmp 1) HBP2.out HPV.out Try.underlying29 rfl pr_size rfl rfl ?_))
  refine HGC.out.mono ?_
  rintro e w3 ⟨rfl, hb3⟩
  have HB3 := hide (HB2.out.trans (hb3.mono HB2.out.size))
  clear hb3
  have HBP3 := hide (HBP.out.below HB3.out HBP.out.lt)
  have HF := hide (HB1.out.trans (HB3.out.mono HB1.out.size))
  cases hgc : greatC9 hs code ns with
  | true =>
    clear hgc
    go_wp2_with fail
    go_ret
    exact ⟨rfl, HF.out⟩
  | false =>
    have HSM := hide (small_of9 hgc)
    clear hgc
    have HGD := hide (good_any p hs code ns w3 (HOK.out.below HB3.out (Nat.le_refl _)) (by have := HSM.out.1; omega) HSM.out.2)
    rw [← HPV2.out] at HGD
    go_wp2_with (first
    | (refine wpList_load_blk (.tmp 1) HBP3.out HPV.out Try.underlying29 rfl pr_size rfl (wanted_of 2 23 false rfl rfl rfl rfl) rfl ?_)
    | (refine wp_load_blk (.tmp 1) HBP3.out HPV.out Try.underlying29 rfl pr_size rfl rfl ?_))
    refine HGD.out.mono ?_
    rintro e w4 ⟨rfl, hb4⟩
    have HB4 := hide (HB3.out.trans (hb4.mono HB3.out.size))
    clear hb4
    have HBP4 := hide (HBP.out.below HB4.out HBP.out.lt)
    have HF4 := hide (HB1.out.trans (HB4.out.mono HB1.out.size))
    cases hgd : goodP p hs code ns with
    | false =>
      clear hgd
      go_wp2_with fail
      go_ret
      exact ⟨rfl, HF4.out⟩
    | true =>
      have HGP4 := hide hgd
      clear hgd
      have HOF := hide (of_some p hs code ns w4 (HOK.out.below HB4.out (Nat.le_refl _)) (by have := HSM.out.1; omega) HSM.out.2 HGP4.out)
      rw [← HPV2.out] at HOF
      go_wp2_with (first
    | (refine wpList_load_blk (.tmp 1) HBP4.out HPV.out Try.underlying29 rfl pr_size rfl rfl rfl ?_)
    | (refine wp_load_blk (.tmp 1) HBP4.out HPV.out Try.underlying29 rfl pr_size rfl rfl ?_))
      refine HOF.out.mono ?_
      rintro e w5 ⟨B, vb, va, vo, R, io, hB, rfl, hpath, hGR, hb5⟩
      obtain ⟨Ab, cb, Aa, ca, Ao, co, kb, n, lo, o, rfl, rfl, rfl, hF⟩ := grf_of HGP4.out (by have := HSM.out.1; omega) hB hpath hGR
      obtain ⟨g, hg⟩ : ∃ g, g = w5.heap.size := ⟨_, rfl⟩
      obtain ⟨W5, hW5⟩ : ∃ W5, W5 = w5.alloc (.cells #[.slice Ab kb cb, .slice Aa n ca, .slice Ao lo co] 34) := ⟨_, rfl⟩
      have hba : Below w5.heap.size w5 W5 := by rw [hW5]; exact (Below.refl _ _).alloc (Nat.le_refl _) _
      have HBG := hide (show Blk W5 g 34 #[.slice Ab kb cb, .slice Aa n ca, .slice Ao lo co] by rw [hW5, hg]; exact Blk.new _ _ _)
      have HB5 := hide (show Below W1.heap.size W1 W5 from (HB4.out.trans (hb5.mono HB4.out.size)).trans (hba.mono (HB4.out.trans (hb5.mono HB4.out.size)).size))
      have HFR := hide (hF.below hba (Nat.le_refl _))
      have HNN := hide (show n ≤ 60 ∧ kb ≤ 1000 ∧ n = code.length from ⟨by rw [hF.nl]; exact HSM.out.1, hF.kle, hF.nl⟩)
      have HOK5 := hide (HOK.out.below HB5.out (Nat.le_refl _))
      have HBP5 := hide (HBP.out.below HB5.out HBP.out.lt)
      have HCV5 := hide (show InssAt W5 (.slice Ac n cc) code by
        have h := HOK5.out.cv
        rw [HCV.out, ← HNN.out.2.2] at h
        exact h)
      have y6 : ∀ wr, Below W5.heap.size W5 wr → wr.cell? ⟨gp, 6, none⟩ = some (.slice Ac n cc) := fun wr hw => by
        have h := (HBP5.out.below hw HBP5.out.lt).cell 6
        rw [h, HNN.out.2.2, ← HCV.out]
        rfl
      have HY6 := hide y6
      have HGW := hide (show ∀ wr, Below W5.heap.size W5 wr → wr.cell? ⟨g, 0, none⟩ = some (.slice Ab kb cb) ∧ wr.cell? ⟨g, 1, none⟩ = some (.slice Aa n ca) ∧ wr.cell? ⟨g, 2, none⟩ = some (.slice Ao lo co) from fun wr hw => by
        have h := HBG.out.below hw HBG.out.lt
        exact ⟨h.cell 0, h.cell 1, h.cell 2⟩)
      have HFB := hide (show Below w.heap.size w W5 from HB1.out.trans (HB5.out.mono HB1.out.size))
      have HG := hide hg
      have HW5 := hide hW5
      clear hpath hGR hb5 hF hg hW5 hba y6 hB
      go_upto_region 6 with (fail)
      rw [← HG.out, ← HW5.out]
      go_upto_region 8 with (fail)
      go_loopw [4, 5] (fun av bv wr => ∃ b : Nat, b ≤ kb ∧ av = .int .i64 (stA (bls B code.length) n b : Int) ∧ bv = .int .i64 (b : Int) ∧ Hid (Below W5.heap.size W5 wr)) (fun _ bv _ => kb - (intOf bv).toNat)
      case atStart =>
        refine ⟨0, Nat.zero_le _, ?_, rfl, hide (Below.refl _ _)⟩
        rw [sta_zero (B := B) (n := n) (by rw [HNN.out.2.2]; exact HFR.out.g.ok) HFR.out.g.klen]
        rfl
      case round =>
        obtain ⟨b, hb, rfl, rfl, HWR⟩ := hrel
        have g0 := (HGW.out wr HWR.out).1
        by_cases hlt : b < kb
        · have i1 : (b : Int) < (kb : Int) := by omega
          have i2 : (0 : Int) ≤ (b : Int) := by omega
          have q9 : IntKind.i64.wrap ((b : Int) + 1) = ((b + 1 : Nat) : Int) := by rw [IntWalk.i64_in _ (by have := HNN.out; omega)]; omega
          obtain ⟨bn, hbn⟩ : ∃ bn, bn = b + 1 := ⟨_, rfl⟩
          rw [← hbn] at q9
          have HBN := hide hbn
          obtain ⟨x, hx⟩ := HFR.out.some_ hlt
          have hxl := HFR.out.g.ok.lt b x hx
          obtain ⟨x1, hx1⟩ : ∃ x1, x1 = x.1 := ⟨_, rfl⟩
          obtain ⟨x2, hx2⟩ : ∃ x2, x2 = x.2 := ⟨_, rfl⟩
          obtain ⟨bb, ob, hAb, hbl, c0, c1, c2, c3⟩ := (HFR.out.below HWR.out (Nat.le_refl _)).cells hx
          obtain ⟨An, cn, hRn, hIn⟩ := (HFR.out.below HWR.out (Nat.le_refl _)).nexts hlt
          obtain ⟨PL, Ap, cp, hRp, hIp, hPl, hPm⟩ := (HFR.out.below HWR.out (Nat.le_refl _)).prevs HSM.out.2 hlt
          obtain ⟨nn, hnn⟩ : ∃ nn, nn = (nxB code B b).length := ⟨_, rfl⟩
          obtain ⟨np, hnp⟩ : ∃ np, np = PL.length := ⟨_, rfl⟩
          rw [← hnn] at hRn
          rw [← hnp] at hRp
          rw [hRn] at c2
          rw [hRp] at c3
          rw [← hx1] at c0
          rw [← hx2] at c1
          obtain ⟨gx, hgx⟩ : ∃ gx, gx = wr.heap.size := ⟨_, rfl⟩
          obtain ⟨W6, hW6⟩ : ∃ W6, W6 = wr.alloc (.cells #[.int .i64 (x1 : Int), .int .i64 (x2 : Int), .slice An nn cn, .slice Ap np cp] 37) := ⟨_, rfl⟩
          have hb6 : Below wr.heap.size wr W6 := by rw [hW6]; exact (Below.refl _ _).alloc (Nat.le_refl _) _
          have HBX := hide (show Blk W6 gx 37 #[.int .i64 (x1 : Int), .int .i64 (x2 : Int), .slice An nn cn, .slice Ap np cp] by rw [hW6, hgx]; exact Blk.new _ _ _)
          have HB6 := hide (HWR.out.trans (hb6.mono HWR.out.size))
          have HIN := hide (show IntsAt W6 (.slice An nn cn) ((nxB code B b).map (fun q : Nat => (q : Int))) by rw [← hRn]; exact hIn.below hb6 (Nat.le_refl _))
          have HX := hide hx
          have HXX := hide (And.intro hx1 (And.intro hx2 (And.intro hxl hnn)))
          have HLT := hide hlt
          have HGX := hide hgx
          have HW6 := hide hW6
          have hst : stA (bls B code.length) n b = x1 := by rw [sta_at hx, hx1]
          have HST := hide hst
          rw [hst]
          subst hAb
          clear hst hx hxl hx1 hx2 hbl hRn hIn hRp hIp hPl hPm hnn hnp hgx hW6 hb6 hlt hbn
          go_upto_region 11 with (fail)
          rw [← HGX.out, ← HW6.out]
          clear c0 c1 c2 c3 g0
          have e0 : W6.cell? ⟨gx, 0, none⟩ = some (.int .i64 (x1 : Int)) := HBX.out.cell 0
          have e1 : W6.cell? ⟨gx, 1, none⟩ = some (.int .i64 (x2 : Int)) := HBX.out.cell 1
          have y6 := HY6.out W6 HB6.out
          have k1 : ¬ (x2 : Int) ≤ (x1 : Int) := by have := HXX.out; omega
          have k2 : ¬ (n : Int) < (x2 : Int) := by have := HXX.out; have := HNN.out; omega
          have k3 : (x1 : Int) < (x2 : Int) := by omega
          have k4 : (x2 : Int) ≤ (n : Int) := by omega
          have HXM := hide (show x1 < x2 ∧ x2 ≤ n by omega)
          go_upto_region 14 with (fail)
          clear e0 e1 y6 k1 k2 k3 k4
          go_loopw [7] (fun pv wr => ∃ pc : Nat, x1 ≤ pc ∧ pc ≤ x2 ∧ pv = .int .i64 (pc : Int) ∧ Hid (Below W6.heap.size W6 wr)) (fun pv _ => x2 - (intOf pv).toNat)
          case atStart => exact ⟨x1, Nat.le_refl _, by have := HXM.out; omega, rfl, hide (Below.refl _ _)⟩
          case round =>
            obtain ⟨pc, hp1, hp2, rfl, HW⟩ := hrel
            have e1 : wr.cell? ⟨gx, 1, none⟩ = some (.int .i64 (x2 : Int)) := (HBX.out.below HW.out HBX.out.lt).cell 1
            by_cases hpx : pc < x2
            · have j1 : (pc : Int) < (x2 : Int) := by omega
              have j2 : (0 : Int) ≤ (pc : Int) := by omega
              have j3 : (pc : Int) < (n : Int) := by have := HXM.out; omega
              have hbw : Below W5.heap.size W5 wr := HB6.out.trans (HW.out.mono HB6.out.size)
              have HBW := hide hbw
              obtain ⟨b0, of, y, hAc, hbl, hy, hcells⟩ := RowAt.at_ (HCV5.out.below hbw (Nat.le_refl _)) (i := pc) (by have := HNN.out; omega)
              subst hAc
              have HCE := hide (show wr.rangeAt b0 (of + pc * 22) (IV.enc y) from hcells)
              obtain ⟨V, hV⟩ : ∃ V, V = Ins.val y.i y.av y.rv := ⟨_, rfl⟩
              have HVI := hide hV
              have HLX := hide (HSM.out.2 y (List.mem_of_getElem? hy))
              have HNC := hide (next_any y.i y.av y.rv (pc : Int) wr ((HOK5.out.ok y (List.mem_of_getElem? hy)).below hbw (Nat.le_refl _)) (by have := HLX.out; omega))
              rw [← hV] at HNC
              obtain ⟨L, hL⟩ : ∃ L, L = nextI y.i (pc : Int) := ⟨_, rfl⟩
              rw [← hL] at HNC
              have HIS := hide (fun (h : pc + 1 < x2) => show L = [((pc + 1 : Nat) : Int)] by
                rw [hL]
                exact HFR.out.g.inside HX.out (by rw [← HXX.out.1]; exact hp1) (by rw [← HXX.out.2.1]; exact h) hy)
              have HAB := hide (show atB B pc = b from HFR.out.g.at_ HX.out (by rw [← HXX.out.1]; exact hp1) (by rw [← HXX.out.2.1]; exact hpx))
              have y6 := HY6.out wr hbw
              have HPX := hide hpx
              clear hbw hbl hy hcells hV hL hpx
              go_upto_region 16 with (fail)
              clear e1
              go_wp2_with (first
                | (refine wpList_load_midW 45 (.tmp 72) b0 (of + pc * 22) (IV.enc y) V HCE.out HVI.out Try.underlying45 rfl ins_size rfl (by kernel_rfl) rfl ?_)
                | (refine wp_load_midV 45 (.tmp 72) b0 (of + pc * 22) (IV.enc y) V HCE.out HVI.out Try.underlying45 rfl ins_size rfl rfl ?_))
              refine HNC.out.mono ?_
              rintro e w7 ⟨v7, rfl, hown7, hb7⟩
              have hi7 : IntsAt w7 v7 L := IntsAt.own hown7
              obtain ⟨A7, c7, hv7⟩ := hi7.form
              obtain ⟨nl, hnl⟩ : ∃ nl, nl = L.length := ⟨_, rfl⟩
              rw [← hnl] at hv7
              have HNL := hide hnl
              have HI7 := hide hi7
              have HW7 := hide (HW.out.trans (hb7.mono HW.out.size))
              have HB7 := hide (show Below W5.heap.size W5 w7 from HBW.out.trans (hb7.mono HBW.out.size))
              rw [hv7]
              rw [hv7] at HI7
              clear hown7 hb7 hi7 hnl hv7 y6
              go_upto_region 17 with (fail)
              have g1 := (HGW.out w7 HB7.out).2.1
              have e1 : w7.cell? ⟨gx, 1, none⟩ = some (.int .i64 (x2 : Int)) := (HBX.out.below HW7.out HBX.out.lt).cell 1
              obtain ⟨ba, oa, av, hAa, hal, hav, ya⟩ := IntsAt.at_ (HFR.out.below HB7.out (Nat.le_refl _)).at_.at_ (k := pc) (by rw [List.length_map, List.length_range]; have := HNN.out; omega)
              rw [List.getElem?_map, List.getElem?_range (by have := HNN.out; omega)] at hav
              injection hav with hav
              have hav : ((atB B pc : Nat) : Int) = av := hav
              rw [HAB.out] at hav
              subst hav
              subst hAa
              obtain ⟨xm, hxm⟩ : ∃ xm, x2 = xm + 1 := ⟨x2 - 1, by have := HXM.out; omega⟩
              have q7 : IntKind.i64.wrap ((x2 : Int) - 1) = (xm : Int) := by rw [show (x2 : Int) - 1 = (xm : Int) by omega]; exact IntWalk.i64_in _ (by have := HXM.out; have := HNN.out; omega)
              obtain ⟨pn, hpn⟩ : ∃ pn, pn = pc + 1 := ⟨_, rfl⟩
              have q8 : IntKind.i64.wrap ((pc : Int) + 1) = (pn : Int) := by rw [hpn, show (pc : Int) + 1 = ((pc + 1 : Nat) : Int) by omega]; exact IntWalk.i64_in _ (by have := HXM.out; have := HNN.out; have := HPX.out; omega)
              have HPN := hide hpn
              have HXMM := hide hxm
              clear hal hxm hpn
              by_cases hin : pc + 1 < x2
              · have hL := HIS.out hin
                have hnl1 : nl = 1 := by rw [HNL.out, hL]; rfl
                subst hnl1
                have hi7 := HI7.out
                rw [hL] at hi7
                obtain ⟨bl, ol, lv, hA7, hll, hlv, yl⟩ := IntsAt.at_ hi7 (k := 0) (by show 0 < 1; decide)
                obtain rfl : ((pc + 1 : Nat) : Int) = lv := by simpa using hlv
                rw [← HPN.out] at yl
                have yl : w7.cell? ⟨bl, ol, none⟩ = some (.int .i64 (pn : Int)) := yl
                subst hA7
                have m1 : (pc : Int) < (xm : Int) := by have := HXMM.out; omega
                clear hL hi7 hll hlv hin
                go_wp2_with fail
                go_roundw
                case rel => exact ⟨pc + 1, by omega, by have := HPX.out; omega, by rw [HPN.out], HW7⟩
                case measure => rw [HPN.out]; simp [intOf]; have := HPX.out; omega
              · have m1 : ¬ (pc : Int) < (xm : Int) := by have := HXMM.out; omega
                clear hin
                go_wp2_with fail
                go_roundw
                case rel => exact ⟨pc + 1, by omega, by have := HPX.out; omega, by rw [HPN.out], HW7⟩
                case measure => rw [HPN.out]; simp [intOf]; have := HPX.out; omega
            · have j1 : ¬ (pc : Int) < (x2 : Int) := by omega
              clear hpx
              go_upto_region 20 with (fail)
              clear e1 j1 hp1 hp2
              have HW6w := hide (show Below W6.heap.size W6 wr from HW.out)
              clear HW
              go_loopw [9] (fun iv wr => ∃ i : Nat, i ≤ nn ∧ iv = .int .i64 (i : Int) ∧ Hid (Below W6.heap.size W6 wr)) (fun iv _ => nn - (intOf iv).toNat)
              case atStart => exact ⟨0, Nat.zero_le _, rfl, HW6w⟩
              case round =>
                clear HW6w
                obtain ⟨i, hi, rfl, HW⟩ := hrel
                have e2 : wr.cell? ⟨gx, 2, none⟩ = some (.slice An nn cn) := (HBX.out.below HW.out HBX.out.lt).cell 2
                by_cases hin : i < nn
                · have j1 : (i : Int) < (nn : Int) := by omega
                  have j2 : (0 : Int) ≤ (i : Int) := by omega
                  have hbw : Below W5.heap.size W5 wr := HB6.out.trans (HW.out.mono HB6.out.size)
                  have HBW := hide hbw
                  have hNn : nn ≤ 102 := by rw [HXX.out.2.2.2]; exact nxB_len HSM.out.2 B b
                  have q6 : IntKind.i64.wrap ((i : Int) + 1) = ((i + 1 : Nat) : Int) := by rw [show (i : Int) + 1 = ((i + 1 : Nat) : Int) by omega]; exact IntWalk.i64_in _ (by omega)
                  obtain ⟨i', hi'⟩ : ∃ i', i' = i + 1 := ⟨_, rfl⟩
                  rw [← hi'] at q6
                  have HI' := hide hi'
                  obtain ⟨b3, o3, yv, hA3, hl3, hyv, y3⟩ := IntsAt.at_ (HIN.out.below HW.out (Nat.le_refl _)) (k := i) (by rw [List.length_map, ← HXX.out.2.2.2]; exact hin)
                  rw [List.getElem?_map] at hyv
                  obtain ⟨y, hy, hyy⟩ : ∃ y, (nxB code B b)[i]? = some y ∧ (y : Int) = yv := by
                    cases hz : (nxB code B b)[i]? with
                    | none => rw [hz] at hyv; cases hyv
                    | some z => rw [hz] at hyv; exact ⟨z, rfl, by injection hyv⟩
                  subst hyy
                  subst hA3
                  have hym := List.mem_of_getElem? hy
                  have hyk : y < kb := HFR.out.nx_lt hym
                  obtain ⟨xy, hxy⟩ := HFR.out.some_ hyk
                  obtain ⟨bb', ob', hAb', hbl', d0, d1, d2, d3⟩ := (HFR.out.below hbw (Nat.le_refl _)).cells hxy
                  injection hAb' with hAb'
                  injection hAb' with e1' e2'
                  subst e1' e2'
                  obtain ⟨QL, Aq, cq, hRq, hIq, hQl, hQm⟩ := (HFR.out.below hbw (Nat.le_refl _)).prevs HSM.out.2 hyk
                  obtain ⟨nq', hnq⟩ : ∃ nq', nq' = QL.length := ⟨_, rfl⟩
                  rw [← hnq] at hRq hQl
                  rw [hRq] at d3
                  have HIQ := hide (show IntsAt wr (.slice Aq nq' cq) QL by rw [← hRq]; exact hIq)
                  have HQM := hide ((hQm (b : Int)).2 ⟨b, rfl, HLT.out, hym⟩)
                  have HQL := hide (And.intro hnq hQl)
                  have m1 : (y : Int) < (kb : Int) := by omega
                  have m2 : (0 : Int) ≤ (y : Int) := by omega
                  have g0 := (HGW.out wr hbw).1
                  have HIL := hide hin
                  clear hbw hNn hi' hl3 hyv hy hym hyk hxy hbl' d0 d1 d2 hRq hIq hQl hQm hnq hin
                  go_upto_region 22 with (fail)
                  go_upto_region 23 with (fail)
                  go_wp2_with fail
                  go_quiet (fail)
                  obtain ⟨wz, hwz⟩ : ∃ wz, wz = wr.drewN nq := ⟨_, rfl⟩
                  have hbz : Below wr.heap.size wr wz := by rw [hwz]; exact below_drewL (Below.refl _ _) _
                  have HWZ := hide (HW.out.trans (hbz.mono HW.out.size))
                  have HIZ := hide (HIQ.out.below hbz (Nat.le_refl _))
                  rw [← hwz]
                  clear hwz hbz e2 d3 g0 y3 m1 m2
                  go_upto_region 25 with (fail)
                  go_loopw [10, 12] (fun sv kv wk => ∃ (k : Nat) (s : Bool), k ≤ nq' ∧ sv = .bool s ∧ kv = .int .i64 (k : Int) ∧ Hid (s = decide ((b : Int) ∈ QL.take k)) ∧ wk = wz) (fun _ kv _ => nq' - (intOf kv).toNat)
                  case atStart => exact ⟨0, false, Nat.zero_le _, rfl, rfl, hide (by simp), rfl⟩
                  case round =>
                    obtain ⟨k, s, hk, rfl, rfl, HS, rfl⟩ := hrel
                    by_cases hkq : k < nq'
                    · have k1 : (k : Int) < (nq' : Int) := by omega
                      have k2 : (0 : Int) ≤ (k : Int) := by omega
                      have q5 : IntKind.i64.wrap ((k : Int) + 1) = ((k + 1 : Nat) : Int) := by rw [show (k : Int) + 1 = ((k + 1 : Nat) : Int) by omega]; exact IntWalk.i64_in _ (by have := HQL.out; omega)
                      obtain ⟨k', hk'⟩ : ∃ k', k' = k + 1 := ⟨_, rfl⟩
                      rw [← hk'] at q5
                      have HK' := hide hk'
                      obtain ⟨b4, o4, z, hA4, hl4, hz, y4⟩ := IntsAt.at_ HIZ.out (k := k) (by rw [← HQL.out.1]; exact hkq)
                      subst hA4
                      have HS1 := hide (show decide ((b : Int) ∈ QL.take (k + 1)) = (s || decide (z = (b : Int))) by
                        rw [HS.out, List.take_add_one, hz]
                        simp only [Option.toList, List.mem_append, List.mem_singleton, Bool.decide_or]
                        congr 1
                        exact decide_eq_decide.2 ⟨fun h => h.symm, fun h => h.symm⟩)
                      have HKQ := hide hkq
                      clear hk' hl4 hz hkq
                      cases hs : s with
                      | true =>
                        have HSS := hide hs
                        subst hs
                        go_wp2_with fail
                        go_roundw
                        case rel => exact ⟨k + 1, true, by have := HKQ.out; omega, rfl, by rw [HK'.out], hide (by rw [HS1.out, HSS.out]; rfl), trivial⟩
                        case measure => rw [HK'.out]; simp [intOf]; have := HKQ.out; omega
                      | false =>
                        have HSS := hide hs
                        subst hs
                        by_cases hzb : z = (b : Int)
                        · have HZB := hide hzb
                          subst hzb
                          go_wp2_with fail
                          go_roundw
                          case rel => exact ⟨k + 1, true, by have := HKQ.out; omega, rfl, by rw [HK'.out], hide (by rw [HS1.out]; simp), trivial⟩
                          case measure => rw [HK'.out]; simp [intOf]; have := HKQ.out; omega
                        · have hzb2 : (z == (b : Int)) = false := by simp [hzb]
                          have HZB := hide hzb
                          go_wp2_with fail
                          go_roundw
                          case rel => exact ⟨k + 1, false, by have := HKQ.out; omega, rfl, by rw [HK'.out], hide (by rw [HS1.out, HSS.out]; simp [HZB.out]), trivial⟩
                          case measure => rw [HK'.out]; simp [intOf]; have := HKQ.out; omega
                    · have k1 : ¬ (k : Int) < (nq' : Int) := by omega
                      have hs : s = true := by
                        rw [HS.out, List.take_of_length_le (by rw [← HQL.out.1]; omega)]
                        exact decide_eq_true HQM.out
                      subst hs
                      clear hkq hk
                      go_wp2_with fail
                      go_roundw
                      case rel => exact ⟨i + 1, by have := HIL.out; omega, by rw [HI'.out], HWZ⟩
                      case measure => rw [HI'.out]; simp [intOf]; have := HIL.out; omega
                · have j1 : ¬ (i : Int) < (nn : Int) := by omega
                  have e1 : wr.cell? ⟨gx, 1, none⟩ = some (.int .i64 (x2 : Int)) := (HBX.out.below HW.out HBX.out.lt).cell 1
                  have HWF := hide (HB6.out.trans (HW.out.mono HB6.out.size))
                  clear hin hi
                  go_wp2_with fail
                  go_roundw
                  case rel =>
                    refine ⟨b + 1, by have := HLT.out; omega, ?_, by rw [HBN.out], HWF⟩
                    rw [sta_next (B := B) (n := n) (by rw [HNN.out.2.2]; exact HFR.out.g.ok) HX.out, ← HXX.out.2.1]
                  case measure => rw [HBN.out]; simp [intOf]; have := HLT.out; omega
        · have i1 : ¬ (b : Int) < (kb : Int) := by omega
          have hst : stA (bls B code.length) n b = n := sta_end (by rw [← HFR.out.kbl]; omega)
          rw [hst]
          have y6 := HY6.out wr HWR.out
          have g2 := (HGW.out wr HWR.out).2.2
          have hlo : 0 < lo := by
            have h := HFR.out.ord.first
            rw [HFR.out.lol]
            rcases Nat.eq_zero_or_pos o.length with h1 | h1
            · rw [List.getElem?_eq_none (by omega)] at h; cases h
            · exact h1
          have hll : lo ≤ 1000 := by
            have h1 := List.Nodup.length_le_of_subset HFR.out.ord.nd (show o ⊆ List.range kb from fun q hq => List.mem_range.2 (HFR.out.ord_lt hq))
            rw [List.length_range] at h1
            rw [HFR.out.lol]
            have := HNN.out
            omega
          have l1 : ¬ (lo : Int) = 0 := by omega
          have l2 : ((lo : Int) == 0) = false := by simp; omega
          have l3 : (0 : Int) < (lo : Int) := by omega
          have l4 : ¬ lo = 0 := by omega
          obtain ⟨bo, oo, ov, hAo, hol, hov, yo⟩ := IntsAt.at_ (HFR.out.below HWR.out (Nat.le_refl _)).at_.or_ (k := 0) (by rw [List.length_map, ← HFR.out.lol]; exact hlo)
          rw [List.getElem?_map, HFR.out.ord.first] at hov
          obtain rfl : (0 : Int) = ov := by injection hov
          subst hAo
          have yo : wr.cell? ⟨bo, oo, none⟩ = some (.int .i64 0) := yo
          have hmk := make_bools kb (by have := HNN.out; omega)
          obtain ⟨Z, hZ⟩ : ∃ Z, Z = bc kb (fun _ => false) := ⟨_, rfl⟩
          rw [← hZ] at hmk
          obtain ⟨gs, hgs⟩ : ∃ gs, gs = wr.heap.size := ⟨_, rfl⟩
          obtain ⟨W8, hW8⟩ : ∃ W8, W8 = wr.alloc (.cells Z 4) := ⟨_, rfl⟩
          have hb8 : Below wr.heap.size wr W8 := by rw [hW8]; exact (Below.refl _ _).alloc (Nat.le_refl _) _
          have HS8 := hide (show Blk W8 gs 4 (bc kb (fun q => decide (q ∈ o.take 0))) by
            rw [hW8, hgs, hZ]
            rw [bc_congr (f' := fun _ => false) (fun q _ => by simp)]
            exact Blk.new _ _ _)
          have HB8 := hide (HWR.out.trans (hb8.mono HWR.out.size))
          have HGS := hide (show W5.heap.size ≤ gs by rw [hgs]; exact HWR.out.size)
          have HLO := hide (And.intro hlo hll)
          have HGS2 := hide hgs
          have HW8 := hide hW8
          clear hst hlo hll hol hov hZ hgs hW8 hb8
          go_upto_region 33 with (fail)
          clear l1 l2 l3 l4 y6 g2 yo i1
          have g0 := (HGW.out wr HWR.out).1
          go_upto_region 35 with (fail)
          rw [← HGS2.out, ← HW8.out]
          clear hmk g0
          go_loopw [14] (fun iv wr => ∃ i : Nat, i ≤ lo ∧ iv = .int .i64 (i : Int) ∧ Hid (Blk wr gs 4 (bc kb (fun q => decide (q ∈ o.take i)))) ∧ Hid (Below W5.heap.size W5 wr)) (fun iv _ => lo - (intOf iv).toNat)
          case atStart => exact ⟨0, Nat.zero_le _, rfl, HS8, HB8⟩
          case round =>
            clear HS8 HB8
            obtain ⟨i, hi, rfl, HSN, HW⟩ := hrel
            have g2 := (HGW.out wr HW.out).2.2
            by_cases hil : i < lo
            · have j1 : (i : Int) < (lo : Int) := by omega
              have j2 : (0 : Int) ≤ (i : Int) := by omega
              have q6 : IntKind.i64.wrap ((i : Int) + 1) = ((i + 1 : Nat) : Int) := by rw [show (i : Int) + 1 = ((i + 1 : Nat) : Int) by omega]; exact IntWalk.i64_in _ (by have := HLO.out; omega)
              obtain ⟨i', hi'⟩ : ∃ i', i' = i + 1 := ⟨_, rfl⟩
              rw [← hi'] at q6
              have HI' := hide hi'
              obtain ⟨bo', oo', ov, hAo, hol, hov, yo⟩ := IntsAt.at_ (HFR.out.below HW.out (Nat.le_refl _)).at_.or_ (k := i) (by rw [List.length_map, ← HFR.out.lol]; exact hil)
              injection hAo with hAo
              injection hAo with e1' e2'
              subst e1' e2'
              rw [List.getElem?_map] at hov
              obtain ⟨q, hq, hqq⟩ : ∃ q, o[i]? = some q ∧ (q : Int) = ov := by
                cases hz : o[i]? with
                | none => rw [hz] at hov; cases hov
                | some z => rw [hz] at hov; exact ⟨z, rfl, by injection hov⟩
              subst hqq
              have hqk : q < kb := HFR.out.ord_lt (List.mem_of_getElem? hq)
              obtain ⟨xq, hxq⟩ := HFR.out.some_ hqk
              obtain ⟨bb, ob, hAb, hbl, d0, d1, d2, d3⟩ := (HFR.out.below HW.out (Nat.le_refl _)).cells hxq
              obtain ⟨QL, Aq, cq, hRq, hIq, hQl, hQm⟩ := (HFR.out.below HW.out (Nat.le_refl _)).prevs HSM.out.2 hqk
              obtain ⟨nq', hnq⟩ : ∃ nq', nq' = QL.length := ⟨_, rfl⟩
              rw [← hnq] at hRq hQl
              rw [hRq] at d3
              have HIQ := hide (show IntsAt wr (.slice Aq nq' cq) QL by rw [← hRq]; exact hIq)
              have HQL := hide (And.intro hnq hQl)
              have HQM := hide hQm
              have HQ := hide hq
              have HQK := hide hqk
              have HIL := hide hil
              have m1 : (q : Int) < (kb : Int) := by omega
              have m2 : (0 : Int) ≤ (q : Int) := by omega
              obtain ⟨a0, ha0⟩ : ∃ a0, a0 = decide (i = 0) := ⟨_, rfl⟩
              have HA0 := hide ha0
              have z1 : decide ((i : Int) = 0) = a0 := by rw [ha0]; exact decide_eq_decide.2 (by omega)
              have z2 : ((i : Int) == 0) = a0 := by rw [← z1]; rfl
              have z3 : decide (i = 0) = a0 := ha0.symm
              subst hAb
              clear hi' hol hov hq hqk hxq hbl d0 d1 d2 hRq hIq hnq hQl hQm hil ha0
              go_upto_region 38 with (fail)
              clear yo g2
              go_upto_region 40 with (fail)
              have HWW := hide (show Below W5.heap.size W5 wr from HW.out)
              obtain ⟨Wi, hWi⟩ : ∃ Wi, Wi = wr := ⟨_, rfl⟩
              subst hWi
              go_loopw [16, 17] (fun av kv wk => ∃ (k : Nat) (s : Bool), k ≤ nq' ∧ av = .bool s ∧ kv = .int .i64 (k : Int) ∧ Hid (s = (a0 || (QL.take k).any (fun y => decide (y.toNat ∈ o.take i)))) ∧ wk = Wi) (fun _ kv _ => nq' - (intOf kv).toNat)
              case atStart => exact ⟨0, a0, Nat.zero_le _, rfl, rfl, hide (by simp), rfl⟩
              case round =>
                obtain ⟨k, s, hk, rfl, rfl, HS, rfl⟩ := hrel
                have g0 := (HGW.out wr HW.out).1
                by_cases hkq : k < nq'
                · have k1 : (k : Int) < (nq' : Int) := by omega
                  have k2 : (0 : Int) ≤ (k : Int) := by omega
                  have q5 : IntKind.i64.wrap ((k : Int) + 1) = ((k + 1 : Nat) : Int) := by rw [show (k : Int) + 1 = ((k + 1 : Nat) : Int) by omega]; exact IntWalk.i64_in _ (by have := HQL.out; omega)
                  obtain ⟨k', hk'⟩ : ∃ k', k' = k + 1 := ⟨_, rfl⟩
                  rw [← hk'] at q5
                  have HK' := hide hk'
                  obtain ⟨b4, o4, z, hA4, hl4, hz, y4⟩ := IntsAt.at_ HIQ.out (k := k) (by rw [← HQL.out.1]; exact hkq)
                  subst hA4
                  obtain ⟨zn, hzn, hzk, hzx⟩ := (HQM.out z).1 (List.mem_of_getElem? hz)
                  subst hzn
                  have ys : wr.cell? ⟨gs, zn, none⟩ = some (.bool (decide (zn ∈ o.take i))) := (HSN.out.cell zn).trans (bc_at _ hzk)
                  obtain ⟨sv, hsv⟩ : ∃ sv, sv = decide (zn ∈ o.take i) := ⟨_, rfl⟩
                  rw [← hsv] at ys
                  have n1 : (zn : Int) < (kb : Int) := by omega
                  have n2 : (0 : Int) ≤ (zn : Int) := by omega
                  have HS1 := hide (show (a0 || (QL.take (k + 1)).any (fun y => decide (y.toNat ∈ o.take i))) = (s || sv) by
                    rw [HS.out, List.take_add_one, hz, hsv]
                    simp [Bool.or_assoc])
                  have HKQ := hide hkq
                  clear hk' hl4 hz hkq hzk hzx hsv
                  cases hs : s with
                  | true =>
                    have HSS := hide hs
                    subst hs
                    go_wp2_with fail
                    go_roundw
                    case rel => exact ⟨k + 1, true, by have := HKQ.out; omega, rfl, by rw [HK'.out], hide (by rw [HS1.out, HSS.out]; rfl), trivial⟩
                    case measure => rw [HK'.out]; simp [intOf]; have := HKQ.out; omega
                  | false =>
                    have HSS := hide hs
                    subst hs
                    go_wp2_with fail
                    go_roundw
                    case rel => exact ⟨k + 1, sv, by have := HKQ.out; omega, rfl, by rw [HK'.out], hide (by rw [HS1.out, HSS.out]; rfl), trivial⟩
                    case measure => rw [HK'.out]; simp [intOf]; have := HKQ.out; omega
                · have k1 : ¬ (k : Int) < (nq' : Int) := by omega
                  have hs : s = true := by
                    rw [HS.out, List.take_of_length_le (by rw [← HQL.out.1]; omega)]
                    by_cases h0 : i = 0
                    · rw [HA0.out, decide_eq_true h0]
                      rfl
                    · obtain ⟨r, hr1, hr2, hr3⟩ := HFR.out.ord_prev HQ.out h0
                      rw [Bool.or_eq_true, List.any_eq_true]
                      exact .inr ⟨(r : Int), (HQM.out (r : Int)).2 ⟨r, rfl, hr2, hr3⟩, decide_eq_true (by simpa using hr1)⟩
                  subst hs
                  clear hkq hk z1 z2 z3
                  have ys : wr.cell? ⟨gs, q, none⟩ = some (.bool (decide (q ∈ o.take i))) := (HSN.out.cell q).trans (bc_at _ HQK.out)
                  rw [decide_eq_false (HFR.out.ord_new HQ.out)] at ys
                  have fs := HSN.out.frozen q
                  obtain ⟨W9, hW9⟩ : ∃ W9, W9 = wr.setCell ⟨gs, q, none⟩ (.bool true) := ⟨_, rfl⟩
                  have HS9 := hide (show Blk W9 gs 4 (bc kb (fun y => decide (y ∈ o.take (i + 1)))) by
                    have h := HSN.out.set_ q (.bool true)
                    rw [bc_set] at h
                    rw [hW9]
                    rw [bc_congr (f' := fun y => decide (y ∈ o.take i) || y == q) (fun y _ => by
                      rw [List.take_add_one, HQ.out]
                      simp [Bool.decide_or]
                      rfl)]
                    exact h)
                  have HB9 := hide (show Below W5.heap.size W5 W9 by rw [hW9]; exact HW.out.setCell (p := ⟨gs, q, none⟩) HGS.out _)
                  have HW9 := hide hW9
                  clear hW9
                  go_upto_region 36 with (fail)
                  rw [← HW9.out]
                  clear ys fs
                  go_wp2_with fail
                  go_roundw
                  case rel => exact ⟨i + 1, by have := HIL.out; omega, by rw [HI'.out], HS9, HB9⟩
                  case measure => rw [HI'.out]; simp [intOf]; have := HIL.out; omega
            · have j1 : ¬ (i : Int) < (lo : Int) := by omega
              have HSN2 := hide (show Blk wr gs 4 (bc kb (fun q => decide (q ∈ o))) by
                have h := HSN.out
                rw [List.take_of_length_le (by rw [← HFR.out.lol]; omega)] at h
                exact h)
              have HWz := hide HW.out
              clear hil hi HSN
              go_upto_region 47 with (fail)
              clear g2 HW
              go_loopw [18] (fun bv wr => ∃ b : Nat, b ≤ kb ∧ bv = .int .i64 (b : Int) ∧ Hid (Blk wr gs 4 (bc kb (fun q => decide (q ∈ o)))) ∧ Hid (Below W5.heap.size W5 wr)) (fun bv _ => kb - (intOf bv).toNat)
              case atStart => exact ⟨0, Nat.zero_le _, rfl, HSN2, HWz⟩
              case round =>
                clear HSN2 HWz
                obtain ⟨b, hb, rfl, HSN, HW⟩ := hrel
                have g0 := (HGW.out wr HW.out).1
                by_cases hlt : b < kb
                · have i1 : (b : Int) < (kb : Int) := by omega
                  have i2 : (0 : Int) ≤ (b : Int) := by omega
                  have q9 : IntKind.i64.wrap ((b : Int) + 1) = ((b + 1 : Nat) : Int) := by rw [show (b : Int) + 1 = ((b + 1 : Nat) : Int) by omega]; exact IntWalk.i64_in _ (by have := HNN.out; omega)
                  obtain ⟨bn, hbn⟩ : ∃ bn, bn = b + 1 := ⟨_, rfl⟩
                  rw [← hbn] at q9
                  have HBN := hide hbn
                  obtain ⟨x, hx⟩ := HFR.out.some_ hlt
                  have hxl := HFR.out.g.ok.lt b x hx
                  obtain ⟨x1, hx1⟩ : ∃ x1, x1 = x.1 := ⟨_, rfl⟩
                  obtain ⟨bb, ob, hAb, hbl, c0, c1, c2, c3⟩ := (HFR.out.below HW.out (Nat.le_refl _)).cells hx
                  rw [← hx1] at c0
                  subst hAb
                  have ys : wr.cell? ⟨gs, b, none⟩ = some (.bool (decide (b ∈ o))) := (HSN.out.cell b).trans (bc_at _ hlt)
                  obtain ⟨sb, hsb⟩ : ∃ sb, sb = decide (b ∈ o) := ⟨_, rfl⟩
                  rw [← hsb] at ys
                  have HRC := hide (show sb = true ↔ Rch code 0 x1 by rw [hsb, decide_eq_true_eq, hx1]; exact HFR.out.ord_rch hx)
                  have hbp := HBP5.out.below HW.out HBP5.out.lt
                  have HC := hide (comes_any p hs code ns 0 (x1 : Int) wr.drew (HOK5.out.below (show Below W5.heap.size W5 wr.drew from HW.out.drew) (Nat.le_refl _)) (by have := HSM.out.1; omega) HSM.out.2)
                  rw [← HPV2.out] at HC
                  have HX1 := hide (show x1 < code.length by have := hxl; omega)
                  have hS0 : wr.cell? ⟨gs, b, none⟩ = some (.bool sb) ∧ Blk wr gp 29 p.arr ∧ wr.cell? ⟨g, 0, none⟩ = some (.slice (some ⟨bb, ob, none⟩) kb cb) ∧ wr.cell? ⟨bb, ob + b * 4, none⟩ = some (.int .i64 (x1 : Int)) := ⟨ys, hbp, g0, c0⟩
                  have HLT := hide hlt
                  clear hbn hx hxl hx1 hbl c1 c2 c3 hsb hlt hbp ys c0
                  go_upto_region 49 with (fail)
                  clear g0
                  go_wp2_with fail
                  refine wp_region_tail 99 (fun w' => (w'.cell? ⟨gs, b, none⟩ = some (.bool sb) ∧ Blk w' gp 29 p.arr ∧ w'.cell? ⟨g, 0, none⟩ = some (.slice (some ⟨bb, ob, none⟩) kb cb) ∧ w'.cell? ⟨bb, ob + b * 4, none⟩ = some (.int .i64 (x1 : Int)))) (by kernel_rfl) hS0 (fun hHeld => ?_)
                  try simp only [Act.put, List.setIfInBounds_toArray, List.set_cons_zero, List.set_cons_succ]
                  refine' wpTail_take (i := 0) (oi := _) ?hin5018 ?hsn5018 ?hfn5018 ?hrn5018 ?hzn5018 ?hQn5018 (v := _) (Or.inl ⟨?hwn5018, ?hyn5018⟩) (by assumption) ?_
                  case hin5018 => (simp only [List.getElem?_toArray, List.getElem?_cons_zero]; exact rfl)
                  case hsn5018 => kernel_rfl
                  case hfn5018 => kernel_rfl
                  case hrn5018 => kernel_rfl
                  case hzn5018 => kernel_rfl
                  case hQn5018 => exact fun _ _ _ h => h
                  case hwn5018 => rfl
                  case hyn5018 => (intro W0 hSw; (try dsimp only at hSw); go_simp; (try with_reducible rfl))
                  try simp only [Act.put, List.setIfInBounds_toArray, List.set_cons_zero, List.set_cons_succ]
                  refine' wpTail_take (i := 1) (oi := _) ?hin5019 ?hsn5019 ?hfn5019 ?hrn5019 ?hzn5019 ?hQn5019 (v := _) (Or.inl ⟨?hwn5019, ?hyn5019⟩) (by assumption) ?_
                  case hin5019 => (simp only [List.getElem?_toArray, List.getElem?_cons_succ, List.getElem?_cons_zero]; exact rfl)
                  case hsn5019 => kernel_rfl
                  case hfn5019 => kernel_rfl
                  case hrn5019 => kernel_rfl
                  case hzn5019 => kernel_rfl
                  case hQn5019 => exact fun _ _ _ h => h
                  case hwn5019 => rfl
                  case hyn5019 => (intro W0 hSw; (try dsimp only at hSw); go_simp; (try with_reducible rfl))
                  try simp only [Act.put, List.setIfInBounds_toArray, List.set_cons_zero, List.set_cons_succ]
                  refine' wpTail_take (i := 2) (oi := _) ?hin5020 ?hsn5020 ?hfn5020 ?hrn5020 ?hzn5020 ?hQn5020 (v := _) (Or.inl ⟨?hwn5020, ?hyn5020⟩) (by assumption) ?_
                  case hin5020 => (simp only [List.getElem?_toArray, List.getElem?_cons_succ, List.getElem?_cons_zero]; exact rfl)
                  case hsn5020 => kernel_rfl
                  case hfn5020 => kernel_rfl
                  case hrn5020 => kernel_rfl
                  case hzn5020 => kernel_rfl
                  case hQn5020 => exact fun _ _ _ h => h
                  case hwn5020 => rfl
                  case hyn5020 => (intro W0 hSw; (try dsimp only at hSw); go_simp; (try with_reducible rfl))
                  try simp only [Act.put, List.setIfInBounds_toArray, List.set_cons_zero, List.set_cons_succ]
                  refine' wpTail_take (i := 3) (oi := _) ?hin5021 ?hsn5021 ?hfn5021 ?hrn5021 ?hzn5021 ?hQn5021 (v := _) (Or.inl ⟨?hwn5021, ?hyn5021⟩) (by assumption) ?_
                  case hin5021 => (simp only [List.getElem?_toArray, List.getElem?_cons_succ, List.getElem?_cons_zero]; exact rfl)
                  case hsn5021 => kernel_rfl
                  case hfn5021 => kernel_rfl
                  case hrn5021 => kernel_rfl
                  case hzn5021 => kernel_rfl
                  case hQn5021 => exact fun _ _ _ h => h
                  case hwn5021 => rfl
                  case hyn5021 => (intro W0 hSw; (try dsimp only at hSw); have u0 : W0.cell? ⟨gs, b, none⟩ = some (.bool sb) := hSw.1; go_simp; (try with_reducible rfl))
                  try simp only [Act.put, List.setIfInBounds_toArray, List.set_cons_zero, List.set_cons_succ]
                  refine' wpTail_take (i := 4) (oi := _) ?hin5022 ?hsn5022 ?hfn5022 ?hrn5022 ?hzn5022 ?hQn5022 (v := PV) ?hyn5022 (by assumption) ?_
                  case hin5022 => (simp only [List.getElem?_toArray, List.getElem?_cons_succ, List.getElem?_cons_zero]; exact rfl)
                  case hsn5022 => kernel_rfl
                  case hfn5022 => kernel_rfl
                  case hrn5022 => kernel_rfl
                  case hzn5022 => kernel_rfl
                  case hQn5022 => exact fun _ _ _ h => h
                  case hyn5022 => (rw [HPV.out]; exact yieldsIf_load_mid rfl 29 (.tmp 1) rfl gp 0 rfl p.arr.toList _ (fun W0 hSw j v hv => by rw [Nat.zero_add, Blk.cell hSw.2.1]; simpa using hv) Try.underlying29 rfl pr_size)
                  try simp only [Act.put, List.setIfInBounds_toArray, List.set_cons_zero, List.set_cons_succ]
                  refine' wpTail_take (i := 5) (oi := _) ?hin5023 ?hsn5023 ?hfn5023 ?hrn5023 ?hzn5023 ?hQn5023 (v := _) (Or.inl ⟨?hwn5023, ?hyn5023⟩) (by assumption) ?_
                  case hin5023 => (simp only [List.getElem?_toArray, List.getElem?_cons_succ, List.getElem?_cons_zero]; exact rfl)
                  case hsn5023 => kernel_rfl
                  case hfn5023 => kernel_rfl
                  case hrn5023 => kernel_rfl
                  case hzn5023 => kernel_rfl
                  case hQn5023 => exact fun _ _ _ h => h
                  case hwn5023 => rfl
                  case hyn5023 => (intro W0 hSw; (try dsimp only at hSw); go_simp; (try with_reducible rfl))
                  try simp only [Act.put, List.setIfInBounds_toArray, List.set_cons_zero, List.set_cons_succ]
                  refine' wpTail_take (i := 6) (oi := _) ?hin5024 ?hsn5024 ?hfn5024 ?hrn5024 ?hzn5024 ?hQn5024 (v := _) (Or.inl ⟨?hwn5024, ?hyn5024⟩) (by assumption) ?_
                  case hin5024 => (simp only [List.getElem?_toArray, List.getElem?_cons_succ, List.getElem?_cons_zero]; exact rfl)
                  case hsn5024 => kernel_rfl
                  case hfn5024 => kernel_rfl
                  case hrn5024 => kernel_rfl
                  case hzn5024 => kernel_rfl
                  case hQn5024 => exact fun _ _ _ h => h
                  case hwn5024 => rfl
                  case hyn5024 => (intro W0 hSw; (try dsimp only at hSw); have u0 : W0.cell? ⟨g, 0, none⟩ = some (.slice (some ⟨bb, ob, none⟩) kb cb) := hSw.2.2.1; go_simp; (try with_reducible rfl))
                  try simp only [Act.put, List.setIfInBounds_toArray, List.set_cons_zero, List.set_cons_succ]
                  refine' wpTail_take (i := 7) (oi := _) ?hin5025 ?hsn5025 ?hfn5025 ?hrn5025 ?hzn5025 ?hQn5025 (v := _) (Or.inl ⟨?hwn5025, ?hyn5025⟩) (by assumption) ?_
                  case hin5025 => (simp only [List.getElem?_toArray, List.getElem?_cons_succ, List.getElem?_cons_zero]; exact rfl)
                  case hsn5025 => kernel_rfl
                  case hfn5025 => kernel_rfl
                  case hrn5025 => kernel_rfl
                  case hzn5025 => kernel_rfl
                  case hQn5025 => exact fun _ _ _ h => h
                  case hwn5025 => rfl
                  case hyn5025 => (intro W0 hSw; (try dsimp only at hSw); go_simp; (try with_reducible rfl))
                  try simp only [Act.put, List.setIfInBounds_toArray, List.set_cons_zero, List.set_cons_succ]
                  refine' wpTail_take (i := 8) (oi := _) ?hin5026 ?hsn5026 ?hfn5026 ?hrn5026 ?hzn5026 ?hQn5026 (v := _) (Or.inl ⟨?hwn5026, ?hyn5026⟩) (by assumption) ?_
                  case hin5026 => (simp only [List.getElem?_toArray, List.getElem?_cons_succ, List.getElem?_cons_zero]; exact rfl)
                  case hsn5026 => kernel_rfl
                  case hfn5026 => kernel_rfl
                  case hrn5026 => kernel_rfl
                  case hzn5026 => kernel_rfl
                  case hQn5026 => exact fun _ _ _ h => h
                  case hwn5026 => rfl
                  case hyn5026 => (intro W0 hSw; (try dsimp only at hSw); go_simp; (try with_reducible rfl))
                  try simp only [Act.put, List.setIfInBounds_toArray, List.set_cons_zero, List.set_cons_succ]
                  refine' wpTail_take (i := 9) (oi := _) ?hin5027 ?hsn5027 ?hfn5027 ?hrn5027 ?hzn5027 ?hQn5027 (v := _) (Or.inl ⟨?hwn5027, ?hyn5027⟩) (by assumption) ?_
                  case hin5027 => (simp only [List.getElem?_toArray, List.getElem?_cons_succ, List.getElem?_cons_zero]; exact rfl)
                  case hsn5027 => kernel_rfl
                  case hfn5027 => kernel_rfl
                  case hrn5027 => kernel_rfl
                  case hzn5027 => kernel_rfl
                  case hQn5027 => exact fun _ _ _ h => h
                  case hwn5027 => rfl
                  case hyn5027 => (intro W0 hSw; (try dsimp only at hSw); go_simp; (try with_reducible rfl))
                  try simp only [Act.put, List.setIfInBounds_toArray, List.set_cons_zero, List.set_cons_succ]
                  refine' wpTail_take (i := 10) (oi := _) ?hin5028 ?hsn5028 ?hfn5028 ?hrn5028 ?hzn5028 ?hQn5028 (v := _) (Or.inl ⟨?hwn5028, ?hyn5028⟩) (by assumption) ?_
                  case hin5028 => (simp only [List.getElem?_toArray, List.getElem?_cons_succ, List.getElem?_cons_zero]; exact rfl)
                  case hsn5028 => kernel_rfl
                  case hfn5028 => kernel_rfl
                  case hrn5028 => kernel_rfl
                  case hzn5028 => kernel_rfl
                  case hQn5028 => exact fun _ _ _ h => h
                  case hwn5028 => rfl
                  case hyn5028 => (intro W0 hSw; (try dsimp only at hSw); have u0 : W0.cell? ⟨bb, ob + b * 4, none⟩ = some (.int .i64 (x1 : Int)) := hSw.2.2.2; go_simp; (try with_reducible rfl))
                  try simp only [Act.put, List.setIfInBounds_toArray, List.set_cons_zero, List.set_cons_succ]
                  refine' wpTail_one (i := 11) (o := _) (by kernel_rfl) ?ho5029 ?hw5029 (fun K hK => ?_)
                  case ho5029 => (simp only [List.getElem?_toArray, List.getElem?_cons_succ, List.getElem?_cons_zero]; exact rfl)
                  case hw5029 => rfl
                  go_simp
                  refine HC.out.mono ?_
                  rintro e w7 ⟨r7, rfl, hb7, hr7⟩
                  obtain rfl : r7 = sb := by
                    have h1 : r7 = true ↔ sb = true := by
                      rw [hr7, HRC.out]
                      have := HX1.out
                      constructor
                      · rintro ⟨_, _, _, _, _, h⟩
                        simpa using h
                      · intro h
                        exact ⟨by omega, by omega, by omega, by omega, HGP4.out, by simpa using h⟩
                    exact Bool.eq_iff_iff.2 h1
                  have hb7 : Below wr.heap.size wr w7 := (show Below wr.heap.size wr wr.drew from (Below.refl _ _).drew).trans hb7
                  have hS7 : w7.cell? ⟨gs, b, none⟩ = some (.bool r7) ∧ Blk w7 gp 29 p.arr ∧ w7.cell? ⟨g, 0, none⟩ = some (.slice (some ⟨bb, ob, none⟩) kb cb) ∧ w7.cell? ⟨bb, ob + b * 4, none⟩ = some (.int .i64 (x1 : Int)) := ⟨(hb7.cell (p := ⟨gs, b, none⟩) (World.block_lt_of_cell? wr _ hS0.1)).trans hS0.1, hS0.2.1.below hb7 hS0.2.1.lt, (hb7.cell (p := ⟨g, 0, none⟩) (World.block_lt_of_cell? wr _ hS0.2.2.1)).trans hS0.2.2.1, (hb7.cell (p := ⟨bb, ob + b * 4, none⟩) (World.block_lt_of_cell? wr _ hS0.2.2.2)).trans hS0.2.2.2⟩
                  have HSN7 := hide (HSN.out.below hb7 HSN.out.lt)
                  have HW7 := hide (HW.out.trans (hb7.mono HW.out.size))
                  refine hK.out _ _ (fun _ => hS7) ?_
                  clear hK K
                  clear hb7 hr7
                  try simp only [Act.put, List.setIfInBounds_toArray, List.set_cons_zero, List.set_cons_succ]
                  refine' wpTail_one (i := 12) (o := _) (by kernel_rfl) ?ho5030 ?hw5030 (fun K hK => ?_)
                  case ho5030 => (simp only [List.getElem?_toArray, List.getElem?_cons_succ, List.getElem?_cons_zero]; exact rfl)
                  case hw5030 => rfl
                  go_simp
                  refine hK.out _ _ (fun _ => hS7) ?_
                  clear hK K
                  refine wpTail_done (by kernel_rfl) ?_ _
                  try simp only [Act.put, List.setIfInBounds_toArray, List.set_cons_zero, List.set_cons_succ]
                  clear hHeld hS0 hS7
                  go_wp2_with fail
                  go_roundw
                  case rel => exact ⟨b + 1, by have := HLT.out; omega, by rw [HBN.out], HSN7, HW7⟩
                  case measure => rw [HBN.out]; simp [intOf]; have := HLT.out; omega
                · have i1 : ¬ (b : Int) < (kb : Int) := by omega
                  clear hlt hb
                  go_wp2_with fail
                  go_ret
                  exact ⟨rfl, HFB.out.trans (HW.out.mono HFB.out.size)⟩
end Go.Proofs.Ytaaadbaakhjkcaa
