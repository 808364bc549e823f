/- Whether a func is more than is asked (great of layer 22); conditions: it is in memory. -/
import Derived.Test.YtaaadbaakhjkcaaFlFH
namespace Go.Proofs.Ytaaadbaakhjkcaa
open Go.RowKit Go.WideShapes Go.ChangeShapes
set_option linter.unusedVariables false
set_option linter.unusedSimpArgs false
set_option maxRecDepth 100000

def greatX (i : Ins) : Bool := decide (20 < i.args.length) || (decide (20 < i.arms.length) || (decide (100 < i.n) || (decide (100 < i.m) || (decide (100 < i.vs.size) || i.arms.any (fun x => decide (100 < x.n))))))
def greatC (hs : List Bool) (code : List IV) (ns : Nat) : Bool := decide (40 < code.length) || (decide (40 < hs.length) || (decide (40 < ns) || code.any (fun x => greatX x.i)))
set_option maxHeartbeats 8000000 in
theorem greatc_any (p : Pr) (hs : List Bool) (code : List IV) (ns : Nat) (w : World) (h : PrOk w p hs code ns) : Calls Try.prog 18 #[p.val] w (BoolP w (greatC hs code ns)) := by
  obtain ⟨gp, hgp⟩ : ∃ gp, gp = w.heap.size := ⟨_, rfl⟩
  obtain ⟨W1, hW1⟩ : ∃ W1, W1 = w.alloc (.cells p.arr 29) := ⟨_, rfl⟩
  have hb1 : Below w.heap.size w W1 := by rw [hW1]; exact (Below.refl _ _).alloc (Nat.le_refl _) _
  have hbp : Blk W1 gp 29 p.arr := by rw [hW1, hgp]; exact Blk.new _ _ _
  have HOK := hide (h.below hb1 (Nat.le_refl _))
  obtain ⟨Av, cv, hvv, _⟩ := h.hv
  obtain ⟨Ac, cc, hcv⟩ := h.cv.form
  obtain ⟨As, cs, hsv⟩ := h.sv
  obtain ⟨m, hm⟩ : ∃ m, m = code.length := ⟨_, rfl⟩
  obtain ⟨nh, hnh⟩ : ∃ nh, nh = hs.length := ⟨_, rfl⟩
  rw [← hm] at hcv
  rw [← hnh] at hvv
  have z3 : W1.cell? ⟨gp, 3, none⟩ = some (.slice Av nh cv) := by rw [← hvv]; exact hbp.cell 3
  have z6 : W1.cell? ⟨gp, 6, none⟩ = some (.slice Ac m cc) := by rw [← hcv]; exact hbp.cell 6
  have z8 : W1.cell? ⟨gp, 8, none⟩ = some (.slice As ns cs) := by rw [← hsv]; exact hbp.cell 8
  have HM := hide (And.intro hm hnh)
  have HB1 := hide hb1
  have HW1 := hide hW1
  have HGP := hide hgp
  have HBP := hide hbp
  have HV := hide (And.intro hvv (And.intro hcv hsv))
  clear h hb1 hW1 hgp hbp hvv hcv hsv
  by_cases c0 : (40 : Int) < (m : Int)
  · have HF := hide (show greatC hs code ns = true by
      have hc : 40 < code.length := by omega
      unfold greatC
      rw [decide_eq_true hc]
      simp)
    clear hm hnh
    go_enter Try.func18, Try.ntmps18
    go_upto_region 1 with (fail)
    rw [← HW1.out, ← HGP.out]
    go_wp2_with fail
    go_ret
    exact ⟨ret_bS HF.out.symm, HB1.out⟩
  by_cases c1 : (40 : Int) < (nh : Int)
  · have HF := hide (show greatC hs code ns = true by
      have hc : 40 < hs.length := by omega
      unfold greatC
      rw [decide_eq_true hc]
      simp)
    clear hm hnh
    go_enter Try.func18, Try.ntmps18
    go_upto_region 1 with (fail)
    rw [← HW1.out, ← HGP.out]
    go_wp2_with fail
    go_ret
    exact ⟨ret_bS HF.out.symm, HB1.out⟩
  by_cases c2 : (40 : Int) < (ns : Int)
  · have HF := hide (show greatC hs code ns = true by
      have hc : 40 < ns := by omega
      unfold greatC
      rw [decide_eq_true hc]
      simp)
    clear hm hnh
    go_enter Try.func18, Try.ntmps18
    go_upto_region 1 with (fail)
    rw [← HW1.out, ← HGP.out]
    go_wp2_with fail
    go_ret
    exact ⟨ret_bS HF.out.symm, HB1.out⟩
  have HF0 := hide (show greatC hs code ns = code.any (fun x => greatX x.i) by
    unfold greatC
    rw [decide_eq_false (show ¬ 40 < code.length by omega), decide_eq_false (show ¬ 40 < hs.length by omega), decide_eq_false (show ¬ 40 < ns by omega)]
    rfl)
  have HM40 := hide (show m ≤ 40 by omega)
  clear hm hnh
  go_enter Try.func18, Try.ntmps18
  go_upto_region 1 with (fail)
  rw [← HW1.out, ← HGP.out]
  go_wp2_with fail
  clear c0 c1 c2 z3 z8 z6
  go_loopw [3] (fun jj wr => ∃ j : Nat, j ≤ m ∧ jj = .int .i64 j ∧ Hid (∀ (q : Nat) (x : IV), q < j → code[q]? = some x → greatX x.i = false) ∧ Hid (Below W1.heap.size W1 wr)) (fun jj _ => m - (intOf jj).toNat)
  case atStart => exact ⟨0, Nat.zero_le _, rfl, hide (fun q x hq => absurd hq (by omega)), hide (Below.refl _ _)⟩
  case round =>
    obtain ⟨j, hj, rfl, HK, HWR⟩ := hrel
    have z6 : wr.cell? ⟨gp, 6, none⟩ = some (.slice Ac m cc) := by rw [← HV.out.2.1]; exact (HBP.out.below HWR.out HBP.out.lt).cell 6
    by_cases hlt : j < m
    · have j1 : (j : Int) < (m : Int) := by omega
      have j2 : (0 : Int) ≤ (j : Int) := by omega
      have q5 : IntKind.i64.wrap ((j : Int) + 1) = (j : Int) + 1 := IntWalk.i64_in _ (by have := HM40.out; omega)
      have hcvr := HOK.out.cv.below HWR.out (Nat.le_refl _)
      rw [HV.out.2.1] at hcvr
      obtain ⟨b, of, x, rfl, hbl, hx, hcells⟩ := RowAt.at_ hcvr (i := j) (by have := HM.out.1; omega)
      have hix := (HOK.out.ok x (List.mem_of_getElem? hx)).below HWR.out (Nat.le_refl _)
      have HX := hide hx
      have HCE := hide (show wr.rangeAt b (of + j * 22) (IV.enc x) from hcells)
      obtain ⟨V, hV⟩ : ∃ V, V = Ins.val x.i x.av x.rv := ⟨_, rfl⟩
      have HVI := hide hV
      obtain ⟨g, hg⟩ : ∃ g, g = wr.heap.size := ⟨_, rfl⟩
      have HG0 := hide hg
      have HON := hide (ins_one hix)
      have HIX := hide hix
      clear hx hcells hV hg hcvr hix
      go_upto_region 7 with (first
        | (refine wpList_load_midW 45 (.tmp 32) b (of + j * 22) (IV.enc x) V HCE.out HVI.out Try.underlying45 rfl ins_size rfl (by kernel_rfl) rfl ?_)
        | (refine wpList_store_new 45 (.tmp 4) (.tmp 33) (x.i.arr x.av x.rv) V HVI.out ins_size HON.out rfl rfl rfl rfl rfl rfl ?_
           intro W2 hbg hb2
           rw [← HG0.out] at hbg
           have HBG := hide hbg
           have HB2 := hide hb2
           clear hbg hb2))
      rw [← HG0.out]
      have HBW := hide (HWR.out.trans (HB2.out.mono HWR.out.size))
      have HIX2 := hide (HIX.out.below HB2.out (Nat.le_refl _))
      obtain ⟨Aa, ca, hav⟩ := HIX2.out.ar.form
      obtain ⟨Ar, cr, hrv⟩ := HIX2.out.rm.form
      obtain ⟨ma, hma⟩ : ∃ ma, ma = x.i.args.length := ⟨_, rfl⟩
      obtain ⟨mr, hmr⟩ : ∃ mr, mr = x.i.arms.length := ⟨_, rfl⟩
      obtain ⟨fn, hfn⟩ : ∃ fn, fn = x.i.n := ⟨_, rfl⟩
      obtain ⟨fm, hfm⟩ : ∃ fm, fm = x.i.m := ⟨_, rfl⟩
      obtain ⟨fs, hfs⟩ : ∃ fs, fs = x.i.vs := ⟨_, rfl⟩
      have y4 : W2.cell? ⟨g, 4, none⟩ = some (.int .i64 fn) := by rw [hfn]; exact HBG.out.cell 4
      have y5 : W2.cell? ⟨g, 5, none⟩ = some (.int .i64 fm) := by rw [hfm]; exact HBG.out.cell 5
      have y11 : W2.cell? ⟨g, 11, none⟩ = some (.string fs) := by rw [hfs]; exact HBG.out.cell 11
      have y12 : W2.cell? ⟨g, 12, none⟩ = some (.slice Aa ma ca) := by rw [hma, ← hav]; exact HBG.out.cell 12
      have y15 : W2.cell? ⟨g, 15, none⟩ = some (.slice Ar mr cr) := by rw [hmr, ← hrv]; exact HBG.out.cell 15
      have HAR := hide hrv
      have HY := hide (And.intro hma (And.intro hmr (And.intro hfn (And.intro hfm hfs))))
      have HFT := hide (fun (hf : greatX x.i = true) => show greatC hs code ns = true by
        rw [HF0.out, List.any_eq_true]
        exact ⟨x, List.mem_of_getElem? HX.out, hf⟩)
      clear hav hrv hma hmr hfn hfm hfs hbl
      by_cases d0 : (20 : Int) < (ma : Int)
      · have HF := hide (HFT.out (by unfold greatX; rw [decide_eq_true (show 20 < x.i.args.length by have := HY.out.1; omega)]; simp))
        go_wp2_with fail
        go_ret
        exact ⟨ret_bS HF.out.symm, (HB1.out.trans (HBW.out.mono HB1.out.size))⟩
      by_cases d1 : (20 : Int) < (mr : Int)
      · have HF := hide (HFT.out (by unfold greatX; rw [decide_eq_true (show 20 < x.i.arms.length by have := HY.out.2.1; omega)]; simp))
        go_wp2_with fail
        go_ret
        exact ⟨ret_bS HF.out.symm, (HB1.out.trans (HBW.out.mono HB1.out.size))⟩
      by_cases d2 : 100 < fn
      · have HF := hide (HFT.out (by unfold greatX; rw [decide_eq_true (show 100 < x.i.n by rw [← HY.out.2.2.1]; assumption)]; simp))
        go_wp2_with fail
        go_ret
        exact ⟨ret_bS HF.out.symm, (HB1.out.trans (HBW.out.mono HB1.out.size))⟩
      by_cases d3 : 100 < fm
      · have HF := hide (HFT.out (by unfold greatX; rw [decide_eq_true (show 100 < x.i.m by rw [← HY.out.2.2.2.1]; assumption)]; simp))
        go_wp2_with fail
        go_ret
        exact ⟨ret_bS HF.out.symm, (HB1.out.trans (HBW.out.mono HB1.out.size))⟩
      by_cases d4 : (100 : Int) < (fs.size : Int)
      · have HF := hide (HFT.out (by unfold greatX; rw [decide_eq_true (show 100 < x.i.vs.size by rw [← HY.out.2.2.2.2]; omega)]; simp))
        go_wp2_with fail
        go_ret
        exact ⟨ret_bS HF.out.symm, (HB1.out.trans (HBW.out.mono HB1.out.size))⟩
      have HX0 := hide (show greatX x.i = x.i.arms.any (fun y => decide (100 < y.n)) by
        unfold greatX
        rw [decide_eq_false (show ¬ 20 < x.i.args.length by have := HY.out.1; omega), decide_eq_false (show ¬ 20 < x.i.arms.length by have := HY.out.2.1; omega), decide_eq_false (show ¬ 100 < x.i.n by rw [← HY.out.2.2.1]; exact d2), decide_eq_false (show ¬ 100 < x.i.m by rw [← HY.out.2.2.2.1]; exact d3), decide_eq_false (show ¬ 100 < x.i.vs.size by rw [← HY.out.2.2.2.2]; omega)]
        rfl)
      have HMR := hide (show mr ≤ 20 by omega)
      go_wp2_with fail
      clear d0 d1 d2 d3 d4 y4 y5 y11 y12
      go_loopw [5] (fun kk wk => ∃ k : Nat, k ≤ mr ∧ kk = .int .i64 k ∧ Hid (∀ (q : Nat) (y : Arm), q < k → x.i.arms[q]? = some y → ¬ 100 < y.n) ∧ wk = W2) (fun kk _ => mr - (intOf kk).toNat)
      case atStart => exact ⟨0, Nat.zero_le _, rfl, hide (fun q y hq => absurd hq (by omega)), rfl⟩
      case round =>
        obtain ⟨k, hk, rfl, HQ, rfl⟩ := hrel
        by_cases hlk : k < mr
        · have k1 : (k : Int) < (mr : Int) := by omega
          have k2 : (0 : Int) ≤ (k : Int) := by omega
          have q6 : IntKind.i64.wrap ((k : Int) + 1) = (k : Int) + 1 := IntWalk.i64_in _ (by have := HMR.out; omega)
          have hrm := HIX2.out.rm
          rw [HAR.out] at hrm
          obtain ⟨b2, o2, y, rfl, hbl2, hy, u0, u1, u2, u3, u4, u5⟩ := ArmsAt.at_ hrm (i := k) (by have := HY.out.2.1; omega)
          have HYY := hide hy
          clear hy u0 u1 u2 u4 u5 hbl2 hrm
          by_cases hc : 100 < y.n
          · have HF := hide (HFT.out (by rw [HX0.out, List.any_eq_true]; exact ⟨y, List.mem_of_getElem? HYY.out, decide_eq_true hc⟩))
            go_wp2_with fail
            go_ret
            exact ⟨ret_bS HF.out.symm, (HB1.out.trans (HBW.out.mono HB1.out.size))⟩
          · have HC := hide hc
            go_wp2_with fail
            go_roundw
            case rel =>
              refine ⟨k + 1, by omega, by simp, hide fun q u hq hu => ?_, trivial⟩
              by_cases e : q = k
              · subst e; rw [HYY.out] at hu; injection hu with hu; rw [← hu]; exact HC.out
              · exact HQ.out q u (by omega) hu
            case measure => simp [intOf]; omega
        · have k1 : ¬ (k : Int) < (mr : Int) := by omega
          have HXF := hide (show greatX x.i = false by
            rw [HX0.out, List.any_eq_false]
            intro y hy
            obtain ⟨q, hq⟩ := List.mem_iff_getElem?.1 hy
            have hql : q < x.i.arms.length := by
              rcases Nat.lt_or_ge q x.i.arms.length with h2 | h2
              · exact h2
              · rw [List.getElem?_eq_none h2] at hq; cases hq
            have := HQ.out q y (by have := HY.out.2.1; omega) hq
            simpa using this)
          go_wp2_with fail
          go_roundw
          case rel =>
            refine ⟨j + 1, by omega, by simp, hide fun q u hq hu => ?_, HBW⟩
            by_cases e : q = j
            · subst e; rw [HX.out] at hu; injection hu with hu; rw [← hu]; exact HXF.out
            · exact HK.out q u (by omega) hu
          case measure => simp [intOf]; omega
    · have j1 : ¬ (j : Int) < (m : Int) := by omega
      have HF := hide (show greatC hs code ns = false by
        rw [HF0.out, List.any_eq_false]
        intro y hy
        obtain ⟨q, hq⟩ := List.mem_iff_getElem?.1 hy
        have hql : q < code.length := by
          rcases Nat.lt_or_ge q code.length with h2 | h2
          · exact h2
          · rw [List.getElem?_eq_none h2] at hq; cases hq
        have := HK.out q y (by have := HM.out.1; omega) hq
        rw [this]
        decide)
      go_wp2_with fail
      go_ret
      exact ⟨ret_bS HF.out.symm, HB1.out.trans (HWR.out.mono HB1.out.size)⟩
end Go.Proofs.Ytaaadbaakhjkcaa
