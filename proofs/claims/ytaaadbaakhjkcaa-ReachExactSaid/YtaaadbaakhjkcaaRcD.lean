/- Where code goes on (reach.next); conditions: the func and its graph are in memory. -/
import Derived.Test.YtaaadbaakhjkcaaRcC
namespace Go.Proofs.Ytaaadbaakhjkcaa
open Go.RowKit Go.WideShapes Go.ChangeShapes
set_option linter.unusedVariables false
set_option linter.unusedSimpArgs false
set_option maxRecDepth 100000

set_option maxHeartbeats 16000000 in
theorem nextr_any (p : Pr) (hs : List Bool) (code : List IV) (ns : Nat) (B : Nat → Bool) (Ab Aa Ao : Option Addr) (cb ca co kb n lo : Nat) (R : Nat → Value) (o : List Nat) (nv : List Bool) (vn : Value) (pc : Nat) (x : IV) (w : World) (h : PrOk w p hs code ns) (hF : GrF w p hs code ns B Ab Aa Ao cb ca co kb n lo R o) (hl : ∀ x ∈ code, x.i.arms.length ≤ 100 ∧ x.i.args.length ≤ 100) (hx : code[pc]? = some x) (hv : BoolsAt w vn nv) :
    Calls Try.prog 42 #[p.val, .agg #[.slice Ab kb cb, .slice Aa n ca, .slice Ao lo co], vn, .int .i64 (pc : Int)] w (RowP w (nextX code B nv pc x)) := by
  obtain ⟨gp, hgp⟩ : ∃ gp, gp = w.heap.size := ⟨_, rfl⟩
  obtain ⟨W1, hW1⟩ : ∃ W1, W1 = (w.alloc (.cells p.arr 29)).alloc (.cells #[.slice Ab kb cb, .slice Aa n ca, .slice Ao lo co] 34) := ⟨_, rfl⟩
  obtain ⟨g, hg⟩ : ∃ g, g = gp + 1 := ⟨_, rfl⟩
  have hb1 : Below w.heap.size w W1 := by rw [hW1]; exact ((Below.refl _ _).alloc (Nat.le_refl _) _).alloc (by simp) _
  have HBP := hide (show Blk W1 gp 29 p.arr by rw [hW1, hgp]; exact (Blk.new _ _ _).alloc _)
  have HBG := hide (show Blk W1 g 34 #[.slice Ab kb cb, .slice Aa n ca, .slice Ao lo co] by
    have h := Blk.new (w.alloc (.cells p.arr 29)) 34 #[.slice Ab kb cb, .slice Aa n ca, .slice Ao lo co]
    rw [← hW1] at h
    rw [hg, hgp]
    simpa using h)
  have HOK := hide (h.below hb1 (Nat.le_refl _))
  have HFR := hide (hF.below hb1 (Nat.le_refl _))
  have HNV := hide (show BoolsAt W1 vn nv from hv.below hb1 (Nat.le_refl _))
  have HSM := hide hl
  obtain ⟨Ac, cc, hcv⟩ := h.cv.form
  have HCV := hide hcv
  have HNN := hide (show n ≤ 1000 ∧ n = code.length ∧ pc < n from ⟨by rw [hF.nl]; exact hF.g.len, hF.nl, by rw [hF.nl]; exact code_lt hx⟩)
  have y6 : W1.cell? ⟨gp, 6, none⟩ = some (.slice Ac n cc) := by
    have h := HBP.out.cell 6
    rw [h, HNN.out.2.1, ← HCV.out]
    rfl
  have HX := hide hx
  have HB1 := hide hb1
  have HW1 := hide hW1
  have HGP := hide hgp
  have HG := hide hg
  obtain ⟨PV, hPV⟩ : ∃ PV, PV = p.val := ⟨_, rfl⟩
  have HPV := hide (show PV = .agg p.arr from hPV)
  have HPV2 := hide (show PV = p.val from hPV)
  obtain ⟨b0, of, x', hAc, hbl, hx', hcells⟩ := RowAt.at_ (show InssAt W1 (.slice Ac n cc) code by
    have h := HOK.out.cv
    rw [HCV.out, ← HNN.out.2.1] at h
    exact h) (i := pc) (by have := HNN.out; omega)
  obtain rfl : x = x' := by
    rw [hx] at hx'
    injection hx'
  subst hAc
  have HCE := hide (show W1.rangeAt b0 (of + pc * 22) (IV.enc x) from hcells)
  obtain ⟨V, hV⟩ : ∃ V, V = Ins.val x.i x.av x.rv := ⟨_, rfl⟩
  have HVI := hide hV
  have hix := HOK.out.ok x (List.mem_of_getElem? hx)
  have HON := hide (ins_one hix)
  have HIX := hide hix
  have HLX := hide (HSM.out x (List.mem_of_getElem? hx))
  obtain ⟨gi, hgi⟩ : ∃ gi, gi = W1.heap.size := ⟨_, rfl⟩
  have HGI := hide hgi
  have i1 : (pc : Int) < (n : Int) := by have := HNN.out; omega
  have i2 : (0 : Int) ≤ (pc : Int) := by omega
  obtain ⟨pw, hpw⟩ : ∃ pw, pw = IntKind.i64.wrap ((pc : Int) + 1) := ⟨_, rfl⟩
  have q1 : IntKind.i64.wrap ((pc : Int) + 1) = pw := hpw.symm
  have HPW := hide hpw
  clear h hF hl hcv hb1 hW1 hgp hg hx hPV hv hbl hx' hcells hV hix hgi hpw
  go_enter Try.func42, Try.ntmps42
  go_upto_region 1 with (fail)
  rw [← HPV2.out, ← HGP.out]
  rw [HPV.out, ← HG.out, ← HW1.out, ← HPV.out]
  go_upto_region 2 with (first
    | (refine wpList_load_midW 45 (.tmp 15) b0 (of + pc * 22) (IV.enc x) V HCE.out HVI.out Try.underlying45 rfl ins_size rfl (by kernel_rfl) rfl ?_)
    | (refine wpList_store_new 45 (.tmp 9) (.tmp 16) (x.i.arr x.av x.rv) V HVI.out ins_size HON.out rfl rfl rfl rfl rfl rfl ?_
       intro W2 hbg hb2
       rw [← HGI.out] at hbg
       have HBI := hide hbg
       have HB2 := hide hb2
       clear hbg hb2))
  rw [← HGI.out]
  clear y6 i1 i2
  obtain ⟨fo, hfo⟩ : ∃ fo, fo = x.i.op := ⟨_, rfl⟩
  have o0 : W2.cell? ⟨gi, 0, none⟩ = some (.int .i64 fo) := by rw [hfo]; exact HBI.out.cell 0
  have HFO := hide hfo
  have HBW := hide (show Below w.heap.size w W2 from HB1.out.trans (HB2.out.mono HB1.out.size))
  clear hfo
  by_cases a1 : fo = 22
  · have b1 : (fo == 22) = true := by simp [a1]
    have HA1 := hide a1
    obtain ⟨fn, hfn⟩ : ∃ fn, fn = x.i.n := ⟨_, rfl⟩
    have o4 : W2.cell? ⟨gi, 4, none⟩ = some (.int .i64 fn) := by rw [hfn]; exact HBI.out.cell 4
    have HII := hide (isin_any vn nv fn W2 (HNV.out.below HB2.out (Nat.le_refl _)))
    obtain ⟨ib, hib⟩ : ∃ ib, ib = inB nv fn := ⟨_, rfl⟩
    rw [← hib] at HII
    have HIB := hide (show ib = inB nv x.i.n by rw [hib, hfn])
    clear hfn hib
    go_wp2_with fail
    refine HII.out.mono ?_
    rintro e w3 ⟨rfl, hb3⟩
    have HB3 := hide (HBW.out.trans (hb3.mono HBW.out.size))
    cases hb : ib with
    | true =>
      have HNE := hide (show nextX code B nv pc x = [] by unfold nextX; rw [if_pos ⟨by rw [← HFO.out, HA1.out], by rw [← HIB.out, hb]⟩])
      subst hb
      clear hb3
      go_wp2_with fail
      go_ret
      exact ⟨_, rfl, by rw [HNE.out]; exact World.ownsRow_nil _ _ _ _, HB3.out⟩
    | false =>
      have HNE := hide (show nextX code B nv pc x = nextI x.i (pc : Int) by
        unfold nextX
        rw [if_neg (fun h => by rw [← HIB.out, hb] at h; cases h.2), if_neg (fun h => by rw [← HFO.out, HA1.out] at h; exact absurd h.1 (by decide))])
      subst hb
      have HB3W := hide (show Below W1.heap.size W1 w3 from HB2.out.trans (hb3.mono HB2.out.size))
      have HBI3 := hide (HBI.out.below hb3 HBI.out.lt)
      have HNC := hide (next_any x.i x.av x.rv (pc : Int) w3 (HIX.out.below HB3W.out (Nat.le_refl _)) (by have := HLX.out; omega))
      rw [← (show V = Ins.val x.i x.av x.rv from HVI.out)] at HNC
      clear hb3 o0 o4
      go_wp2_with (first
        | (refine wpList_load_blk (.tmp 9) HBI3.out HVI.out Try.underlying45 rfl ins_size rfl rfl rfl ?_)
        | (refine wp_load_blk (.tmp 9) HBI3.out HVI.out Try.underlying45 rfl ins_size rfl rfl ?_))
      refine HNC.out.mono ?_
      rintro e w4 ⟨v4, rfl, hown4, hb4⟩
      have HB4 := hide (HB3.out.trans (hb4.mono HB3.out.size))
      have HI4 := hide (show w4.ownsRow w.heap.size 3 1 v4 (nextI x.i (pc : Int)).length ((nextI x.i (pc : Int)).map iI) from own_monoT hown4 HB3.out.size)
      clear hown4 hb4
      go_wp2_with fail
      go_ret
      exact ⟨_, rfl, by rw [HNE.out]; exact HI4.out, HB4.out⟩
  · have b1 : (fo == 22) = false := by simp [a1]
    have HA1 := hide a1
    by_cases a2 : fo = 20
    · have b2 : (fo == 20) = true := by simp [a2]
      have HA2 := hide a2
      have HBP2 := hide (HBP.out.below HB2.out HBP.out.lt)
      have HBG2 := hide (HBG.out.below HB2.out HBG.out.lt)
      have HTC := hide (test_any p hs code ns B Ab Aa Ao cb ca co kb n lo R o pc x W2 (HOK.out.below HB2.out (Nat.le_refl _)) (HFR.out.below HB2.out (Nat.le_refl _)) HSM.out HX.out)
      rw [← HPV2.out] at HTC
      have g0 : W2.cell? ⟨g, 0, none⟩ = some (.slice Ab kb cb) := HBG2.out.cell 0
      have g1 : W2.cell? ⟨g, 1, none⟩ = some (.slice Aa n ca) := HBG2.out.cell 1
      have g2 : W2.cell? ⟨g, 2, none⟩ = some (.slice Ao lo co) := HBG2.out.cell 2
      go_wp2_with (first
        | (refine wpList_load_blk (.tmp 4) HBP2.out HPV.out Try.underlying29 rfl pr_size rfl rfl rfl ?_)
        | (refine wp_load_blk (.tmp 4) HBP2.out HPV.out Try.underlying29 rfl pr_size rfl rfl ?_))
      refine HTC.out.mono ?_
      rintro e w3 ⟨rfl, hb3⟩
      obtain ⟨th, hth⟩ : ∃ th, th = (tstR code B pc x).1 := ⟨_, rfl⟩
      obtain ⟨tk, htk⟩ : ∃ tk, tk = (tstR code B pc x).2 := ⟨_, rfl⟩
      rw [← hth, ← htk]
      have HB3 := hide (HBW.out.trans (hb3.mono HBW.out.size))
      have HB3W := hide (show Below W1.heap.size W1 w3 from HB2.out.trans (hb3.mono HB2.out.size))
      have HBI3 := hide (HBI.out.below hb3 HBI.out.lt)
      have HNX := hide (show nextX code B nv pc x = if tk = true then (if th = true then [pw] else [x.i.to_]) else nextI x.i (pc : Int) by
        unfold nextX
        rw [if_neg (fun h => HA1.out (by rw [HFO.out]; exact h.1)), ← hth, ← htk, HPW.out]
        by_cases hk : tk = true
        · rw [if_pos ⟨by rw [← HFO.out, HA2.out], hk⟩, if_pos hk]
        · rw [if_neg (fun h => hk h.2), if_neg hk])
      obtain ⟨ft, hft⟩ : ∃ ft, ft = x.i.to_ := ⟨_, rfl⟩
      have o10 : w3.cell? ⟨gi, 14, none⟩ = some (.int .i64 ft) := by rw [hft]; exact HBI3.out.cell 14
      have HFT := hide hft
      have HTK := hide (show (tk = true ∨ tk = false) ∧ (th = true ∨ th = false) from ⟨by cases tk <;> simp, by cases th <;> simp⟩)
      clear hth htk hft g0 g1 g2
      cases hk : tk with
      | true =>
        cases hh : th with
        | true =>
          have HNE := hide (show nextX code B nv pc x = [pw] by rw [HNX.out, if_pos hk, if_pos hh])
          subst hk hh
          obtain ⟨W4, hW4⟩ : ∃ W4, W4 = w3.alloc (.cells #[.int .i64 pw] 3) := ⟨_, rfl⟩
          have HB4 := hide (show Below w.heap.size w W4 by rw [hW4]; exact HB3.out.alloc HB3.out.size _)
          have HI4 := hide (show W4.ownsRow w.heap.size 3 1 (.slice (some ⟨w3.heap.size, 0, none⟩) 1 1) 1 ([pw].map iI) by rw [hW4]; exact own_litI (cs := #[.int .i64 pw]) HB3.out.size rfl (by decide))
          have HW4 := hide hW4
          clear hW4 hb3
          go_wp2_with fail
          go_ret
          rw [← HW4.out]
          exact ⟨_, rfl, by rw [HNE.out]; exact HI4.out, HB4.out⟩
        | false =>
          have HNE := hide (show nextX code B nv pc x = [ft] by rw [HNX.out, if_pos hk, if_neg (by rw [hh]; decide), HFT.out])
          subst hk hh
          obtain ⟨W4, hW4⟩ : ∃ W4, W4 = w3.alloc (.cells #[.int .i64 ft] 3) := ⟨_, rfl⟩
          have HB4 := hide (show Below w.heap.size w W4 by rw [hW4]; exact HB3.out.alloc HB3.out.size _)
          have HI4 := hide (show W4.ownsRow w.heap.size 3 1 (.slice (some ⟨w3.heap.size, 0, none⟩) 1 1) 1 ([ft].map iI) by rw [hW4]; exact own_litI (cs := #[.int .i64 ft]) HB3.out.size rfl (by decide))
          have HW4 := hide hW4
          clear hW4 hb3
          go_wp2_with fail
          go_ret
          rw [← HW4.out]
          exact ⟨_, rfl, by rw [HNE.out]; exact HI4.out, HB4.out⟩
      | false =>
        have HNE := hide (show nextX code B nv pc x = nextI x.i (pc : Int) by rw [HNX.out, if_neg (by rw [hk]; decide)])
        subst hk
        clear o0 o10
        have HNC := hide (next_any x.i x.av x.rv (pc : Int) w3 (HIX.out.below HB3W.out (Nat.le_refl _)) (by have := HLX.out; omega))
        rw [← (show V = Ins.val x.i x.av x.rv from HVI.out)] at HNC
        go_wp2_with (first
          | (refine wpList_load_blk (.tmp 9) HBI3.out HVI.out Try.underlying45 rfl ins_size rfl rfl rfl ?_)
          | (refine wp_load_blk (.tmp 9) HBI3.out HVI.out Try.underlying45 rfl ins_size rfl rfl ?_))
        refine HNC.out.mono ?_
        rintro e w4 ⟨v4, rfl, hown4, hb4⟩
        have HB4 := hide (HB3.out.trans (hb4.mono HB3.out.size))
        have HI4 := hide (show w4.ownsRow w.heap.size 3 1 v4 (nextI x.i (pc : Int)).length ((nextI x.i (pc : Int)).map iI) from own_monoT hown4 HB3.out.size)
        clear hown4 hb4
        go_wp2_with fail
        go_ret
        exact ⟨_, rfl, by rw [HNE.out]; exact HI4.out, HB4.out⟩
    · have b2 : (fo == 20) = false := by simp [a2]
      have HNE := hide (show nextX code B nv pc x = nextI x.i (pc : Int) by
        unfold nextX
        rw [if_neg (fun h => HA1.out (by rw [HFO.out]; exact h.1)), if_neg (fun h => a2 (by rw [HFO.out]; exact h.1))])
      have HNC := hide (next_any x.i x.av x.rv (pc : Int) W2 (HIX.out.below HB2.out (Nat.le_refl _)) (by have := HLX.out; omega))
      rw [← (show V = Ins.val x.i x.av x.rv from HVI.out)] at HNC
      go_wp2_with (first
        | (refine wpList_load_blk (.tmp 9) HBI.out HVI.out Try.underlying45 rfl ins_size rfl rfl rfl ?_)
        | (refine wp_load_blk (.tmp 9) HBI.out HVI.out Try.underlying45 rfl ins_size rfl rfl ?_))
      refine HNC.out.mono ?_
      rintro e w4 ⟨v4, rfl, hown4, hb4⟩
      have HB4 := hide (HBW.out.trans (hb4.mono HBW.out.size))
      have HI4 := hide (show w4.ownsRow w.heap.size 3 1 v4 (nextI x.i (pc : Int)).length ((nextI x.i (pc : Int)).map iI) from own_monoT hown4 HBW.out.size)
      clear hown4 hb4
      go_wp2_with fail
      go_ret
      exact ⟨_, rfl, by rw [HNE.out]; exact HI4.out, HB4.out⟩
end Go.Proofs.Ytaaadbaakhjkcaa
