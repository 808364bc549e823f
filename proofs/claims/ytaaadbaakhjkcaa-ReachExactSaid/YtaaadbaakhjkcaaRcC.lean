/- The constant truth on which an If looks (reach.test); conditions: the func and its graph are in memory. -/
import Derived.Test.YtaaadbaakhjkcaaRcAB
import Derived.Test.YtaaadbaakhjkcaaFlST
import Derived.Test.YtaaadbaakhjkcaaTail
namespace Go.Proofs.Ytaaadbaakhjkcaa
open Go.RowKit Go.WideShapes Go.ChangeShapes
set_option linter.unusedVariables false
set_option linter.unusedSimpArgs false
set_option maxRecDepth 100000

def TstP (w : World) (r : Bool × Bool) (e : Ending) (w' : World) : Prop := e = .returned (.tuple #[.bool r.1, .bool r.2]) ∧ Below w.heap.size w w'
set_option maxHeartbeats 16000000 in
theorem test_any (p : Pr) (hs : List Bool) (code : List IV) (ns : Nat) (B : Nat → Bool) (Ab Aa Ao : Option Addr) (cb ca co kb n lo : Nat) (R : Nat → Value) (o : List Nat) (pc : Nat) (x : IV) (w : World) (h : PrOk w p hs code ns) (hF : GrF w p hs code ns B Ab Aa Ao cb ca co kb n lo R o) (hl : ∀ x ∈ code, x.i.arms.length ≤ 100 ∧ x.i.args.length ≤ 100) (hx : code[pc]? = some x) :
    Calls Try.prog 70 #[p.val, .agg #[.slice Ab kb cb, .slice Aa n ca, .slice Ao lo co], .int .i64 (pc : Int)] w (TstP w (tstR code B pc x)) := by
  obtain ⟨gp, hgp⟩ : ∃ gp, gp = w.heap.size := ⟨_, rfl⟩
  obtain ⟨W1, hW1⟩ : ∃ W1, W1 = (w.alloc (.cells p.arr 29)).alloc (.cells #[.slice Ab kb cb, .slice Aa n ca, .slice Ao lo co] 34) := ⟨_, rfl⟩
  obtain ⟨g, hg⟩ : ∃ g, g = gp + 1 := ⟨_, rfl⟩
  have hb1 : Below w.heap.size w W1 := by rw [hW1]; exact ((Below.refl _ _).alloc (Nat.le_refl _) _).alloc (by simp) _
  have HBP := hide (show Blk W1 gp 29 p.arr by rw [hW1, hgp]; exact (Blk.new _ _ _).alloc _)
  have HBG := hide (show Blk W1 g 34 #[.slice Ab kb cb, .slice Aa n ca, .slice Ao lo co] by
    have h := Blk.new (w.alloc (.cells p.arr 29)) 34 #[.slice Ab kb cb, .slice Aa n ca, .slice Ao lo co]
    rw [← hW1] at h
    rw [hg, hgp]
    simpa using h)
  have HOK := hide (h.below hb1 (Nat.le_refl _))
  have HFR := hide (hF.below hb1 (Nat.le_refl _))
  have HSM := hide hl
  obtain ⟨Ac, cc, hcv⟩ := h.cv.form
  have HCV := hide hcv
  have HNN := hide (show n ≤ 1000 ∧ n = code.length ∧ kb ≤ 1000 ∧ pc < n from ⟨by rw [hF.nl]; exact hF.g.len, hF.nl, hF.kle, by rw [hF.nl]; exact code_lt hx⟩)
  have HY6 := hide (show ∀ wr, Below W1.heap.size W1 wr → wr.cell? ⟨gp, 6, none⟩ = some (.slice Ac n cc) from fun wr hw => by
    have h := (HBP.out.below hw HBP.out.lt).cell 6
    rw [h, HNN.out.2.1, ← HCV.out]
    rfl)
  have HGW := hide (show ∀ wr, Below W1.heap.size W1 wr → wr.cell? ⟨g, 0, none⟩ = some (.slice Ab kb cb) ∧ wr.cell? ⟨g, 1, none⟩ = some (.slice Aa n ca) from fun wr hw => by
    have h := HBG.out.below hw HBG.out.lt
    exact ⟨h.cell 0, h.cell 1⟩)
  have HCV1 := hide (show InssAt W1 (.slice Ac n cc) code by
    have h := HOK.out.cv
    rw [HCV.out, ← HNN.out.2.1] at h
    exact h)
  have HX := hide hx
  have HB1 := hide hb1
  have HW1 := hide hW1
  have HGP := hide hgp
  have HG := hide hg
  obtain ⟨PV, hPV⟩ : ∃ PV, PV = p.val := ⟨_, rfl⟩
  have HPV := hide (show PV = .agg p.arr from hPV)
  have HPV2 := hide (show PV = p.val from hPV)
  -- the block of pc
  obtain ⟨z, hz, hz1, hz2⟩ := at_in hF.g.zero (n := code.length) (code_lt hx)
  have hkz : atB B pc < kb := by rw [hF.kbl]; exact at_lt hF.g.zero (code_lt hx)
  obtain ⟨k, hk⟩ : ∃ k, k = atB B pc := ⟨_, rfl⟩
  obtain ⟨fr, hfr⟩ : ∃ fr, fr = z.1 := ⟨_, rfl⟩
  rw [← hk] at hz hkz
  have HFB := hide (show fromB code B pc = fr by unfold fromB; rw [← hk, hz, hfr])
  have HFL := hide (show fr ≤ pc by omega)
  have HZ := hide (And.intro hz (And.intro hk hfr))
  have HKZ := hide hkz
  clear h hF hl hcv hb1 hW1 hgp hg hx hPV hz hz1 hz2 hkz hk hfr
  go_enter Try.func70, Try.ntmps70
  go_upto_region 1 with (fail)
  rw [← HPV2.out, ← HGP.out]
  rw [HPV.out, ← HG.out, ← HW1.out, ← HPV.out]
  have g0 := (HGW.out W1 (Below.refl _ _)).1
  have g1 := (HGW.out W1 (Below.refl _ _)).2
  obtain ⟨ba, oa, av, hAa, hal, hav, ya⟩ := IntsAt.at_ HFR.out.at_.at_ (k := pc) (by rw [List.length_map, List.length_range]; have := HNN.out; omega)
  rw [List.getElem?_map, List.getElem?_range (by have := HNN.out; omega)] at hav
  injection hav with hav
  have hav : ((atB B pc : Nat) : Int) = av := hav
  rw [← HZ.out.2.1] at hav
  subst hav
  subst hAa
  obtain ⟨bb, ob, hAb, hbl, c0, c1, c2, c3⟩ := HFR.out.cells HZ.out.1
  rw [← HZ.out.2.2] at c0
  subst hAb
  have j1 : (pc : Int) < (n : Int) := by have := HNN.out; omega
  have j2 : (0 : Int) ≤ (pc : Int) := by omega
  have j3 : (k : Int) < (kb : Int) := by have := HKZ.out; omega
  have j4 : (0 : Int) ≤ (k : Int) := by omega
  have q1 : IntKind.i64.wrap ((pc : Int) - 1) = (pc : Int) - 1 := IntWalk.i64_in _ (by have := HNN.out; omega)
  clear hal hbl c1 c2 c3
  go_upto_region 2 with (fail)
  go_wp2_with fail
  go_quiet (fail)
  obtain ⟨wz, hwz⟩ : ∃ wz, wz = W1.drewN nq := ⟨_, rfl⟩
  have hbz : Below W1.heap.size W1 wz := by rw [hwz]; exact below_drewL (Below.refl _ _) _
  have HWZ := hide hbz
  have yaz := (hbz.cell (p := ⟨ba, oa + pc, none⟩) (World.block_lt_of_cell? W1 _ ya)).trans ya
  have c0z := (hbz.cell (p := ⟨bb, ob + k * 4, none⟩) (World.block_lt_of_cell? W1 _ c0)).trans c0
  rw [← hwz]
  clear hwz hbz ya c0 g0 g1
  have g0 := (HGW.out wz HWZ.out).1
  have g1 := (HGW.out wz HWZ.out).2
  go_wp2_with fail
  go_quiet (fail)
  obtain ⟨wy, hwy⟩ : ∃ wy, wy = wz.drewN nq := ⟨_, rfl⟩
  have hby : Below wz.heap.size wz wy := by rw [hwy]; exact below_drewL (Below.refl _ _) _
  have HWY := hide (HWZ.out.trans (hby.mono HWZ.out.size))
  rw [← hwy]
  clear hwy hby yaz c0z g0 g1 j3 j4
  go_upto_region 5 with (fail)
  obtain ⟨xa, hxa⟩ : ∃ xa, xa = x.i.a := ⟨_, rfl⟩
  have HXA := hide hxa
  have HPC := hide (show tstR code B pc x = tstB (lastW code xa fr pc) by unfold tstR; rw [HFB.out, hxa])
  clear hxa q1 j1 j2 hav
  go_loopw [9] (fun kk wr => ∃ (v : Int) (j : Nat), kk = .int .i64 v ∧ Hid (v = (j : Int) - 1) ∧ fr ≤ j ∧ j ≤ pc ∧ Hid (lastW code xa fr pc = lastW code xa fr j) ∧ Hid (Below W1.heap.size W1 wr)) (fun kk _ => (intOf kk + 1).toNat)
  case atStart => exact ⟨_, pc, rfl, hide rfl, HFL.out, Nat.le_refl _, hide rfl, HWY⟩
  case round =>
    clear HWY
    obtain ⟨v, j, rfl, HV, hj1, hj2, HLW, HWR⟩ := hrel
    by_cases hfj : fr < j
    · obtain ⟨j', hj'⟩ : ∃ j', j = j' + 1 := ⟨j - 1, by omega⟩
      obtain rfl : v = (j' : Int) := by rw [HV.out, hj']; omega
      have i1 : (fr : Int) ≤ (j' : Int) := by omega
      have i2 : (0 : Int) ≤ (j' : Int) := by omega
      have i4 : (pc : Int) < (n : Int) := by have := HNN.out; omega
      have i5 : (0 : Int) ≤ (pc : Int) := by omega
      have i3 : (j' : Int) < (n : Int) := by have := HNN.out; omega
      have q5 : IntKind.i64.wrap ((j' : Int) - 1) = (j' : Int) - 1 := IntWalk.i64_in _ (by have := HNN.out; omega)
      obtain ⟨b0, of, y, hAc, hbl, hy, hcells⟩ := RowAt.at_ (HCV1.out.below HWR.out (Nat.le_refl _)) (i := j') (by have := HNN.out; omega)
      obtain ⟨b0', of', x', hAc', hbl', hx', hcells'⟩ := RowAt.at_ (HCV1.out.below HWR.out (Nat.le_refl _)) (i := pc) (by have := HNN.out; omega)
      obtain rfl : x = x' := by
        have h1 := HX.out
        rw [hx'] at h1
        injection h1 with h1
        exact h1.symm
      rw [hAc] at hAc'
      injection hAc' with hAc'
      injection hAc' with e1 e2
      subst e1 e2
      subst hAc
      have ca : wr.cell? ⟨b0, of + pc * 22 + 2, none⟩ = some (.int .i64 xa) := by rw [HXA.out]; exact hcells' 2 _ rfl
      have HCE := hide (show wr.rangeAt b0 (of + j' * 22) (IV.enc y) from hcells)
      obtain ⟨V, hV⟩ : ∃ V, V = Ins.val y.i y.av y.rv := ⟨_, rfl⟩
      have HVI := hide hV
      have hiy := (HOK.out.ok y (List.mem_of_getElem? hy)).below HWR.out (Nat.le_refl _)
      have HON := hide (ins_one hiy)
      have HIY := hide hiy
      have HLX := hide (HSM.out y (List.mem_of_getElem? hy))
      obtain ⟨gi, hgi⟩ : ∃ gi, gi = wr.heap.size := ⟨_, rfl⟩
      have HGI := hide hgi
      have HLJ := hide (show lastW code xa fr pc = if xa ∈ writesL y.i then some y else lastW code xa fr j' by rw [HLW.out, hj', lastW_at (by omega) hy])
      have y6 := HY6.out wr HWR.out
      have HJ := hide (show fr ≤ j' ∧ j' < pc by omega)
      clear hfj hj' hj1 hj2 hbl hy hcells hbl' hx' hcells' hV hiy hgi HV HLW
      go_upto_region 8 with (first
        | (refine wpList_load_midW 45 (.tmp 57) b0 (of + j' * 22) (IV.enc y) V HCE.out HVI.out Try.underlying45 rfl ins_size rfl (by kernel_rfl) rfl ?_)
        | (refine wpList_store_new 45 (.tmp 10) (.tmp 58) (y.i.arr y.av y.rv) V HVI.out ins_size HON.out rfl rfl rfl rfl rfl rfl ?_
           intro W2 hbg hb2
           rw [← HGI.out] at hbg
           have HBI := hide hbg
           have HB2 := hide hb2
           clear hbg hb2))
      rw [← HGI.out]
      have HBW := hide (HWR.out.trans (HB2.out.mono HWR.out.size))
      have hS0 : (Blk W2 gi 45 (y.i.arr y.av y.rv) ∧ W2.cell? ⟨gp, 6, none⟩ = some (.slice (some ⟨b0, of, none⟩) n cc) ∧ W2.cell? ⟨b0, of + pc * 22 + 2, none⟩ = some (.int .i64 xa)) := ⟨HBI.out, HY6.out W2 HBW.out, (HB2.out.cell (p := ⟨b0, of + pc * 22 + 2, none⟩) (World.block_lt_of_cell? wr _ ca)).trans ca⟩
      have HWC := hide (writes_any y.i y.av y.rv W2.drew (HIY.out.below (show Below wr.heap.size wr W2.drew from HB2.out.drew) (Nat.le_refl _)) HLX.out.1 HLX.out.2)
      obtain ⟨bm, hbm⟩ : ∃ bm, bm = decide (xa ∈ writesL y.i) := ⟨_, rfl⟩
      have HBM := hide hbm
      rw [← (show V = Ins.val y.i y.av y.rv from HVI.out)] at HWC
      have HVE := hide (show V = .agg (y.i.arr y.av y.rv).toList.toArray from HVI.out)
      clear y6 ca hbm
      go_wp2_with fail
      refine wp_region_tail 99 (fun w' => (Blk w' gi 45 (y.i.arr y.av y.rv) ∧ w'.cell? ⟨gp, 6, none⟩ = some (.slice (some ⟨b0, of, none⟩) n cc) ∧ w'.cell? ⟨b0, of + pc * 22 + 2, none⟩ = some (.int .i64 xa))) (by kernel_rfl) hS0 (fun hHeld => ?_)
      try simp only [Act.put, List.setIfInBounds_toArray, List.set_cons_zero, List.set_cons_succ]
      refine' wpTail_take (i := 0) (oi := _) ?hin5018 ?hsn5018 ?hfn5018 ?hrn5018 ?hzn5018 ?hQn5018 (v := V) ?hyn5018 (by assumption) ?_
      case hin5018 => (simp only [List.getElem?_toArray, List.getElem?_cons_zero]; exact rfl)
      case hsn5018 => kernel_rfl
      case hfn5018 => kernel_rfl
      case hrn5018 => kernel_rfl
      case hzn5018 => kernel_rfl
      case hQn5018 => exact fun _ _ _ h => h
      case hyn5018 => (rw [HVE.out]; exact yieldsIf_load_mid rfl 45 (.tmp 10) rfl gi 0 rfl ((y.i.arr y.av y.rv).toList) _ (fun W0 hSw j v hv => by rw [Nat.zero_add, Blk.cell hSw.1]; simpa using hv) Try.underlying45 rfl ins_size)
      try simp only [Act.put, List.setIfInBounds_toArray, List.set_cons_zero, List.set_cons_succ]
      refine' wpTail_take (i := 2) (oi := _) ?hin5019 ?hsn5019 ?hfn5019 ?hrn5019 ?hzn5019 ?hQn5019 (v := _) (Or.inl ⟨?hwn5019, ?hyn5019⟩) (by assumption) ?_
      case hin5019 => (simp only [List.getElem?_toArray, List.getElem?_cons_succ, List.getElem?_cons_zero]; exact rfl)
      case hsn5019 => kernel_rfl
      case hfn5019 => kernel_rfl
      case hrn5019 => kernel_rfl
      case hzn5019 => kernel_rfl
      case hQn5019 => exact fun _ _ _ h => h
      case hwn5019 => rfl
      case hyn5019 => (intro W0 hSw; (try dsimp only at hSw); go_simp; (try with_reducible rfl))
      try simp only [Act.put, List.setIfInBounds_toArray, List.set_cons_zero, List.set_cons_succ]
      refine' wpTail_take (i := 3) (oi := _) ?hin5020 ?hsn5020 ?hfn5020 ?hrn5020 ?hzn5020 ?hQn5020 (v := _) (Or.inl ⟨?hwn5020, ?hyn5020⟩) (by assumption) ?_
      case hin5020 => (simp only [List.getElem?_toArray, List.getElem?_cons_succ, List.getElem?_cons_zero]; exact rfl)
      case hsn5020 => kernel_rfl
      case hfn5020 => kernel_rfl
      case hrn5020 => kernel_rfl
      case hzn5020 => kernel_rfl
      case hQn5020 => exact fun _ _ _ h => h
      case hwn5020 => rfl
      case hyn5020 => (intro W0 hSw; (try dsimp only at hSw); have u0 : W0.cell? ⟨gp, 6, none⟩ = some (.slice (some ⟨b0, of, none⟩) n cc) := hSw.2.1; go_simp; (try with_reducible rfl))
      try simp only [Act.put, List.setIfInBounds_toArray, List.set_cons_zero, List.set_cons_succ]
      refine' wpTail_take (i := 4) (oi := _) ?hin5021 ?hsn5021 ?hfn5021 ?hrn5021 ?hzn5021 ?hQn5021 (v := _) (Or.inl ⟨?hwn5021, ?hyn5021⟩) (by assumption) ?_
      case hin5021 => (simp only [List.getElem?_toArray, List.getElem?_cons_succ, List.getElem?_cons_zero]; exact rfl)
      case hsn5021 => kernel_rfl
      case hfn5021 => kernel_rfl
      case hrn5021 => kernel_rfl
      case hzn5021 => kernel_rfl
      case hQn5021 => exact fun _ _ _ h => h
      case hwn5021 => rfl
      case hyn5021 => (intro W0 hSw; (try dsimp only at hSw); go_simp; (try with_reducible rfl))
      try simp only [Act.put, List.setIfInBounds_toArray, List.set_cons_zero, List.set_cons_succ]
      refine' wpTail_take (i := 5) (oi := _) ?hin5022 ?hsn5022 ?hfn5022 ?hrn5022 ?hzn5022 ?hQn5022 (v := _) (Or.inl ⟨?hwn5022, ?hyn5022⟩) (by assumption) ?_
      case hin5022 => (simp only [List.getElem?_toArray, List.getElem?_cons_succ, List.getElem?_cons_zero]; exact rfl)
      case hsn5022 => kernel_rfl
      case hfn5022 => kernel_rfl
      case hrn5022 => kernel_rfl
      case hzn5022 => kernel_rfl
      case hQn5022 => exact fun _ _ _ h => h
      case hwn5022 => rfl
      case hyn5022 => (intro W0 hSw; (try dsimp only at hSw); go_simp; (try with_reducible rfl))
      try simp only [Act.put, List.setIfInBounds_toArray, List.set_cons_zero, List.set_cons_succ]
      refine' wpTail_take (i := 6) (oi := _) ?hin5023 ?hsn5023 ?hfn5023 ?hrn5023 ?hzn5023 ?hQn5023 (v := _) (Or.inl ⟨?hwn5023, ?hyn5023⟩) (by assumption) ?_
      case hin5023 => (simp only [List.getElem?_toArray, List.getElem?_cons_succ, List.getElem?_cons_zero]; exact rfl)
      case hsn5023 => kernel_rfl
      case hfn5023 => kernel_rfl
      case hrn5023 => kernel_rfl
      case hzn5023 => kernel_rfl
      case hQn5023 => exact fun _ _ _ h => h
      case hwn5023 => rfl
      case hyn5023 => (intro W0 hSw; (try dsimp only at hSw); go_simp; (try with_reducible rfl))
      try simp only [Act.put, List.setIfInBounds_toArray, List.set_cons_zero, List.set_cons_succ]
      refine' wpTail_take (i := 7) (oi := _) ?hin5024 ?hsn5024 ?hfn5024 ?hrn5024 ?hzn5024 ?hQn5024 (v := _) (Or.inl ⟨?hwn5024, ?hyn5024⟩) (by assumption) ?_
      case hin5024 => (simp only [List.getElem?_toArray, List.getElem?_cons_succ, List.getElem?_cons_zero]; exact rfl)
      case hsn5024 => kernel_rfl
      case hfn5024 => kernel_rfl
      case hrn5024 => kernel_rfl
      case hzn5024 => kernel_rfl
      case hQn5024 => exact fun _ _ _ h => h
      case hwn5024 => rfl
      case hyn5024 => (intro W0 hSw; (try dsimp only at hSw); have u0 : W0.cell? ⟨b0, of + pc * 22 + 2, none⟩ = some (.int .i64 xa) := hSw.2.2; go_simp; (try with_reducible rfl))
      try simp only [Act.put, List.setIfInBounds_toArray, List.set_cons_zero, List.set_cons_succ]
      refine' wpTail_one (i := 1) (o := _) (by kernel_rfl) ?ho5025 ?hw5025 (fun K hK => ?_)
      case ho5025 => (simp only [List.getElem?_toArray, List.getElem?_cons_succ, List.getElem?_cons_zero]; exact rfl)
      case hw5025 => rfl
      go_simp
      refine HWC.out.mono ?_
      rintro e w3 ⟨v3, rfl, hown3, hb3⟩
      have hb3 : Below W2.heap.size W2 w3 := (show Below W2.heap.size W2 W2.drew from (Below.refl _ _).drew).trans hb3
      have hi3 : IntsAt w3 v3 (writesL y.i) := IntsAt.own hown3
      have hS3 : (Blk w3 gi 45 (y.i.arr y.av y.rv) ∧ w3.cell? ⟨gp, 6, none⟩ = some (.slice (some ⟨b0, of, none⟩) n cc) ∧ w3.cell? ⟨b0, of + pc * 22 + 2, none⟩ = some (.int .i64 xa)) := ⟨hS0.1.below hb3 hS0.1.lt, (hb3.cell (p := ⟨gp, 6, none⟩) (World.block_lt_of_cell? W2 _ hS0.2.1)).trans hS0.2.1, (hb3.cell (p := ⟨b0, of + pc * 22 + 2, none⟩) (World.block_lt_of_cell? W2 _ hS0.2.2)).trans hS0.2.2⟩
      have HCC := hide (contains_any v3 (writesL y.i) xa w3 hi3 (writesL_len y.i HLX.out.1))
      rw [← HBM.out] at HCC
      have HBW3 := hide (HBW.out.trans (hb3.mono HBW.out.size))
      have HBI3 := hide (show Blk w3 gi 45 (y.i.arr y.av y.rv) from hS3.1)
      clear hown3 hb3 hi3
      refine hK.out _ _ (fun _ => hS3) ?_
      clear hK K
      try simp only [Act.put, List.setIfInBounds_toArray, List.set_cons_zero, List.set_cons_succ]
      refine' wpTail_one (i := 8) (o := _) (by kernel_rfl) ?ho5026 ?hw5026 (fun K hK => ?_)
      case ho5026 => (simp only [List.getElem?_toArray, List.getElem?_cons_succ, List.getElem?_cons_zero]; exact rfl)
      case hw5026 => rfl
      go_simp
      refine HCC.out.mono ?_
      rintro e w4 ⟨rfl, rfl⟩
      refine hK.out _ _ (fun _ => hS3) ?_
      clear hK K
      refine wpTail_done (by kernel_rfl) ?_ _
      try simp only [Act.put, List.setIfInBounds_toArray, List.set_cons_zero, List.set_cons_succ]
      clear hHeld hS0 hS3 i3 i4 i5 i1
      cases hb : bm with
      | false =>
        have hnm : xa ∉ writesL y.i := of_decide_eq_false (by rw [← HBM.out]; exact hb)
        have HLN := hide (show lastW code xa fr pc = lastW code xa fr j' by rw [HLJ.out, if_neg hnm])
        clear hnm
        subst hb
        go_wp2_with fail
        go_roundw
        case rel => exact ⟨_, j', rfl, hide rfl, HJ.out.1, by have := HJ.out; omega, HLN, HBW3⟩
        case measure => simp [intOf]
      | true =>
        have hmm : xa ∈ writesL y.i := of_decide_eq_true (by rw [← HBM.out]; exact hb)
        have HTR := hide (show tstR code B pc x = (decide (y.i.vn ≠ 0), decide (y.i.op = 1) && decide (y.i.vk = 2)) by rw [HPC.out, HLJ.out, if_pos hmm]; rfl)
        clear hmm
        subst hb
        obtain ⟨fo, hfo⟩ : ∃ fo, fo = y.i.op := ⟨_, rfl⟩
        obtain ⟨fk, hfk⟩ : ∃ fk, fk = y.i.vk := ⟨_, rfl⟩
        obtain ⟨fn, hfn⟩ : ∃ fn, fn = y.i.vn := ⟨_, rfl⟩
        have o0 : w4.cell? ⟨gi, 0, none⟩ = some (.int .i64 fo) := by rw [hfo]; exact HBI3.out.cell 0
        have o7 : w4.cell? ⟨gi, 7, none⟩ = some (.int .i64 fk) := by rw [hfk]; exact HBI3.out.cell 7
        have o8 : w4.cell? ⟨gi, 8, none⟩ = some (.int .i64 fn) := by rw [hfn]; exact HBI3.out.cell 8
        rw [← hfo, ← hfk, ← hfn] at HTR
        have HBF := hide (HB1.out.trans (HBW3.out.mono HB1.out.size))
        clear hfo hfk hfn i2 q5
        by_cases a1 : fn = 0
        · have H1 := hide a1
          have b1 : (fn == 0) = true := by simp [a1]
          by_cases a2 : fo = 1
          · have H2 := hide a2
            have b2 : (fo == 1) = true := by simp [a2]
            by_cases a3 : fk = 2
            · have H3 := hide a3
              have b3 : (fk == 2) = true := by simp [a3]
              go_wp2_with fail
              go_quiet (fail)
              go_wp2_with fail
              go_ret2
              refine ⟨?_, below_drewL HBF.out _⟩
              rw [HTR.out]
              simp [H1.out, H2.out, H3.out]
            · have H3 := hide a3
              have b3 : (fk == 2) = false := by simp [a3]
              go_wp2_with fail
              go_quiet (fail)
              go_wp2_with fail
              go_ret2
              refine ⟨?_, below_drewL HBF.out _⟩
              rw [HTR.out]
              simp [H1.out, H2.out, H3.out]
          · have H2 := hide a2
            have b2 : (fo == 1) = false := by simp [a2]
            by_cases a3 : fk = 2
            · have H3 := hide a3
              have b3 : (fk == 2) = true := by simp [a3]
              go_wp2_with fail
              go_quiet (fail)
              go_wp2_with fail
              go_ret2
              refine ⟨?_, below_drewL HBF.out _⟩
              rw [HTR.out]
              simp [H1.out, H2.out, H3.out]
            · have H3 := hide a3
              have b3 : (fk == 2) = false := by simp [a3]
              go_wp2_with fail
              go_quiet (fail)
              go_wp2_with fail
              go_ret2
              refine ⟨?_, below_drewL HBF.out _⟩
              rw [HTR.out]
              simp [H1.out, H2.out, H3.out]
        · have H1 := hide a1
          have b1 : (fn == 0) = false := by simp [a1]
          by_cases a2 : fo = 1
          · have H2 := hide a2
            have b2 : (fo == 1) = true := by simp [a2]
            by_cases a3 : fk = 2
            · have H3 := hide a3
              have b3 : (fk == 2) = true := by simp [a3]
              go_wp2_with fail
              go_quiet (fail)
              go_wp2_with fail
              go_ret2
              refine ⟨?_, below_drewL HBF.out _⟩
              rw [HTR.out]
              simp [H1.out, H2.out, H3.out]
            · have H3 := hide a3
              have b3 : (fk == 2) = false := by simp [a3]
              go_wp2_with fail
              go_quiet (fail)
              go_wp2_with fail
              go_ret2
              refine ⟨?_, below_drewL HBF.out _⟩
              rw [HTR.out]
              simp [H1.out, H2.out, H3.out]
          · have H2 := hide a2
            have b2 : (fo == 1) = false := by simp [a2]
            by_cases a3 : fk = 2
            · have H3 := hide a3
              have b3 : (fk == 2) = true := by simp [a3]
              go_wp2_with fail
              go_quiet (fail)
              go_wp2_with fail
              go_ret2
              refine ⟨?_, below_drewL HBF.out _⟩
              rw [HTR.out]
              simp [H1.out, H2.out, H3.out]
            · have H3 := hide a3
              have b3 : (fk == 2) = false := by simp [a3]
              go_wp2_with fail
              go_quiet (fail)
              go_wp2_with fail
              go_ret2
              refine ⟨?_, below_drewL HBF.out _⟩
              rw [HTR.out]
              simp [H1.out, H2.out, H3.out]
    · have HLZ := hide (show tstR code B pc x = (false, false) by rw [HPC.out, HLW.out, lastW_low (by omega)]; rfl)
      have i1 : ¬ (fr : Int) ≤ v := by have := HV.out; omega
      clear hfj hj1 hj2 HV HLW
      go_wp2_with fail
      go_ret2
      refine ⟨?_, HB1.out.trans (HWR.out.mono HB1.out.size)⟩
      rw [HLZ.out]
      rfl
end Go.Proofs.Ytaaadbaakhjkcaa
