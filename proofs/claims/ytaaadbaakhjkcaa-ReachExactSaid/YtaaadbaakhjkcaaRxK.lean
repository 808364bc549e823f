/- Where code goes on, if some funcs never go back (the reference's Next); conditions: the func is in memory, its registers its own. -/
import Derived.Test.YtaaadbaakhjkcaaRxJ
namespace Go.Proofs.Ytaaadbaakhjkcaa
open Go.RowKit Go.WideShapes Go.ChangeShapes
set_option linter.unusedVariables false
set_option linter.unusedSimpArgs false
set_option maxRecDepth 100000

set_option maxHeartbeats 16000000 in
theorem rnextx_any (p : Pr) (hs : List Bool) (code : List IV) (ns : Nat) (pc : Nat) (x : IV) (sv vn : Value) (nv : List Bool) (w : World) (h : PrOk w p hs code ns) (hl : ∀ x ∈ code, x.i.arms.length ≤ 100 ∧ x.i.args.length ≤ 100) (hn : code.length ≤ 1000) (hw : ∀ x ∈ code, (1 ≤ x.i.op ∧ x.i.op ≤ 41) ∧ wrotL x.i = writesL x.i) (hx : code[pc]? = some x) (hsv : IntsAt w sv (begsN code code.length)) (hnv : BoolsAt w vn nv) :
    Calls Try.prog 49 #[p.val, sv, .int .i64 (pc : Int), vn] w (RisP w (fun y => y ∈ nextX code (begU code code.length) nv pc x)) := by
  obtain ⟨gp, hgp⟩ : ∃ gp, gp = w.heap.size := ⟨_, rfl⟩
  obtain ⟨W1, hW1⟩ : ∃ W1, W1 = w.alloc (.cells p.arr 29) := ⟨_, rfl⟩
  have hb1 : Below w.heap.size w W1 := by rw [hW1]; exact (Below.refl _ _).alloc (Nat.le_refl _) _
  have HBP := hide (show Blk W1 gp 29 p.arr by rw [hW1, hgp]; exact Blk.new _ _ _)
  have HOK := hide (h.below hb1 (Nat.le_refl _))
  obtain ⟨Ac, cc, hcv⟩ := h.cv.form
  obtain ⟨n, hnn⟩ : ∃ n, n = code.length := ⟨_, rfl⟩
  have hpc := code_lt hx
  rw [← hnn] at hcv hpc
  have y6 : W1.cell? ⟨gp, 6, none⟩ = some (.slice Ac n cc) := by
    have h := HBP.out.cell 6
    rw [h, ← hcv]
    rfl
  have HIC := hide (show InssAt W1 (.slice Ac n cc) code by
    have h := HOK.out.cv
    rw [hcv] at h
    exact h)
  obtain ⟨As, cs, rfl⟩ := hsv.form
  obtain ⟨ms, hms⟩ : ∃ ms, ms = (begsN code code.length).length := ⟨_, rfl⟩
  rw [← hms] at hsv ⊢
  have HSV := hide (hsv.below hb1 (Nat.le_refl _))
  have HSF := hide (begsN_first (code := code) (by omega) pc)
  have HSN := hide (show ms ≤ 1000 ∧ ms = (begsN code code.length).length from ⟨by rw [hms]; exact Nat.le_trans (begsN_len code code.length) hn, hms⟩)
  obtain ⟨An, cn, rfl⟩ := hnv.form
  obtain ⟨nl, hnl⟩ : ∃ nl, nl = nv.length := ⟨_, rfl⟩
  rw [← hnl] at hnv ⊢
  have HNV := hide (show BoolsAt W1 (.slice An nl cn) nv from hnv.below hb1 (Nat.le_refl _))
  have HNLB := hide hnl
  have HSM := hide hl
  have HWE := hide hw
  have HNN := hide (And.intro hnn (And.intro hn hpc))
  have HX := hide hx
  have HGP := hide hgp
  have HW1 := hide hW1
  have HB1 := hide hb1
  obtain ⟨PV, hPV⟩ : ∃ PV, PV = p.val := ⟨_, rfl⟩
  have HPV := hide (show PV = .agg p.arr.toList.toArray from hPV)
  have HPV2 := hide (show PV = p.val from hPV)
  have HPV3 := hide (show PV = .agg p.arr from hPV)
  obtain ⟨b0, of, x', hAc, hbl, hx', hcells⟩ := RowAt.at_ HIC.out (i := pc) (by omega)
  obtain rfl : x = x' := by
    rw [hx] at hx'
    injection hx'
  subst hAc
  have HCE := hide (show W1.rangeAt b0 (of + pc * 22) (IV.enc x) from hcells)
  obtain ⟨V, hV⟩ : ∃ V, V = Ins.val x.i x.av x.rv := ⟨_, rfl⟩
  have HVI := hide hV
  have hxm := List.mem_of_getElem? hx
  have hix := HOK.out.ok x hxm
  have HON := hide (ins_one hix)
  have HIX := hide hix
  have HLX := hide (hl x hxm)
  obtain ⟨gi, hgi⟩ : ∃ gi, gi = W1.heap.size := ⟨_, rfl⟩
  have HGI := hide hgi
  have i1 : (pc : Int) < (n : Int) := by omega
  have i2 : (0 : Int) ≤ (pc : Int) := by omega
  obtain ⟨pw, hpw⟩ : ∃ pw, pw = IntKind.i64.wrap ((pc : Int) + 1) := ⟨_, rfl⟩
  have q1 : IntKind.i64.wrap ((pc : Int) + 1) = pw := hpw.symm
  have HPW := hide hpw
  rw [← hPV]
  clear h hl hn hw hx hsv hnv hnn hpc hgp hW1 hb1 hcv hms hnl hPV hbl hx' hcells hV hxm hix hgi hpw
  go_enter Try.func49, Try.ntmps49
  go_upto_region 1 with (fail)
  rw [HPV3.out, ← HW1.out, ← HGP.out, ← HPV3.out]
  go_upto_region 2 with (first
    | (refine wpList_load_midW 45 (.tmp 15) b0 (of + pc * 22) (IV.enc x) V HCE.out HVI.out Try.underlying45 rfl ins_size rfl (by kernel_rfl) rfl ?_)
    | (refine wpList_store_new 45 (.tmp 9) (.tmp 16) (x.i.arr x.av x.rv) V HVI.out ins_size HON.out rfl rfl rfl rfl rfl rfl ?_
       intro W2 hbg hb2
       rw [← HGI.out] at hbg
       have HBI := hide hbg
       have HB2 := hide hb2
       clear hbg hb2))
  rw [← HGI.out]
  clear y6 i1 i2
  obtain ⟨fo, hfo⟩ : ∃ fo, fo = x.i.op := ⟨_, rfl⟩
  obtain ⟨fn, hfn⟩ : ∃ fn, fn = x.i.n := ⟨_, rfl⟩
  have o0 : W2.cell? ⟨gi, 0, none⟩ = some (.int .i64 fo) := by rw [hfo]; exact HBI.out.cell 0
  have o4 : W2.cell? ⟨gi, 4, none⟩ = some (.int .i64 fn) := by rw [hfn]; exact HBI.out.cell 4
  have HBW := hide (show Below w.heap.size w W2 from HB1.out.trans (HB2.out.mono HB1.out.size))
  have HE := hide (show nextX code (begU code code.length) nv pc x = (if fo = 22 ∧ inB nv fn = true then [] else if fo = 20 ∧ (tstR code (begU code code.length) pc x).2 = true then (if (tstR code (begU code code.length) pc x).1 = true then [pw] else [x.i.to_]) else nextI x.i (pc : Int)) by unfold nextX; rw [hfo, hfn, HPW.out])
  have HNC := hide (fun ww (hw : Below W1.heap.size W1 ww) => rnext_any x.i x.av x.rv (pc : Int) ww (HIX.out.below hw (Nat.le_refl _)) HLX.out.1)
  rw [← (show V = Ins.val x.i x.av x.rv from HVI.out)] at HNC
  clear hfo hfn
  by_cases o22 : fo = 22
  · have b22 : (fo == 22) = true := by simp [o22]
    have b20 : (fo == 20) = false := by simp [o22]
    have HO := hide o22
    by_cases c1 : 0 ≤ fn
    · obtain ⟨fk, hfk⟩ : ∃ fk : Nat, fn = (fk : Int) := ⟨fn.toNat, by omega⟩
      subst hfk
      have c1' : (0 : Int) ≤ (fk : Int) := c1
      by_cases c2 : fk < nl
      · have c2' : (fk : Int) < (nl : Int) := by omega
        obtain ⟨b4, o4', vb, e4, hl4, hx4, y4⟩ := BoolsAt.at_ (show BoolsAt W2 (.slice An nl cn) nv from HNV.out.below HB2.out (Nat.le_refl _)) (i := fk) (by rw [← HNLB.out]; exact c2)
        subst e4
        have HIB := hide (inB_some hx4)
        clear hl4 hx4
        cases hvb : vb with
        | true =>
          have HNE := hide (show nextX code (begU code code.length) nv pc x = [] by rw [HE.out, if_pos ⟨HO.out, by rw [HIB.out, hvb]⟩])
          subst hvb
          go_wp2_with fail
          go_ret
          exact ⟨_, [], rfl, World.ownsRow_nil _ _ _ _, HBW.out, fun z => by rw [HNE.out], by decide⟩
        | false =>
          have HNE := hide (show nextX code (begU code code.length) nv pc x = nextI x.i (pc : Int) by rw [HE.out, if_neg (fun h => by rw [HIB.out, hvb] at h; cases h.2), if_neg (fun h => by have := h.1; have := HO.out; omega)])
          subst hvb
          have HCC := hide (HNC.out W2 HB2.out)
          go_wp2_with (first
            | (refine wpList_load_blk (.tmp 9) HBI.out HVI.out Try.underlying45 rfl ins_size rfl rfl rfl ?_)
            | (refine wp_load_blk (.tmp 9) HBI.out HVI.out Try.underlying45 rfl ins_size rfl rfl ?_))
          refine HCC.out.mono ?_
          rintro e w7 hr
          have HR := hide (RisP.mono (HB1.out.trans (HB2.out.mono HB1.out.size)) (Q' := fun y => y ∈ nextX code (begU code code.length) nv pc x) (fun y => by rw [HNE.out]; exact nextI_mem.symm) hr)
          obtain ⟨v7, L7, rfl, _⟩ := hr
          go_wp2_with fail
          go_ret
          exact HR.out
      · have c2' : ¬ (fk : Int) < (nl : Int) := by omega
        have HNE := hide (show nextX code (begU code code.length) nv pc x = nextI x.i (pc : Int) by rw [HE.out, if_neg (fun h => by rw [inB_none (by rw [← HNLB.out]; omega)] at h; cases h.2), if_neg (fun h => by have := h.1; have := HO.out; omega)])
        have HCC := hide (HNC.out W2 HB2.out)
        go_wp2_with (first
          | (refine wpList_load_blk (.tmp 9) HBI.out HVI.out Try.underlying45 rfl ins_size rfl rfl rfl ?_)
          | (refine wp_load_blk (.tmp 9) HBI.out HVI.out Try.underlying45 rfl ins_size rfl rfl ?_))
        refine HCC.out.mono ?_
        rintro e w7 hr
        have HR := hide (RisP.mono (HB1.out.trans (HB2.out.mono HB1.out.size)) (Q' := fun y => y ∈ nextX code (begU code code.length) nv pc x) (fun y => by rw [HNE.out]; exact nextI_mem.symm) hr)
        obtain ⟨v7, L7, rfl, _⟩ := hr
        go_wp2_with fail
        go_ret
        exact HR.out
    · have HNE := hide (show nextX code (begU code code.length) nv pc x = nextI x.i (pc : Int) by rw [HE.out, if_neg (fun h => by rw [inB_neg c1] at h; cases h.2), if_neg (fun h => by have := h.1; have := HO.out; omega)])
      have HCC := hide (HNC.out W2 HB2.out)
      go_wp2_with (first
        | (refine wpList_load_blk (.tmp 9) HBI.out HVI.out Try.underlying45 rfl ins_size rfl rfl rfl ?_)
        | (refine wp_load_blk (.tmp 9) HBI.out HVI.out Try.underlying45 rfl ins_size rfl rfl ?_))
      refine HCC.out.mono ?_
      rintro e w7 hr
      have HR := hide (RisP.mono (HB1.out.trans (HB2.out.mono HB1.out.size)) (Q' := fun y => y ∈ nextX code (begU code code.length) nv pc x) (fun y => by rw [HNE.out]; exact nextI_mem.symm) hr)
      obtain ⟨v7, L7, rfl, _⟩ := hr
      go_wp2_with fail
      go_ret
      exact HR.out
  have b22 : (fo == 22) = false := by simp [o22]
  by_cases o20 : fo = 20
  · have b20 : (fo == 20) = true := by simp [o20]
    have HO := hide o20
    obtain ⟨b5, o5, y5, hAs, hl5, hy5, z5⟩ := HSV.out.at_ (k := 0) (by obtain ⟨y, hy, _⟩ := HSF.out; rcases Nat.lt_or_ge 0 (begsN code code.length).length with h | h; exact h; rw [List.getElem?_eq_none h] at hy; cases hy)
    subst hAs
    obtain ⟨xa, hxa⟩ : ∃ xa, xa = x.i.a := ⟨_, rfl⟩
    have HXA := hide hxa
    have HST := hide (show ∀ ww, Below W1.heap.size W1 ww → ∀ (b : Nat) (y : Int), (begsN code code.length)[b]? = some y → ww.cell? ⟨b5, o5 + b, none⟩ = some (.int .i64 y) from fun ww hw b y hy => by
      obtain ⟨b6, o6, y6, hA6, hl6, hy6, z6⟩ := (HSV.out.below hw (Nat.le_refl _)).at_ (k := b) (by
        rcases Nat.lt_or_ge b (begsN code code.length).length with h | h
        · exact h
        · rw [List.getElem?_eq_none h] at hy; cases hy)
      injection hA6 with hA6
      injection hA6 with e1 e2
      subst e1 e2
      rw [hy] at hy6
      injection hy6 with hy6
      rw [hy6]
      exact z6)
    have hS0 : (Blk W2 gp 29 p.arr ∧ W2.cell? ⟨gi, 2, none⟩ = some (.int .i64 xa) ∧ ∀ (b : Nat) (y : Int), (begsN code code.length)[b]? = some y → W2.cell? ⟨b5, o5 + b, none⟩ = some (.int .i64 y)) := ⟨HBP.out.below HB2.out HBP.out.lt, by rw [hxa]; exact HBI.out.cell 2, HST.out W2 HB2.out⟩
    have hbd : Below W2.heap.size W2 W2.drew := (Below.refl _ _).drew
    have HBK := hide (block_any (.slice (some ⟨b5, o5, none⟩) ms cs) (begsN code code.length) (pc : Int) W2.drew ((HSV.out.below HB2.out (Nat.le_refl _)).below hbd (Nat.le_refl _)) (by rw [← HSN.out.2]; exact HSN.out.1) HSF.out)
    clear hxa hl5 hy5 z5 hbd
    go_upto_region 5 with (fail)
    clear o0 o4
    refine wp_region_tail 99 (fun w' => (Blk w' gp 29 p.arr ∧ w'.cell? ⟨gi, 2, none⟩ = some (.int .i64 xa) ∧ ∀ (b : Nat) (y : Int), (begsN code code.length)[b]? = some y → w'.cell? ⟨b5, o5 + b, none⟩ = some (.int .i64 y))) (by kernel_rfl) hS0 (fun hHeld => ?_)
    try simp only [Act.put, List.setIfInBounds_toArray, List.set_cons_zero, List.set_cons_succ]
    refine' wpTail_take (i := 0) (oi := _) ?hin5018 ?hsn5018 ?hfn5018 ?hrn5018 ?hzn5018 ?hQn5018 (v := PV) ?hyn5018 (by assumption) ?_
    case hin5018 => (simp only [List.getElem?_toArray, List.getElem?_cons_zero]; exact rfl)
    case hsn5018 => kernel_rfl
    case hfn5018 => kernel_rfl
    case hrn5018 => kernel_rfl
    case hzn5018 => kernel_rfl
    case hQn5018 => exact fun _ _ _ h => h
    case hyn5018 => (rw [HPV.out]; exact yieldsIf_load_mid rfl 29 (.tmp 4) rfl gp 0 rfl p.arr.toList _ (fun W0 hSw j v hv => by rw [Nat.zero_add, Blk.cell hSw.1]; simpa using hv) Try.underlying29 rfl pr_size)
    try simp only [Act.put, List.setIfInBounds_toArray, List.set_cons_zero, List.set_cons_succ]
    refine' wpTail_take (i := 1) (oi := _) ?hin5019 ?hsn5019 ?hfn5019 ?hrn5019 ?hzn5019 ?hQn5019 (v := _) (Or.inl ⟨?hwn5019, ?hyn5019⟩) (by assumption) ?_
    case hin5019 => (simp only [List.getElem?_toArray, List.getElem?_cons_succ, List.getElem?_cons_zero]; exact rfl)
    case hsn5019 => kernel_rfl
    case hfn5019 => kernel_rfl
    case hrn5019 => kernel_rfl
    case hzn5019 => kernel_rfl
    case hQn5019 => exact fun _ _ _ h => h
    case hwn5019 => rfl
    case hyn5019 => (intro W0 hSw; (try dsimp only at hSw); go_simp; (try with_reducible rfl))
    try simp only [Act.put, List.setIfInBounds_toArray, List.set_cons_zero, List.set_cons_succ]
    refine' wpTail_take (i := 2) (oi := _) ?hin5020 ?hsn5020 ?hfn5020 ?hrn5020 ?hzn5020 ?hQn5020 (v := _) (Or.inl ⟨?hwn5020, ?hyn5020⟩) (by assumption) ?_
    case hin5020 => (simp only [List.getElem?_toArray, List.getElem?_cons_succ, List.getElem?_cons_zero]; exact rfl)
    case hsn5020 => kernel_rfl
    case hfn5020 => kernel_rfl
    case hrn5020 => kernel_rfl
    case hzn5020 => kernel_rfl
    case hQn5020 => exact fun _ _ _ h => h
    case hwn5020 => rfl
    case hyn5020 => (intro W0 hSw; (try dsimp only at hSw); go_simp; (try with_reducible rfl))
    try simp only [Act.put, List.setIfInBounds_toArray, List.set_cons_zero, List.set_cons_succ]
    refine' wpTail_take (i := 3) (oi := _) ?hin5021 ?hsn5021 ?hfn5021 ?hrn5021 ?hzn5021 ?hQn5021 (v := _) (Or.inl ⟨?hwn5021, ?hyn5021⟩) (by assumption) ?_
    case hin5021 => (simp only [List.getElem?_toArray, List.getElem?_cons_succ, List.getElem?_cons_zero]; exact rfl)
    case hsn5021 => kernel_rfl
    case hfn5021 => kernel_rfl
    case hrn5021 => kernel_rfl
    case hzn5021 => kernel_rfl
    case hQn5021 => exact fun _ _ _ h => h
    case hwn5021 => rfl
    case hyn5021 => (intro W0 hSw; (try dsimp only at hSw); go_simp; (try with_reducible rfl))
    try simp only [Act.put, List.setIfInBounds_toArray, List.set_cons_zero, List.set_cons_succ]
    refine' wpTail_take (i := 7) (oi := _) ?hin5022 ?hsn5022 ?hfn5022 ?hrn5022 ?hzn5022 ?hQn5022 (v := _) (Or.inl ⟨?hwn5022, ?hyn5022⟩) (by assumption) ?_
    case hin5022 => (simp only [List.getElem?_toArray, List.getElem?_cons_succ, List.getElem?_cons_zero]; exact rfl)
    case hsn5022 => kernel_rfl
    case hfn5022 => kernel_rfl
    case hrn5022 => kernel_rfl
    case hzn5022 => kernel_rfl
    case hQn5022 => exact fun _ _ _ h => h
    case hwn5022 => rfl
    case hyn5022 => (intro W0 hSw; (try dsimp only at hSw); go_simp; (try with_reducible rfl))
    try simp only [Act.put, List.setIfInBounds_toArray, List.set_cons_zero, List.set_cons_succ]
    refine' wpTail_take (i := 8) (oi := _) ?hin5023 ?hsn5023 ?hfn5023 ?hrn5023 ?hzn5023 ?hQn5023 (v := _) (Or.inl ⟨?hwn5023, ?hyn5023⟩) (by assumption) ?_
    case hin5023 => (simp only [List.getElem?_toArray, List.getElem?_cons_succ, List.getElem?_cons_zero]; exact rfl)
    case hsn5023 => kernel_rfl
    case hfn5023 => kernel_rfl
    case hrn5023 => kernel_rfl
    case hzn5023 => kernel_rfl
    case hQn5023 => exact fun _ _ _ h => h
    case hwn5023 => rfl
    case hyn5023 => (intro W0 hSw; (try dsimp only at hSw); go_simp; (try with_reducible rfl))
    try simp only [Act.put, List.setIfInBounds_toArray, List.set_cons_zero, List.set_cons_succ]
    refine' wpTail_take (i := 9) (oi := _) ?hin5024 ?hsn5024 ?hfn5024 ?hrn5024 ?hzn5024 ?hQn5024 (v := _) (Or.inl ⟨?hwn5024, ?hyn5024⟩) (by assumption) ?_
    case hin5024 => (simp only [List.getElem?_toArray, List.getElem?_cons_succ, List.getElem?_cons_zero]; exact rfl)
    case hsn5024 => kernel_rfl
    case hfn5024 => kernel_rfl
    case hrn5024 => kernel_rfl
    case hzn5024 => kernel_rfl
    case hQn5024 => exact fun _ _ _ h => h
    case hwn5024 => rfl
    case hyn5024 => (intro W0 hSw; (try dsimp only at hSw); have u0 : W0.cell? ⟨gi, 2, none⟩ = some (.int .i64 xa) := hSw.2.1; go_simp; (try with_reducible rfl))
    try simp only [Act.put, List.setIfInBounds_toArray, List.set_cons_zero, List.set_cons_succ]
    refine' wpTail_one (i := 4) (o := _) (by kernel_rfl) ?ho5025 ?hw5025 (fun K hK => ?_)
    case ho5025 => (simp only [List.getElem?_toArray, List.getElem?_cons_succ, List.getElem?_cons_zero]; exact rfl)
    case hw5025 => rfl
    go_simp
    refine HBK.out.mono ?_
    rintro e w3 ⟨bk, yk, rfl, hb3, hyk, hle, hlast⟩
    have hb3 : Below W2.heap.size W2 w3 := (show Below W2.heap.size W2 W2.drew from (Below.refl _ _).drew).trans hb3
    have hfe : yk = (fromB code (begU code code.length) pc : Int) := from_eq (by rw [← HNN.out.1]; exact HNN.out.2.2) hyk hle hlast
    obtain ⟨fr, hfr⟩ : ∃ fr, fr = fromB code (begU code code.length) pc := ⟨_, rfl⟩
    rw [← hfr] at hfe
    subst hfe
    have HFR := hide hfr
    have HBX3 := hide hb3
    have HB3 := hide (HB2.out.trans (hb3.mono HB2.out.size))
    have hS3 : (Blk w3 gp 29 p.arr ∧ w3.cell? ⟨gi, 2, none⟩ = some (.int .i64 xa) ∧ ∀ (b : Nat) (y : Int), (begsN code code.length)[b]? = some y → w3.cell? ⟨b5, o5 + b, none⟩ = some (.int .i64 y)) := ⟨hS0.1.below hb3 hS0.1.lt, (hb3.cell (p := ⟨gi, 2, none⟩) (World.block_lt_of_cell? W2 _ hS0.2.1)).trans hS0.2.1, HST.out w3 HB3.out⟩
    have k1 : (bk : Int) < (ms : Int) := by
      rcases Nat.lt_or_ge bk (begsN code code.length).length with h | h
      · have := HSN.out.2; omega
      · rw [List.getElem?_eq_none h] at hyk; cases hyk
    have k2 : (0 : Int) ≤ (bk : Int) := by omega
    have HTC := hide (truth_any p hs code ns fr pc xa w3 (HOK.out.below HB3.out (Nat.le_refl _)) HSM.out (HNN.out.2.1) HWE.out (by have := HNN.out; omega) (by omega))
    rw [← HPV2.out] at HTC
    obtain ⟨tt, htt⟩ : ∃ tt, tt = tstB (lastW code xa fr pc) := ⟨_, rfl⟩
    rw [← htt] at HTC
    have HTT := hide (show tstR code (begU code code.length) pc x = tt by unfold tstR; rw [← HFR.out, ← HXA.out, htt])
    obtain ⟨t1, t2⟩ := tt
    clear hb3 hle hlast hfr htt
    refine hK.out _ _ (fun _ => hS3) ?_
    clear hK K
    try simp only [Act.put, List.setIfInBounds_toArray, List.set_cons_zero, List.set_cons_succ]
    refine' wpTail_take (i := 5) (oi := _) ?hin5026 ?hsn5026 ?hfn5026 ?hrn5026 ?hzn5026 ?hQn5026 (v := _) (Or.inl ⟨?hwn5026, ?hyn5026⟩) (by assumption) ?_
    case hin5026 => (simp only [List.getElem?_toArray, List.getElem?_cons_succ, List.getElem?_cons_zero]; exact rfl)
    case hsn5026 => kernel_rfl
    case hfn5026 => kernel_rfl
    case hrn5026 => kernel_rfl
    case hzn5026 => kernel_rfl
    case hQn5026 => exact fun _ _ _ h => h
    case hwn5026 => rfl
    case hyn5026 => (intro W0 hSw; (try dsimp only at hSw); go_simp; (try with_reducible rfl))
    try simp only [Act.put, List.setIfInBounds_toArray, List.set_cons_zero, List.set_cons_succ]
    refine' wpTail_take (i := 6) (oi := _) ?hin5027 ?hsn5027 ?hfn5027 ?hrn5027 ?hzn5027 ?hQn5027 (v := _) (Or.inl ⟨?hwn5027, ?hyn5027⟩) (by assumption) ?_
    case hin5027 => (simp only [List.getElem?_toArray, List.getElem?_cons_succ, List.getElem?_cons_zero]; exact rfl)
    case hsn5027 => kernel_rfl
    case hfn5027 => kernel_rfl
    case hrn5027 => kernel_rfl
    case hzn5027 => kernel_rfl
    case hQn5027 => exact fun _ _ _ h => h
    case hwn5027 => rfl
    case hyn5027 => (intro W0 hSw; (try dsimp only at hSw); have u0 : W0.cell? ⟨b5, o5 + bk, none⟩ = some (.int .i64 (fr : Int)) := hSw.2.2 bk _ hyk; go_simp; (try with_reducible rfl))
    try simp only [Act.put, List.setIfInBounds_toArray, List.set_cons_zero, List.set_cons_succ]
    refine' wpTail_one (i := 10) (o := _) (by kernel_rfl) ?ho5028 ?hw5028 (fun K hK => ?_)
    case ho5028 => (simp only [List.getElem?_toArray, List.getElem?_cons_succ, List.getElem?_cons_zero]; exact rfl)
    case hw5028 => rfl
    go_simp
    refine HTC.out.mono ?_
    rintro e w4 ⟨rfl, hb4⟩
    have hbx4 : Below W2.heap.size W2 w4 := HBX3.out.trans (hb4.mono HBX3.out.size)
    have HB4 := hide (HB3.out.trans (hb4.mono HB3.out.size))
    have hS4 : (Blk w4 gp 29 p.arr ∧ w4.cell? ⟨gi, 2, none⟩ = some (.int .i64 xa) ∧ ∀ (b : Nat) (y : Int), (begsN code code.length)[b]? = some y → w4.cell? ⟨b5, o5 + b, none⟩ = some (.int .i64 y)) := ⟨hS3.1.below hb4 hS3.1.lt, (hb4.cell (p := ⟨gi, 2, none⟩) (World.block_lt_of_cell? w3 _ hS3.2.1)).trans hS3.2.1, HST.out w4 HB4.out⟩
    have HBI4 := hide ((HBI.out.below (hbx4) HBI.out.lt))
    clear hb4 hbx4
    refine hK.out _ _ (fun _ => hS4) ?_
    clear hK K
    try simp only [Act.put, List.setIfInBounds_toArray, List.set_cons_zero, List.set_cons_succ]
    refine' wpTail_take (i := 11) (oi := _) ?hin5029 ?hsn5029 ?hfn5029 ?hrn5029 ?hzn5029 ?hQn5029 (v := _) (Or.inl ⟨?hwn5029, ?hyn5029⟩) (by assumption) ?_
    case hin5029 => (simp only [List.getElem?_toArray, List.getElem?_cons_succ, List.getElem?_cons_zero]; exact rfl)
    case hsn5029 => kernel_rfl
    case hfn5029 => kernel_rfl
    case hrn5029 => kernel_rfl
    case hzn5029 => kernel_rfl
    case hQn5029 => exact fun _ _ _ h => h
    case hwn5029 => rfl
    case hyn5029 => (intro W0 hSw; (try dsimp only at hSw); go_simp; (try with_reducible rfl))
    try simp only [Act.put, List.setIfInBounds_toArray, List.set_cons_zero, List.set_cons_succ]
    refine' wpTail_take (i := 12) (oi := _) ?hin5030 ?hsn5030 ?hfn5030 ?hrn5030 ?hzn5030 ?hQn5030 (v := _) (Or.inl ⟨?hwn5030, ?hyn5030⟩) (by assumption) ?_
    case hin5030 => (simp only [List.getElem?_toArray, List.getElem?_cons_succ, List.getElem?_cons_zero]; exact rfl)
    case hsn5030 => kernel_rfl
    case hfn5030 => kernel_rfl
    case hrn5030 => kernel_rfl
    case hzn5030 => kernel_rfl
    case hQn5030 => exact fun _ _ _ h => h
    case hwn5030 => rfl
    case hyn5030 => (intro W0 hSw; (try dsimp only at hSw); go_simp; (try with_reducible rfl))
    try simp only [Act.put, List.setIfInBounds_toArray, List.set_cons_zero, List.set_cons_succ]
    refine' wpTail_take (i := 13) (oi := _) ?hin5031 ?hsn5031 ?hfn5031 ?hrn5031 ?hzn5031 ?hQn5031 (v := _) (Or.inl ⟨?hwn5031, ?hyn5031⟩) (by assumption) ?_
    case hin5031 => (simp only [List.getElem?_toArray, List.getElem?_cons_succ, List.getElem?_cons_zero]; exact rfl)
    case hsn5031 => kernel_rfl
    case hfn5031 => kernel_rfl
    case hrn5031 => kernel_rfl
    case hzn5031 => kernel_rfl
    case hQn5031 => exact fun _ _ _ h => h
    case hwn5031 => rfl
    case hyn5031 => (intro W0 hSw; (try dsimp only at hSw); go_simp; (try with_reducible rfl))
    try simp only [Act.put, List.setIfInBounds_toArray, List.set_cons_zero, List.set_cons_succ]
    refine' wpTail_one (i := 14) (o := _) (by kernel_rfl) ?ho5032 ?hw5032 (fun K hK => ?_)
    case ho5032 => (simp only [List.getElem?_toArray, List.getElem?_cons_succ, List.getElem?_cons_zero]; exact rfl)
    case hw5032 => rfl
    go_simp
    refine hK.out _ _ (fun _ => hS4) ?_
    clear hK K
    try simp only [Act.put, List.setIfInBounds_toArray, List.set_cons_zero, List.set_cons_succ]
    refine' wpTail_one (i := 15) (o := _) (by kernel_rfl) ?ho5033 ?hw5033 (fun K hK => ?_)
    case ho5033 => (simp only [List.getElem?_toArray, List.getElem?_cons_succ, List.getElem?_cons_zero]; exact rfl)
    case hw5033 => rfl
    go_simp
    refine hK.out _ _ (fun _ => hS4) ?_
    clear hK K
    refine wpTail_done (by kernel_rfl) ?_ _
    try simp only [Act.put, List.setIfInBounds_toArray, List.set_cons_zero, List.set_cons_succ]
    clear hHeld hS0 hS3 hS4 k1 k2 hyk
    have HBW4 := hide (show Below w.heap.size w w4 from HB1.out.trans (HB4.out.mono HB1.out.size))
    have o14 : w4.cell? ⟨gi, 14, none⟩ = some (.int .i64 x.i.to_) := HBI4.out.cell 14
    cases h2 : t2 with
    | false =>
      have HNE := hide (show nextX code (begU code code.length) nv pc x = nextI x.i (pc : Int) by rw [HE.out, HTT.out, if_neg (fun h => by have := h.1; have := HO.out; omega), if_neg (fun h => by have h3 := h.2; rw [h2] at h3; cases h3)])
      subst h2
      have HCC := hide (HNC.out w4 HB4.out)
      go_wp2_with (first
        | (refine wpList_load_blk (.tmp 9) HBI4.out HVI.out Try.underlying45 rfl ins_size rfl rfl rfl ?_)
        | (refine wp_load_blk (.tmp 9) HBI4.out HVI.out Try.underlying45 rfl ins_size rfl rfl ?_))
      refine HCC.out.mono ?_
      rintro e w7 hr
      have HR := hide (RisP.mono (HB1.out.trans (HB4.out.mono HB1.out.size)) (Q' := fun y => y ∈ nextX code (begU code code.length) nv pc x) (fun y => by rw [HNE.out]; exact nextI_mem.symm) hr)
      obtain ⟨v7, L7, rfl, _⟩ := hr
      go_wp2_with fail
      go_ret
      exact HR.out
    | true =>
      cases h1 : t1 with
      | true =>
        have HNE := hide (show nextX code (begU code code.length) nv pc x = [pw] by rw [HE.out, HTT.out, if_neg (fun h => by have := h.1; have := HO.out; omega), if_pos ⟨HO.out, h2⟩, if_pos h1])
        have HF := hide (show RisP w (fun y => y ∈ nextX code (begU code code.length) nv pc x) (.returned (.slice (some ⟨w4.heap.size, 0, none⟩) 1 1)) (w4.alloc (.cells #[.int .i64 pw] 3)) from
          RisP.lit (L := [pw]) HBW4.out rfl rfl (by decide) (fun y => by rw [HNE.out]))
        subst h1
        subst h2
        go_wp2_with fail
        go_ret
        exact HF.out
      | false =>
        obtain ⟨xt, hxt⟩ : ∃ xt, xt = x.i.to_ := ⟨_, rfl⟩
        rw [← hxt] at o14
        have HNE := hide (show nextX code (begU code code.length) nv pc x = [xt] by rw [HE.out, HTT.out, if_neg (fun h => by have := h.1; have := HO.out; omega), if_pos ⟨HO.out, h2⟩, if_neg (by simp [h1]), hxt])
        have HF := hide (show RisP w (fun y => y ∈ nextX code (begU code code.length) nv pc x) (.returned (.slice (some ⟨w4.heap.size, 0, none⟩) 1 1)) (w4.alloc (.cells #[.int .i64 xt] 3)) from
          RisP.lit (L := [xt]) HBW4.out rfl rfl (by decide) (fun y => by rw [HNE.out]))
        subst h1
        subst h2
        clear hxt
        go_wp2_with fail
        go_ret
        exact HF.out
  have b20 : (fo == 20) = false := by simp [o20]
  have HNE := hide (show nextX code (begU code code.length) nv pc x = nextI x.i (pc : Int) by rw [HE.out, if_neg (fun h => o22 h.1), if_neg (fun h => o20 h.1)])
  have HCC := hide (HNC.out W2 HB2.out)
  go_wp2_with (first
    | (refine wpList_load_blk (.tmp 9) HBI.out HVI.out Try.underlying45 rfl ins_size rfl rfl rfl ?_)
    | (refine wp_load_blk (.tmp 9) HBI.out HVI.out Try.underlying45 rfl ins_size rfl rfl ?_))
  refine HCC.out.mono ?_
  rintro e w7 hr
  have HR := hide (RisP.mono (HB1.out.trans (HB2.out.mono HB1.out.size)) (Q' := fun y => y ∈ nextX code (begU code code.length) nv pc x) (fun y => by rw [HNE.out]; exact nextI_mem.symm) hr)
  obtain ⟨v7, L7, rfl, _⟩ := hr
  go_wp2_with fail
  go_ret
  exact HR.out
end Go.Proofs.Ytaaadbaakhjkcaa
