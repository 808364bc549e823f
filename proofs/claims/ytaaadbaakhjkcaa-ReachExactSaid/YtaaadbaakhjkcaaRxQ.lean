/- ReachExact; conditions: the func and the row are in memory, the func's raw numbers are int64's. -/
import Derived.Test.YtaaadbaakhjkcaaRxP
namespace Go.Proofs.Ytaaadbaakhjkcaa
open Go.RowKit Go.WideShapes Go.ChangeShapes
set_option linter.unusedVariables false
set_option linter.unusedSimpArgs false
set_option maxRecDepth 100000

theorem bc_congr2 {n : Nat} {f g : Nat → Bool} (h : ∀ q, q < n → f q = g q) : bc n f = bc n g := by
  unfold bc
  rw [List.map_congr_left (fun q hq => by rw [h q (List.mem_range.1 hq)])]
theorem good_ins {p : Pr} {hs : List Bool} {code : List IV} {ns : Nat} (h : goodP p hs code ns = true) : ∀ x ∈ code, (1 ≤ x.i.op ∧ x.i.op ≤ 41) ∧ wrotL x.i = writesL x.i := by
  intro x hx
  unfold goodP at h
  rw [Bool.and_eq_true, Bool.and_eq_true] at h
  obtain ⟨hh, hall, _⟩ := h
  obtain ⟨q, hq⟩ := List.getElem?_of_mem hx
  have hi := allFrom_iff.1 hall q x hq
  unfold insB at hi
  simp only [Bool.and_eq_true, decide_eq_true_eq] at hi
  have hop : 1 ≤ x.i.op ∧ x.i.op ≤ 41 := ⟨hi.2.1, hi.2.2.1⟩
  have hr : 0 ≤ p.regs ∧ p.regs ≤ 65536 := by
    unfold headB at hh
    simp at hh
    omega
  exact ⟨hop, wrot_eq hop hi.2.2.2.2.2.2.1 hr⟩
set_option maxHeartbeats 16000000 in
theorem exact_any (p : Pr) (hs : List Bool) (code : List IV) (ns : Nat) (nv : List Bool) (vn : Value) (w : World) (h : PrOk w p hs code ns) (hr : ∀ x ∈ code, InsR x.i) (hnv : BoolsAt w vn nv) : Calls Try.prog 5 #[p.val, vn] w (BoolP w true) := by
  obtain ⟨gp, hgp⟩ : ∃ gp, gp = w.heap.size := ⟨_, rfl⟩
  obtain ⟨W1, hW1⟩ : ∃ W1, W1 = w.alloc (.cells p.arr 29) := ⟨_, rfl⟩
  have hb1 : Below w.heap.size w W1 := by rw [hW1]; exact (Below.refl _ _).alloc (Nat.le_refl _) _
  have hbp : Blk W1 gp 29 p.arr := by rw [hW1, hgp]; exact Blk.new _ _ _
  have HOK := hide (h.below hb1 (Nat.le_refl _))
  obtain ⟨An, cn, hvn⟩ := RowAt.form hnv
  obtain ⟨ln, hln⟩ : ∃ ln, ln = nv.length := ⟨_, rfl⟩
  rw [← hln] at hvn
  subst hvn
  have HNV := hide (show BoolsAt W1 (.slice An ln cn) nv from hnv.below hb1 (Nat.le_refl _))
  have HLL := hide hln
  obtain ⟨PV, hPV⟩ : ∃ PV, PV = p.val := ⟨_, rfl⟩
  have HPV := hide (show PV = .agg p.arr from hPV)
  have HPVL := hide (show PV = .agg p.arr.toList.toArray from hPV)
  have HPV2 := hide (show PV = p.val from hPV)
  have HRG := hide hr
  have HB1 := hide hb1
  have HW1 := hide hW1
  have HGP := hide hgp
  have HBP := hide hbp
  clear h hnv hb1 hW1 hgp hbp hPV hln hr
  have HAW := hide (awake22_any W1)
  go_enter Try.func5, Try.ntmps5
  go_upto_region 1 with (fail)
  rw [← HPV2.out, ← HGP.out]
  rw [HPV.out, ← HW1.out, ← HPV.out]
  go_wp2_with fail
  refine HAW.out.mono ?_
  rintro e w2 ⟨rfl, hb2⟩
  have HB2 := hide (show Below W1.heap.size W1 w2 from hb2)
  have HBP2 := hide (HBP.out.below hb2 HBP.out.lt)
  have HGC := hide (greatc_any p hs code ns w2 (HOK.out.below hb2 (Nat.le_refl _)))
  rw [← HPV2.out] at HGC
  clear hb2
  go_wp2_with (first
    | (refine wpList_load_blk (.tmp 2) HBP2.out HPV.out Try.underlying29 rfl pr_size rfl rfl rfl ?_)
    | (refine wp_load_blk (.tmp 2) HBP2.out HPV.out Try.underlying29 rfl pr_size rfl rfl ?_))
  refine HGC.out.mono ?_
  rintro e w3 ⟨rfl, hb3⟩
  have HB3 := hide (HB2.out.trans (hb3.mono HB2.out.size))
  clear hb3
  have HF := hide (HB1.out.trans (HB3.out.mono HB1.out.size))
  cases hgc : greatC hs code ns with
  | true =>
    clear hgc
    go_wp2_with fail
    go_ret
    exact ⟨rfl, HF.out⟩
  | false =>
    have HSM := hide (small_of22 hgc)
    clear hgc
    by_cases c1 : (100 : Int) < (ln : Int)
    · have d1 : decide ((100 : Int) < (ln : Int)) = true := decide_eq_true c1
      go_wp2_with fail
      go_ret
      exact ⟨rfl, HF.out⟩
    have d1 : decide ((100 : Int) < (ln : Int)) = false := decide_eq_false c1
    have HBP3 := hide (HBP.out.below HB3.out HBP.out.lt)
    have HOK3 := hide (HOK.out.below HB3.out (Nat.le_refl _))
    have HNV3 := hide (show BoolsAt w3 (.slice An ln cn) nv from HNV.out.below HB3.out (Nat.le_refl _))
    have hbd : Below w3.heap.size w3 w3.drew := (Below.refl _ _).drew
    have hS0 : Blk w3 gp 29 p.arr := HBP3.out
    cases hgd : goodP p hs code ns with
    | false =>
      have HOF := hide (of_none p hs code ns w3.drew (HOK3.out.below hbd (Nat.le_refl _)) (by have := HSM.out.1; omega) HSM.out.2.2 hgd)
      rw [← HPV2.out] at HOF
      go_upto_region 5 with (fail)
      refine wp_region_tail 99 (fun w' => Blk w' gp 29 p.arr) (by kernel_rfl) hS0 (fun hHeld => ?_)
      try simp only [Act.put, List.setIfInBounds_toArray, List.set_cons_zero, List.set_cons_succ]
      refine' wpTail_take (i := 0) (oi := _) ?hin5018 ?hsn5018 ?hfn5018 ?hrn5018 ?hzn5018 ?hQn5018 (v := PV) ?hyn5018 (by assumption) ?_
      case hin5018 => (simp only [List.getElem?_toArray, List.getElem?_cons_zero]; exact rfl)
      case hsn5018 => kernel_rfl
      case hfn5018 => kernel_rfl
      case hrn5018 => kernel_rfl
      case hzn5018 => kernel_rfl
      case hQn5018 => exact fun _ _ _ h => h
      case hyn5018 => (rw [HPVL.out]; exact yieldsIf_load_mid rfl 29 (.tmp 2) rfl gp 0 rfl p.arr.toList _ (fun W0 hSw j v hv => by rw [Nat.zero_add, Blk.cell hSw]; simpa using hv) Try.underlying29 rfl pr_size)
      try simp only [Act.put, List.setIfInBounds_toArray, List.set_cons_zero, List.set_cons_succ]
      refine' wpTail_take (i := 1) (oi := _) ?hin5019 ?hsn5019 ?hfn5019 ?hrn5019 ?hzn5019 ?hQn5019 (v := PV) ?hyn5019 (by assumption) ?_
      case hin5019 => (simp only [List.getElem?_toArray, List.getElem?_cons_succ, List.getElem?_cons_zero]; exact rfl)
      case hsn5019 => kernel_rfl
      case hfn5019 => kernel_rfl
      case hrn5019 => kernel_rfl
      case hzn5019 => kernel_rfl
      case hQn5019 => exact fun _ _ _ h => h
      case hyn5019 => (rw [HPVL.out]; exact yieldsIf_load_mid rfl 29 (.tmp 2) rfl gp 0 rfl p.arr.toList _ (fun W0 hSw j v hv => by rw [Nat.zero_add, Blk.cell hSw]; simpa using hv) Try.underlying29 rfl pr_size)
      try simp only [Act.put, List.setIfInBounds_toArray, List.set_cons_zero, List.set_cons_succ]
      refine' wpTail_take (i := 3) (oi := _) ?hi5020 ?hs5020 ?hf5020 ?hr5020 ?hz5020 ?hQ5020 (v := _) (Or.inl ⟨?hw5020, ?hy5020⟩) (by assumption) ?_
      case hi5020 => (simp only [List.getElem?_toArray, List.getElem?_cons_succ, List.getElem?_cons_zero]; exact rfl)
      case hs5020 => kernel_rfl
      case hf5020 => kernel_rfl
      case hr5020 => kernel_rfl
      case hz5020 => kernel_rfl
      case hQ5020 => exact fun _ _ _ h => h
      case hw5020 => rfl
      case hy5020 => (intro W0 hSw; (try dsimp only at hSw); go_simp; (try with_reducible rfl))
      try simp only [Act.put, List.setIfInBounds_toArray, List.set_cons_zero, List.set_cons_succ]
      refine' wpTail_one (i := 2) (o := _) (by kernel_rfl) ?ho5021 ?hw5021 (fun K hK => ?_)
      case ho5021 => (simp only [List.getElem?_toArray, List.getElem?_cons_succ, List.getElem?_cons_zero]; exact rfl)
      case hw5021 => rfl
      go_simp
      refine HOF.out.mono ?_
      rintro e w4 ⟨rfl, hb4⟩
      have hb4 : Below w3.heap.size w3 w4 := hbd.trans hb4
      have hS4 : Blk w4 gp 29 p.arr := hS0.below hb4 hS0.lt
      have HCD := hide (codr_none p hs code ns (.slice An ln cn) w4 (HOK3.out.below hb4 (Nat.le_refl _)))
      rw [← HPV2.out] at HCD
      refine hK.out _ _ (fun _ => hS4) ?_
      clear hK K
      try simp only [Act.put, List.setIfInBounds_toArray, List.set_cons_zero, List.set_cons_succ]
      refine' wpTail_one (i := 4) (o := _) (by kernel_rfl) ?ho5022 ?hw5022 (fun K hK => ?_)
      case ho5022 => (simp only [List.getElem?_toArray, List.getElem?_cons_succ, List.getElem?_cons_zero]; exact rfl)
      case hw5022 => rfl
      go_simp
      refine HCD.out.mono ?_
      rintro e w5 ⟨rfl, hb5⟩
      have hb5 : Below w3.heap.size w3 w5 := hb4.trans (hb5.mono hb4.size)
      have hS5 : Blk w5 gp 29 p.arr := hS0.below hb5 hS0.lt
      refine hK.out _ _ (fun _ => hS5) ?_
      clear hK K
      try simp only [Act.put, List.setIfInBounds_toArray, List.set_cons_zero, List.set_cons_succ]
      refine' wpTail_one (i := 5) (o := _) (by kernel_rfl) ?ho5023 ?hw5023 (fun K hK => ?_)
      case ho5023 => (simp only [List.getElem?_toArray, List.getElem?_cons_succ, List.getElem?_cons_zero]; exact rfl)
      case hw5023 => rfl
      go_simp
      refine hK.out _ _ (fun _ => hS5) ?_
      clear hK K
      refine wpTail_done (by kernel_rfl) ?_ _
      try simp only [Act.put, List.setIfInBounds_toArray, List.set_cons_zero, List.set_cons_succ]
      clear hHeld
      have HBP5 := hide hS5
      have HB5 := hide (HB3.out.trans (hb5.mono HB3.out.size))
      have HRG5 := hide (rgood_any p hs code ns w5 (HOK3.out.below hb5 (Nat.le_refl _)) (by have := HSM.out.1; omega) HSM.out.2.2 HRG.out)
      rw [← HPV2.out, hgd] at HRG5
      clear hS0 hS4 hS5 hb4 hb5 hgd hbd
      go_wp2_with (first
    | (refine wpList_load_blk (.tmp 2) HBP5.out HPV.out Try.underlying29 rfl pr_size rfl rfl rfl ?_)
    | (refine wp_load_blk (.tmp 2) HBP5.out HPV.out Try.underlying29 rfl pr_size rfl rfl ?_))
      refine HRG5.out.mono ?_
      rintro e w6 ⟨rfl, hb6⟩
      have HF6 := hide (HB1.out.trans ((HB5.out.trans (hb6.mono HB5.out.size)).mono HB1.out.size))
      clear hb6
      go_wp2_with fail
      go_ret
      exact ⟨rfl, HF6.out⟩
    | true =>
      have HGD := hide hgd
      have HOF := hide (of_some p hs code ns w3.drew (HOK3.out.below hbd (Nat.le_refl _)) (by have := HSM.out.1; omega) HSM.out.2.2 hgd)
      rw [← HPV2.out] at HOF
      clear hgd
      go_upto_region 5 with (fail)
      refine wp_region_tail 99 (fun w' => Blk w' gp 29 p.arr) (by kernel_rfl) hS0 (fun hHeld => ?_)
      try simp only [Act.put, List.setIfInBounds_toArray, List.set_cons_zero, List.set_cons_succ]
      refine' wpTail_take (i := 0) (oi := _) ?hin5024 ?hsn5024 ?hfn5024 ?hrn5024 ?hzn5024 ?hQn5024 (v := PV) ?hyn5024 (by assumption) ?_
      case hin5024 => (simp only [List.getElem?_toArray, List.getElem?_cons_zero]; exact rfl)
      case hsn5024 => kernel_rfl
      case hfn5024 => kernel_rfl
      case hrn5024 => kernel_rfl
      case hzn5024 => kernel_rfl
      case hQn5024 => exact fun _ _ _ h => h
      case hyn5024 => (rw [HPVL.out]; exact yieldsIf_load_mid rfl 29 (.tmp 2) rfl gp 0 rfl p.arr.toList _ (fun W0 hSw j v hv => by rw [Nat.zero_add, Blk.cell hSw]; simpa using hv) Try.underlying29 rfl pr_size)
      try simp only [Act.put, List.setIfInBounds_toArray, List.set_cons_zero, List.set_cons_succ]
      refine' wpTail_take (i := 1) (oi := _) ?hin5025 ?hsn5025 ?hfn5025 ?hrn5025 ?hzn5025 ?hQn5025 (v := PV) ?hyn5025 (by assumption) ?_
      case hin5025 => (simp only [List.getElem?_toArray, List.getElem?_cons_succ, List.getElem?_cons_zero]; exact rfl)
      case hsn5025 => kernel_rfl
      case hfn5025 => kernel_rfl
      case hrn5025 => kernel_rfl
      case hzn5025 => kernel_rfl
      case hQn5025 => exact fun _ _ _ h => h
      case hyn5025 => (rw [HPVL.out]; exact yieldsIf_load_mid rfl 29 (.tmp 2) rfl gp 0 rfl p.arr.toList _ (fun W0 hSw j v hv => by rw [Nat.zero_add, Blk.cell hSw]; simpa using hv) Try.underlying29 rfl pr_size)
      try simp only [Act.put, List.setIfInBounds_toArray, List.set_cons_zero, List.set_cons_succ]
      refine' wpTail_take (i := 3) (oi := _) ?hi5026 ?hs5026 ?hf5026 ?hr5026 ?hz5026 ?hQ5026 (v := _) (Or.inl ⟨?hw5026, ?hy5026⟩) (by assumption) ?_
      case hi5026 => (simp only [List.getElem?_toArray, List.getElem?_cons_succ, List.getElem?_cons_zero]; exact rfl)
      case hs5026 => kernel_rfl
      case hf5026 => kernel_rfl
      case hr5026 => kernel_rfl
      case hz5026 => kernel_rfl
      case hQ5026 => exact fun _ _ _ h => h
      case hw5026 => rfl
      case hy5026 => (intro W0 hSw; (try dsimp only at hSw); go_simp; (try with_reducible rfl))
      try simp only [Act.put, List.setIfInBounds_toArray, List.set_cons_zero, List.set_cons_succ]
      refine' wpTail_one (i := 2) (o := _) (by kernel_rfl) ?ho5027 ?hw5027 (fun K hK => ?_)
      case ho5027 => (simp only [List.getElem?_toArray, List.getElem?_cons_succ, List.getElem?_cons_zero]; exact rfl)
      case hw5027 => rfl
      go_simp
      refine HOF.out.mono ?_
      rintro e w4 ⟨B, vb, va, vo, R, io, hB, rfl, hpath, hGR, hb4⟩
      have hb4 : Below w3.heap.size w3 w4 := hbd.trans hb4
      obtain ⟨Ab, cb, Aa, ca, Ao, co, kb, n, lo, o, rfl, rfl, rfl, hF⟩ := grf_of HGD.out (by have := HSM.out.1; omega) hB hpath hGR
      have hS4 : Blk w4 gp 29 p.arr := hS0.below hb4 hS0.lt
      have HCD := hide (codr_any p hs code ns B Ab Aa Ao cb ca co kb n lo R o nv (.slice An ln cn) w4 (HOK3.out.below hb4 (Nat.le_refl _)) hF HSM.out.2.2 (HNV3.out.below hb4 (Nat.le_refl _)))
      rw [← HPV2.out] at HCD
      have HBE := hide hB
      clear hpath hGR hF hB
      refine hK.out _ _ (fun _ => hS4) ?_
      clear hK K
      try simp only [Act.put, List.setIfInBounds_toArray, List.set_cons_zero, List.set_cons_succ]
      refine' wpTail_one (i := 4) (o := _) (by kernel_rfl) ?ho5028 ?hw5028 (fun K hK => ?_)
      case ho5028 => (simp only [List.getElem?_toArray, List.getElem?_cons_succ, List.getElem?_cons_zero]; exact rfl)
      case hw5028 => rfl
      go_simp
      refine HCD.out.mono ?_
      rintro e w5 ⟨gs, n5, f, rfl, hn5, hgs, hbl, hb5, hf⟩
      have hb5 : Below w3.heap.size w3 w5 := hb4.trans (hb5.mono hb4.size)
      have hS5 : Blk w5 gp 29 p.arr := hS0.below hb5 hS0.lt
      have HBL := hide hbl
      have HN5 := hide hn5
      have HFQ := hide hf
      clear hbl hn5 hf
      refine hK.out _ _ (fun _ => hS5) ?_
      clear hK K
      try simp only [Act.put, List.setIfInBounds_toArray, List.set_cons_zero, List.set_cons_succ]
      refine' wpTail_one (i := 5) (o := _) (by kernel_rfl) ?ho5029 ?hw5029 (fun K hK => ?_)
      case ho5029 => (simp only [List.getElem?_toArray, List.getElem?_cons_succ, List.getElem?_cons_zero]; exact rfl)
      case hw5029 => rfl
      go_simp
      refine hK.out _ _ (fun _ => hS5) ?_
      clear hK K
      refine wpTail_done (by kernel_rfl) ?_ _
      try simp only [Act.put, List.setIfInBounds_toArray, List.set_cons_zero, List.set_cons_succ]
      clear hHeld
      have HBP5 := hide hS5
      have HB5 := hide (HB3.out.trans (hb5.mono HB3.out.size))
      have HRG5 := hide (rgood_any p hs code ns w5 (HOK3.out.below hb5 (Nat.le_refl _)) (by have := HSM.out.1; omega) HSM.out.2.2 HRG.out)
      rw [← HPV2.out, HGD.out] at HRG5
      clear hS0 hS4 hS5 hb4 hb5 hbd hgs
      go_wp2_with (first
    | (refine wpList_load_blk (.tmp 2) HBP5.out HPV.out Try.underlying29 rfl pr_size rfl rfl rfl ?_)
    | (refine wp_load_blk (.tmp 2) HBP5.out HPV.out Try.underlying29 rfl pr_size rfl rfl ?_))
      refine HRG5.out.mono ?_
      rintro e w6 ⟨rfl, hb6⟩
      have HB6 := hide (HB5.out.trans (hb6.mono HB5.out.size))
      have HBL6 := hide (HBL.out.below hb6 HBL.out.lt)
      clear hb6
      have HBP6 := hide (HBP.out.below HB6.out HBP.out.lt)
      have HOKW := hide (show ∀ W, Below w6.heap.size w6 W → PrOk W p hs code ns from fun W hW => (HOK.out.below HB6.out (Nat.le_refl _)).below hW (Nat.le_refl _))
      have HNVW := hide (show ∀ W, Below w6.heap.size w6 W → BoolsAt W (.slice An ln cn) nv from fun W hW => (HNV.out.below HB6.out (Nat.le_refl _)).below hW (Nat.le_refl _))
      obtain ⟨fl, hfl⟩ : ∃ fl, fl = (List.range n5).map f := ⟨_, rfl⟩
      have HFLW := hide (show ∀ W, Below w6.heap.size w6 W → BoolsAt W (.slice (some ⟨gs, 0, none⟩) n5 n5) fl from fun W hW => by rw [hfl]; exact bools_bc (HBL6.out.below hW HBL6.out.lt))
      have HFLL := hide (show fl.length ≤ 1000000 by rw [hfl, List.length_map, List.length_range, HN5.out]; have := HSM.out.1; omega)
      have HSTL := hide (show ∀ rl, (stmtsL code ns rl ns).length ≤ 1000000 from fun rl => by
        have h := stmtsL_le code ns rl ns
        have := HSM.out.2.1
        omega)
      have HRC := hide (fun W (hW : Below w6.heap.size w6 W) => rcode_any p hs code ns (.slice An ln cn) nv W (HOKW.out W hW) HSM.out.2.2 (by have := HSM.out.1; omega) (good_pos HGD.out) (good_ins HGD.out) (fun q x hx => edge_in HGD.out hx) (HNVW.out W hW))
      have HS1 := hide (fun W (hW : Below w6.heap.size w6 W) => stmts_any p hs code ns fl (.slice (some ⟨gs, 0, none⟩) n5 n5) W (HOKW.out W hW) (by have := HSM.out.1; omega) (by have := HSM.out.2.1; omega) (HFLW.out W hW))
      have HR1 := hide (fun W (hW : Below w6.heap.size w6 W) => rstmts_any p hs code ns fl (.slice (some ⟨gs, 0, none⟩) n5 n5) W (HOKW.out W hW) (by have := HSM.out.1; omega) (by have := HSM.out.2.1; omega) (HFLW.out W hW))
      have HS2 := hide (fun W (hW : Below w6.heap.size w6 W) => stmts_any p hs code ns nv (.slice An ln cn) W (HOKW.out W hW) (by have := HSM.out.1; omega) (by have := HSM.out.2.1; omega) (HNVW.out W hW))
      have HR2 := hide (fun W (hW : Below w6.heap.size w6 W) => rstmts_any p hs code ns nv (.slice An ln cn) W (HOKW.out W hW) (by have := HSM.out.1; omega) (by have := HSM.out.2.1; omega) (HNVW.out W hW))
      rw [← HPV2.out] at HRC HS1 HR1 HS2 HR2
      have HFLE := hide hfl
      have hS6 : Blk w6 gp 29 p.arr := HBP6.out
      have hbd : Below w6.heap.size w6 w6.drew := (Below.refl _ _).drew
      have HGPL := hide hS6.lt
      clear hfl
      go_upto_region 8 with (fail)
      refine wp_region_tail 99 (fun w' => Blk w' gp 29 p.arr) (by kernel_rfl) hS6 (fun hHeld => ?_)
      try simp only [Act.put, List.setIfInBounds_toArray, List.set_cons_zero, List.set_cons_succ]
      refine' wpTail_take (i := 0) (oi := _) ?hi5030 ?hs5030 ?hf5030 ?hr5030 ?hz5030 ?hQ5030 (v := _) (Or.inl ⟨?hw5030, ?hy5030⟩) (by assumption) ?_
      case hi5030 => (simp only [List.getElem?_toArray, List.getElem?_cons_zero]; exact rfl)
      case hs5030 => kernel_rfl
      case hf5030 => kernel_rfl
      case hr5030 => kernel_rfl
      case hz5030 => kernel_rfl
      case hQ5030 => exact fun _ _ _ h => h
      case hw5030 => rfl
      case hy5030 => (intro W0 hSw; (try dsimp only at hSw); go_simp; (try with_reducible rfl))
      try simp only [Act.put, List.setIfInBounds_toArray, List.set_cons_zero, List.set_cons_succ]
      refine' wpTail_take (i := 1) (oi := _) ?hin5031 ?hsn5031 ?hfn5031 ?hrn5031 ?hzn5031 ?hQn5031 (v := PV) ?hyn5031 (by assumption) ?_
      case hin5031 => (simp only [List.getElem?_toArray, List.getElem?_cons_succ, List.getElem?_cons_zero]; exact rfl)
      case hsn5031 => kernel_rfl
      case hfn5031 => kernel_rfl
      case hrn5031 => kernel_rfl
      case hzn5031 => kernel_rfl
      case hQn5031 => exact fun _ _ _ h => h
      case hyn5031 => (rw [HPVL.out]; exact yieldsIf_load_mid rfl 29 (.tmp 2) rfl gp 0 rfl p.arr.toList _ (fun W0 hSw j v hv => by rw [Nat.zero_add, Blk.cell hSw]; simpa using hv) Try.underlying29 rfl pr_size)
      try simp only [Act.put, List.setIfInBounds_toArray, List.set_cons_zero, List.set_cons_succ]
      refine' wpTail_take (i := 2) (oi := _) ?hi5032 ?hs5032 ?hf5032 ?hr5032 ?hz5032 ?hQ5032 (v := _) (Or.inl ⟨?hw5032, ?hy5032⟩) (by assumption) ?_
      case hi5032 => (simp only [List.getElem?_toArray, List.getElem?_cons_succ, List.getElem?_cons_zero]; exact rfl)
      case hs5032 => kernel_rfl
      case hf5032 => kernel_rfl
      case hr5032 => kernel_rfl
      case hz5032 => kernel_rfl
      case hQ5032 => exact fun _ _ _ h => h
      case hw5032 => rfl
      case hy5032 => (intro W0 hSw; (try dsimp only at hSw); go_simp; (try with_reducible rfl))
      try simp only [Act.put, List.setIfInBounds_toArray, List.set_cons_zero, List.set_cons_succ]
      refine' wpTail_one (i := 3) (o := _) (by kernel_rfl) ?ho5033 ?hw5033 (fun K hK => ?_)
      case ho5033 => (simp only [List.getElem?_toArray, List.getElem?_cons_succ, List.getElem?_cons_zero]; exact rfl)
      case hw5033 => rfl
      go_simp
      (with_reducible refine (HRC.out w6.drew hbd).mono ?_)
      rintro e w7 ⟨gr, n7, fr, rfl, hn7, hgr, hbr, hb7, hfr⟩
      have hd7 : Below w6.heap.size w6 w7 := hbd.trans (hb7.mono hbd.size)
      have hS7 : Blk w7 gp 29 p.arr := hS6.below hd7 HGPL.out
      obtain rfl : n5 = n7 := by rw [HN5.out, hn7]
      clear hn7
      have hbe : BoolsAt w7 (.slice (some ⟨gr, 0, none⟩) n5 n5) fl := by
        have h := bools_bc hbr
        have e : (List.range n5).map fr = fl := by
          rw [HFLE.out]
          refine List.map_congr_left (fun q hq => ?_)
          have hq2 := List.mem_range.1 hq
          have h1 := hfr q hq2
          have h2 := HFQ.out q hq2
          rw [HBE.out] at h2
          rw [Bool.eq_iff_iff, h1, h2]
        rw [e] at h
        exact h
      clear hfr hbr hgr
      refine hK.out _ _ (fun _ => hS7) ?_
      clear hK K
      try simp only [Act.put, List.setIfInBounds_toArray, List.set_cons_zero, List.set_cons_succ]
      refine' wpTail_one (i := 4) (o := _) (by kernel_rfl) ?ho5034 ?hw5034 (fun K hK => ?_)
      case ho5034 => (simp only [List.getElem?_toArray, List.getElem?_cons_succ, List.getElem?_cons_zero]; exact rfl)
      case hw5034 => rfl
      go_simp
      (with_reducible refine (bools_same fl _ _ w7 (HFLW.out w7 hd7) hbe HFLL.out).mono ?_)
      rintro e w8 ⟨rfl, hb8⟩
      have hd8 : Below w6.heap.size w6 w8 := hd7.trans (hb8.mono hd7.size)
      have hS8 : Blk w8 gp 29 p.arr := hS6.below hd8 HGPL.out
      refine hK.out _ _ (fun _ => hS8) ?_
      clear hK K
      try simp only [Act.put, List.setIfInBounds_toArray, List.set_cons_zero, List.set_cons_succ]
      refine' wpTail_take (i := 5) (oi := _) ?hi5035 ?hs5035 ?hf5035 ?hr5035 ?hz5035 ?hQ5035 (v := _) (Or.inl ⟨?hw5035, ?hy5035⟩) (by assumption) ?_
      case hi5035 => (simp only [List.getElem?_toArray, List.getElem?_cons_succ, List.getElem?_cons_zero]; exact rfl)
      case hs5035 => kernel_rfl
      case hf5035 => kernel_rfl
      case hr5035 => kernel_rfl
      case hz5035 => kernel_rfl
      case hQ5035 => exact fun _ _ _ h => h
      case hw5035 => rfl
      case hy5035 => (intro W0 hSw; (try dsimp only at hSw); go_simp; (try with_reducible rfl))
      try simp only [Act.put, List.setIfInBounds_toArray, List.set_cons_zero, List.set_cons_succ]
      refine' wpTail_take (i := 6) (oi := _) ?hin5036 ?hsn5036 ?hfn5036 ?hrn5036 ?hzn5036 ?hQn5036 (v := PV) ?hyn5036 (by assumption) ?_
      case hin5036 => (simp only [List.getElem?_toArray, List.getElem?_cons_succ, List.getElem?_cons_zero]; exact rfl)
      case hsn5036 => kernel_rfl
      case hfn5036 => kernel_rfl
      case hrn5036 => kernel_rfl
      case hzn5036 => kernel_rfl
      case hQn5036 => exact fun _ _ _ h => h
      case hyn5036 => (rw [HPVL.out]; exact yieldsIf_load_mid rfl 29 (.tmp 2) rfl gp 0 rfl p.arr.toList _ (fun W0 hSw j v hv => by rw [Nat.zero_add, Blk.cell hSw]; simpa using hv) Try.underlying29 rfl pr_size)
      try simp only [Act.put, List.setIfInBounds_toArray, List.set_cons_zero, List.set_cons_succ]
      refine' wpTail_take (i := 7) (oi := _) ?hi5037 ?hs5037 ?hf5037 ?hr5037 ?hz5037 ?hQ5037 (v := _) (Or.inl ⟨?hw5037, ?hy5037⟩) (by assumption) ?_
      case hi5037 => (simp only [List.getElem?_toArray, List.getElem?_cons_succ, List.getElem?_cons_zero]; exact rfl)
      case hs5037 => kernel_rfl
      case hf5037 => kernel_rfl
      case hr5037 => kernel_rfl
      case hz5037 => kernel_rfl
      case hQ5037 => exact fun _ _ _ h => h
      case hw5037 => rfl
      case hy5037 => (intro W0 hSw; (try dsimp only at hSw); go_simp; (try with_reducible rfl))
      try simp only [Act.put, List.setIfInBounds_toArray, List.set_cons_zero, List.set_cons_succ]
      refine' wpTail_take (i := 9) (oi := _) ?hin5038 ?hsn5038 ?hfn5038 ?hrn5038 ?hzn5038 ?hQn5038 (v := PV) ?hyn5038 (by assumption) ?_
      case hin5038 => (simp only [List.getElem?_toArray, List.getElem?_cons_succ, List.getElem?_cons_zero]; exact rfl)
      case hsn5038 => kernel_rfl
      case hfn5038 => kernel_rfl
      case hrn5038 => kernel_rfl
      case hzn5038 => kernel_rfl
      case hQn5038 => exact fun _ _ _ h => h
      case hyn5038 => (rw [HPVL.out]; exact yieldsIf_load_mid rfl 29 (.tmp 2) rfl gp 0 rfl p.arr.toList _ (fun W0 hSw j v hv => by rw [Nat.zero_add, Blk.cell hSw]; simpa using hv) Try.underlying29 rfl pr_size)
      try simp only [Act.put, List.setIfInBounds_toArray, List.set_cons_zero, List.set_cons_succ]
      refine' wpTail_take (i := 10) (oi := _) ?hi5039 ?hs5039 ?hf5039 ?hr5039 ?hz5039 ?hQ5039 (v := _) (Or.inl ⟨?hw5039, ?hy5039⟩) (by assumption) ?_
      case hi5039 => (simp only [List.getElem?_toArray, List.getElem?_cons_succ, List.getElem?_cons_zero]; exact rfl)
      case hs5039 => kernel_rfl
      case hf5039 => kernel_rfl
      case hr5039 => kernel_rfl
      case hz5039 => kernel_rfl
      case hQ5039 => exact fun _ _ _ h => h
      case hw5039 => rfl
      case hy5039 => (intro W0 hSw; (try dsimp only at hSw); go_simp; (try with_reducible rfl))
      try simp only [Act.put, List.setIfInBounds_toArray, List.set_cons_zero, List.set_cons_succ]
      refine' wpTail_one (i := 8) (o := _) (by kernel_rfl) ?ho5040 ?hw5040 (fun K hK => ?_)
      case ho5040 => (simp only [List.getElem?_toArray, List.getElem?_cons_succ, List.getElem?_cons_zero]; exact rfl)
      case hw5040 => rfl
      go_simp
      (with_reducible refine (HS1.out w8 hd8).mono ?_)
      rintro e w9 ⟨v9, rfl, hown9, hb9⟩
      have hd9 : Below w6.heap.size w6 w9 := hd8.trans (hb9.mono hd8.size)
      have hS9 : Blk w9 gp 29 p.arr := hS6.below hd9 HGPL.out
      obtain ⟨A9, c9, rfl⟩ := own_formT hown9
      refine hK.out _ _ (fun _ => hS9) ?_
      clear hK K
      try simp only [Act.put, List.setIfInBounds_toArray, List.set_cons_zero, List.set_cons_succ]
      refine' wpTail_one (i := 11) (o := _) (by kernel_rfl) ?ho5041 ?hw5041 (fun K hK => ?_)
      case ho5041 => (simp only [List.getElem?_toArray, List.getElem?_cons_succ, List.getElem?_cons_zero]; exact rfl)
      case hw5041 => rfl
      go_simp
      (with_reducible refine (HR1.out w9 hd9).mono ?_)
      rintro e wa ⟨va, rfl, howna, hb10⟩
      have hd10 : Below w6.heap.size w6 wa := hd9.trans (hb10.mono hd9.size)
      have hS10 : Blk wa gp 29 p.arr := hS6.below hd10 HGPL.out
      obtain ⟨Aa1, ca1, rfl⟩ := own_formT howna
      have hi9 := (IntsAt.own hown9).below hb10 (Nat.le_refl _)
      have hia := IntsAt.own howna
      refine hK.out _ _ (fun _ => hS10) ?_
      clear hK K
      try simp only [Act.put, List.setIfInBounds_toArray, List.set_cons_zero, List.set_cons_succ]
      refine' wpTail_one (i := 12) (o := _) (by kernel_rfl) ?ho5042 ?hw5042 (fun K hK => ?_)
      case ho5042 => (simp only [List.getElem?_toArray, List.getElem?_cons_succ, List.getElem?_cons_zero]; exact rfl)
      case hw5042 => rfl
      go_simp
      (with_reducible refine (ints_same (stmtsL code ns fl ns) _ _ wa hi9 hia (HSTL.out fl)).mono ?_)
      rintro e wb ⟨rfl, hb11⟩
      have hd11 : Below w6.heap.size w6 wb := hd10.trans (hb11.mono hd10.size)
      have hS11 : Blk wb gp 29 p.arr := hS6.below hd11 HGPL.out
      refine hK.out _ _ (fun _ => hS11) ?_
      clear hK K
      try simp only [Act.put, List.setIfInBounds_toArray, List.set_cons_zero, List.set_cons_succ]
      refine' wpTail_take (i := 13) (oi := _) ?hi5043 ?hs5043 ?hf5043 ?hr5043 ?hz5043 ?hQ5043 (v := _) (Or.inl ⟨?hw5043, ?hy5043⟩) (by assumption) ?_
      case hi5043 => (simp only [List.getElem?_toArray, List.getElem?_cons_succ, List.getElem?_cons_zero]; exact rfl)
      case hs5043 => kernel_rfl
      case hf5043 => kernel_rfl
      case hr5043 => kernel_rfl
      case hz5043 => kernel_rfl
      case hQ5043 => exact fun _ _ _ h => h
      case hw5043 => rfl
      case hy5043 => (intro W0 hSw; (try dsimp only at hSw); go_simp; (try with_reducible rfl))
      try simp only [Act.put, List.setIfInBounds_toArray, List.set_cons_zero, List.set_cons_succ]
      refine' wpTail_take (i := 14) (oi := _) ?hi5044 ?hs5044 ?hf5044 ?hr5044 ?hz5044 ?hQ5044 (v := _) (Or.inl ⟨?hw5044, ?hy5044⟩) (by assumption) ?_
      case hi5044 => (simp only [List.getElem?_toArray, List.getElem?_cons_succ, List.getElem?_cons_zero]; exact rfl)
      case hs5044 => kernel_rfl
      case hf5044 => kernel_rfl
      case hr5044 => kernel_rfl
      case hz5044 => kernel_rfl
      case hQ5044 => exact fun _ _ _ h => h
      case hw5044 => rfl
      case hy5044 => (intro W0 hSw; (try dsimp only at hSw); go_simp; (try with_reducible rfl))
      try simp only [Act.put, List.setIfInBounds_toArray, List.set_cons_zero, List.set_cons_succ]
      refine' wpTail_take (i := 15) (oi := _) ?hin5045 ?hsn5045 ?hfn5045 ?hrn5045 ?hzn5045 ?hQn5045 (v := PV) ?hyn5045 (by assumption) ?_
      case hin5045 => (simp only [List.getElem?_toArray, List.getElem?_cons_succ, List.getElem?_cons_zero]; exact rfl)
      case hsn5045 => kernel_rfl
      case hfn5045 => kernel_rfl
      case hrn5045 => kernel_rfl
      case hzn5045 => kernel_rfl
      case hQn5045 => exact fun _ _ _ h => h
      case hyn5045 => (rw [HPVL.out]; exact yieldsIf_load_mid rfl 29 (.tmp 2) rfl gp 0 rfl p.arr.toList _ (fun W0 hSw j v hv => by rw [Nat.zero_add, Blk.cell hSw]; simpa using hv) Try.underlying29 rfl pr_size)
      try simp only [Act.put, List.setIfInBounds_toArray, List.set_cons_zero, List.set_cons_succ]
      refine' wpTail_take (i := 16) (oi := _) ?hi5046 ?hs5046 ?hf5046 ?hr5046 ?hz5046 ?hQ5046 (v := _) (Or.inl ⟨?hw5046, ?hy5046⟩) (by assumption) ?_
      case hi5046 => (simp only [List.getElem?_toArray, List.getElem?_cons_succ, List.getElem?_cons_zero]; exact rfl)
      case hs5046 => kernel_rfl
      case hf5046 => kernel_rfl
      case hr5046 => kernel_rfl
      case hz5046 => kernel_rfl
      case hQ5046 => exact fun _ _ _ h => h
      case hw5046 => rfl
      case hy5046 => (intro W0 hSw; (try dsimp only at hSw); go_simp; (try with_reducible rfl))
      try simp only [Act.put, List.setIfInBounds_toArray, List.set_cons_zero, List.set_cons_succ]
      refine' wpTail_take (i := 18) (oi := _) ?hin5047 ?hsn5047 ?hfn5047 ?hrn5047 ?hzn5047 ?hQn5047 (v := PV) ?hyn5047 (by assumption) ?_
      case hin5047 => (simp only [List.getElem?_toArray, List.getElem?_cons_succ, List.getElem?_cons_zero]; exact rfl)
      case hsn5047 => kernel_rfl
      case hfn5047 => kernel_rfl
      case hrn5047 => kernel_rfl
      case hzn5047 => kernel_rfl
      case hQn5047 => exact fun _ _ _ h => h
      case hyn5047 => (rw [HPVL.out]; exact yieldsIf_load_mid rfl 29 (.tmp 2) rfl gp 0 rfl p.arr.toList _ (fun W0 hSw j v hv => by rw [Nat.zero_add, Blk.cell hSw]; simpa using hv) Try.underlying29 rfl pr_size)
      try simp only [Act.put, List.setIfInBounds_toArray, List.set_cons_zero, List.set_cons_succ]
      refine' wpTail_take (i := 19) (oi := _) ?hi5048 ?hs5048 ?hf5048 ?hr5048 ?hz5048 ?hQ5048 (v := _) (Or.inl ⟨?hw5048, ?hy5048⟩) (by assumption) ?_
      case hi5048 => (simp only [List.getElem?_toArray, List.getElem?_cons_succ, List.getElem?_cons_zero]; exact rfl)
      case hs5048 => kernel_rfl
      case hf5048 => kernel_rfl
      case hr5048 => kernel_rfl
      case hz5048 => kernel_rfl
      case hQ5048 => exact fun _ _ _ h => h
      case hw5048 => rfl
      case hy5048 => (intro W0 hSw; (try dsimp only at hSw); go_simp; (try with_reducible rfl))
      try simp only [Act.put, List.setIfInBounds_toArray, List.set_cons_zero, List.set_cons_succ]
      refine' wpTail_one (i := 17) (o := _) (by kernel_rfl) ?ho5049 ?hw5049 (fun K hK => ?_)
      case ho5049 => (simp only [List.getElem?_toArray, List.getElem?_cons_succ, List.getElem?_cons_zero]; exact rfl)
      case hw5049 => rfl
      go_simp
      (with_reducible refine (HS2.out wb hd11).mono ?_)
      rintro e wd ⟨vd, rfl, hownd, hb12⟩
      have hd12 : Below w6.heap.size w6 wd := hd11.trans (hb12.mono hd11.size)
      have hS12 : Blk wd gp 29 p.arr := hS6.below hd12 HGPL.out
      obtain ⟨Ad, cd, rfl⟩ := own_formT hownd
      refine hK.out _ _ (fun _ => hS12) ?_
      clear hK K
      try simp only [Act.put, List.setIfInBounds_toArray, List.set_cons_zero, List.set_cons_succ]
      refine' wpTail_one (i := 20) (o := _) (by kernel_rfl) ?ho5050 ?hw5050 (fun K hK => ?_)
      case ho5050 => (simp only [List.getElem?_toArray, List.getElem?_cons_succ, List.getElem?_cons_zero]; exact rfl)
      case hw5050 => rfl
      go_simp
      (with_reducible refine (HR2.out wd hd12).mono ?_)
      rintro e we ⟨ve, rfl, howne, hb13⟩
      have hd13 : Below w6.heap.size w6 we := hd12.trans (hb13.mono hd12.size)
      have hS13 : Blk we gp 29 p.arr := hS6.below hd13 HGPL.out
      obtain ⟨Ae, ce, rfl⟩ := own_formT howne
      have hid := (IntsAt.own hownd).below hb13 (Nat.le_refl _)
      have hie := IntsAt.own howne
      refine hK.out _ _ (fun _ => hS13) ?_
      clear hK K
      try simp only [Act.put, List.setIfInBounds_toArray, List.set_cons_zero, List.set_cons_succ]
      refine' wpTail_one (i := 21) (o := _) (by kernel_rfl) ?ho5051 ?hw5051 (fun K hK => ?_)
      case ho5051 => (simp only [List.getElem?_toArray, List.getElem?_cons_succ, List.getElem?_cons_zero]; exact rfl)
      case hw5051 => rfl
      go_simp
      (with_reducible refine (ints_same (stmtsL code ns nv ns) _ _ we hid hie (HSTL.out nv)).mono ?_)
      rintro e wf ⟨rfl, hb14⟩
      have hd14 : Below w6.heap.size w6 wf := hd13.trans (hb14.mono hd13.size)
      have hS14 : Blk wf gp 29 p.arr := hS6.below hd14 HGPL.out
      refine hK.out _ _ (fun _ => hS14) ?_
      clear hK K
      try simp only [Act.put, List.setIfInBounds_toArray, List.set_cons_zero, List.set_cons_succ]
      refine' wpTail_take (i := 22) (oi := _) ?hi5052 ?hs5052 ?hf5052 ?hr5052 ?hz5052 ?hQ5052 (v := _) (Or.inl ⟨?hw5052, ?hy5052⟩) (by assumption) ?_
      case hi5052 => (simp only [List.getElem?_toArray, List.getElem?_cons_succ, List.getElem?_cons_zero]; exact rfl)
      case hs5052 => kernel_rfl
      case hf5052 => kernel_rfl
      case hr5052 => kernel_rfl
      case hz5052 => kernel_rfl
      case hQ5052 => exact fun _ _ _ h => h
      case hw5052 => rfl
      case hy5052 => (intro W0 hSw; (try dsimp only at hSw); go_simp; (try with_reducible rfl))
      try simp only [Act.put, List.setIfInBounds_toArray, List.set_cons_zero, List.set_cons_succ]
      refine' wpTail_one (i := 23) (o := _) (by kernel_rfl) ?ho5053 ?hw5053 (fun K hK => ?_)
      case ho5053 => (simp only [List.getElem?_toArray, List.getElem?_cons_succ, List.getElem?_cons_zero]; exact rfl)
      case hw5053 => rfl
      go_simp
      refine hK.out _ _ (fun _ => hS14) ?_
      clear hK K
      refine wpTail_done (by kernel_rfl) ?_ _
      try simp only [Act.put, List.setIfInBounds_toArray, List.set_cons_zero, List.set_cons_succ]
      clear hHeld
      have HF9 := hide (HB1.out.trans ((HB6.out.trans (hd14.mono HB6.out.size)).mono HB1.out.size))
      go_wp2_with fail
      go_ret
      exact ⟨rfl, HF9.out⟩
end Go.Proofs.Ytaaadbaakhjkcaa
