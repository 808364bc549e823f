/- The statements to which code doesn't come (reach.Stmts); conditions: the func and the row are in memory. -/
import Derived.Test.YtaaadbaakhjkcaaRcE
namespace Go.Proofs.Ytaaadbaakhjkcaa
open Go.RowKit Go.WideShapes Go.ChangeShapes
set_option linter.unusedVariables false
set_option linter.unusedSimpArgs false
set_option maxRecDepth 100000

/-- Whether an instruction counts for its statement. -/
def stV (i : Ins) (ns : Nat) : Bool := !(decide (i.st < 0)) && (!(decide ((ns : Int) ≤ i.st)) && (!(decide (i.op = 40)) && !(decide (i.op = 41))))
/-- 1: a statement has an instruction; 2: code comes to one. -/
def seenS (code : List IV) (ns : Nat) (rl : List Bool) : Nat → (Nat → Nat)
  | 0 => fun _ => 0
  | j + 1 => match code[j]? with
    | none => seenS code ns rl j
    | some x => if stV x.i ns = true then upd (seenS code ns rl j) x.i.st.toNat (if inB rl (j : Int) = true then 2 else max (seenS code ns rl j x.i.st.toNat) 1) else seenS code ns rl j
def stmtsL (code : List IV) (ns : Nat) (rl : List Bool) (k : Nat) : List Int := ((List.range k).filter (fun q => seenS code ns rl code.length q == 1)).map (fun q : Nat => (q : Int))
theorem stmtsL_succ (code : List IV) (ns : Nat) (rl : List Bool) (k : Nat) : stmtsL code ns rl (k + 1) = stmtsL code ns rl k ++ (if seenS code ns rl code.length k = 1 then [(k : Int)] else []) := by
  unfold stmtsL
  rw [List.range_succ, List.filter_append, List.map_append]
  congr 1
  by_cases h : seenS code ns rl code.length k = 1
  · rw [if_pos h]
    simp [h]
  · rw [if_neg h]
    simp [h]
theorem stmtsL_le (code : List IV) (ns : Nat) (rl : List Bool) (k : Nat) : (stmtsL code ns rl k).length ≤ k := by
  unfold stmtsL
  rw [List.length_map]
  have := List.length_filter_le (fun q => seenS code ns rl code.length q == 1) (List.range k)
  rw [List.length_range] at this
  exact this
theorem seenS_no {code : List IV} {ns : Nat} {rl : List Bool} {j : Nat} {x : IV} (hx : code[j]? = some x) (h : stV x.i ns = false) : seenS code ns rl (j + 1) = seenS code ns rl j := by
  rw [seenS, hx]
  show (if stV x.i ns = true then _ else _) = _
  rw [if_neg (by rw [h]; decide)]
theorem seenS_yes {code : List IV} {ns : Nat} {rl : List Bool} {j sn : Nat} {x : IV} (hx : code[j]? = some x) (h : stV x.i ns = true) (hs : x.i.st = (sn : Int)) : seenS code ns rl (j + 1) = upd (seenS code ns rl j) sn (if inB rl (j : Int) = true then 2 else max (seenS code ns rl j sn) 1) := by
  rw [seenS, hx]
  show (if stV x.i ns = true then upd _ x.i.st.toNat (if _ then 2 else max (seenS code ns rl j x.i.st.toNat) 1) else _) = _
  rw [if_pos h, hs, Int.toNat_natCast]
set_option maxHeartbeats 16000000 in
theorem stmts_any (p : Pr) (hs : List Bool) (code : List IV) (ns : Nat) (rl : List Bool) (rv : Value) (w : World) (h : PrOk w p hs code ns) (hn : code.length ≤ 1000) (hns : ns ≤ 1000) (hr : BoolsAt w rv rl) :
    Calls Try.prog 23 #[p.val, rv] w (RowP w (stmtsL code ns rl ns)) := by
  obtain ⟨i0, hi0, hz0, hz1, hz2⟩ := info_parts intInfoT
  obtain ⟨gp, hgp⟩ : ∃ gp, gp = w.heap.size := ⟨_, rfl⟩
  obtain ⟨W1, hW1⟩ : ∃ W1, W1 = w.alloc (.cells p.arr 29) := ⟨_, rfl⟩
  have hb1 : Below w.heap.size w W1 := by rw [hW1]; exact (Below.refl _ _).alloc (Nat.le_refl _) _
  have HBP := hide (show Blk W1 gp 29 p.arr by rw [hW1, hgp]; exact Blk.new _ _ _)
  have HOK := hide (h.below hb1 (Nat.le_refl _))
  have HRL := hide (show BoolsAt W1 rv rl from hr.below hb1 (Nat.le_refl _))
  obtain ⟨Ac, cc, hcv⟩ := h.cv.form
  obtain ⟨As, cs, hsv⟩ := h.sv
  obtain ⟨n, hnn⟩ : ∃ n, n = code.length := ⟨_, rfl⟩
  rw [← hnn] at hcv
  have HCV := hide (show InssAt W1 (.slice Ac n cc) code by
    have h := HOK.out.cv
    rw [hcv] at h
    exact h)
  have y8 : W1.cell? ⟨gp, 8, none⟩ = some (.slice As ns cs) := by rw [← hsv]; exact HBP.out.cell 8
  have HY6 := hide (show ∀ wr, Below W1.heap.size W1 wr → wr.cell? ⟨gp, 6, none⟩ = some (.slice Ac n cc) from fun wr hw => by
    rw [← hcv]
    exact (HBP.out.below hw HBP.out.lt).cell 6)
  have HN := hide (show n = code.length ∧ n ≤ 1000 ∧ ns ≤ 1000 from ⟨hnn, by omega, hns⟩)
  have hmk := make_ints ns (by omega)
  obtain ⟨Z, hZ⟩ : ∃ Z, Z = ic ns (fun _ => 0) := ⟨_, rfl⟩
  rw [← hZ] at hmk
  obtain ⟨gt, hgt⟩ : ∃ gt, gt = W1.heap.size := ⟨_, rfl⟩
  obtain ⟨W2, hW2⟩ : ∃ W2, W2 = W1.alloc (.cells Z 3) := ⟨_, rfl⟩
  have HBT := hide (show Blk W2 gt 3 (ic ns (seenS code ns rl 0)) by rw [hW2, hgt, hZ]; exact Blk.new _ _ _)
  have HB2 := hide (show Below W1.heap.size W1 W2 by rw [hW2]; exact (Below.refl _ _).alloc (Nat.le_refl _) _)
  have HB1 := hide hb1
  have HW1 := hide hW1
  have HGP := hide hgp
  have HGT := hide hgt
  have HW2 := hide hW2
  clear h hn hns hr hb1 hW1 hgp hcv hsv hnn hZ hgt hW2
  go_enter Try.func23, Try.ntmps23
  go_upto_region 1 with (fail)
  rw [← HW1.out, ← HGP.out]
  go_upto_region 2 with (fail)
  rw [← HGT.out, ← HW2.out]
  clear y8 hmk
  have y6 := HY6.out W2 HB2.out
  go_upto_region 3 with (fail)
  clear y6
  go_loopw [18] (fun jj wr => ∃ j : Nat, j ≤ n ∧ jj = .int .i64 (j : Int) ∧ Hid (Blk wr gt 3 (ic ns (seenS code ns rl j))) ∧ Hid (Below W1.heap.size W1 wr)) (fun jj _ => n - (intOf jj).toNat)
  case atStart => exact ⟨0, Nat.zero_le _, rfl, HBT, HB2⟩
  case round =>
    clear HBT HB2
    obtain ⟨j, hj, rfl, HT, HWR⟩ := hrel
    by_cases hlt : j < n
    · have j1 : (j : Int) < (n : Int) := by omega
      have j2 : (0 : Int) ≤ (j : Int) := by omega
      have q5 : IntKind.i64.wrap ((j : Int) + 1) = ((j + 1 : Nat) : Int) := by rw [show (j : Int) + 1 = ((j + 1 : Nat) : Int) by omega]; exact IntWalk.i64_in _ (by have := HN.out; omega)
      obtain ⟨jn, hjn⟩ : ∃ jn, jn = j + 1 := ⟨_, rfl⟩
      rw [← hjn] at q5
      have HJN := hide hjn
      obtain ⟨b, of, x, hAc, hbl, hx, hcells⟩ := RowAt.at_ (HCV.out.below HWR.out (Nat.le_refl _)) (i := j) (by have := HN.out.1; omega)
      subst hAc
      have hix := (HOK.out.ok x (List.mem_of_getElem? hx)).below HWR.out (Nat.le_refl _)
      have HX := hide hx
      have HCE := hide (show wr.rangeAt b (of + j * 22) (IV.enc x) from hcells)
      obtain ⟨V, hV⟩ : ∃ V, V = Ins.val x.i x.av x.rv := ⟨_, rfl⟩
      have HVI := hide hV
      obtain ⟨gi, hgi⟩ : ∃ gi, gi = wr.heap.size := ⟨_, rfl⟩
      have HGI := hide hgi
      have HON := hide (ins_one hix)
      have HLT := hide hlt
      clear hx hcells hV hgi hix hbl hjn hlt
      go_upto_region 5 with (first
        | (refine wpList_load_midW 45 (.tmp 21) b (of + j * 22) (IV.enc x) V HCE.out HVI.out Try.underlying45 rfl ins_size rfl (by kernel_rfl) rfl ?_)
        | (refine wpList_store_new 45 (.tmp 7) (.tmp 22) (x.i.arr x.av x.rv) V HVI.out ins_size HON.out rfl rfl rfl rfl rfl rfl ?_
           intro W3 hbg hb3
           rw [← HGI.out] at hbg
           have HBI := hide hbg
           have HB3 := hide hb3
           clear hbg hb3))
      rw [← HGI.out]
      have HW3 := hide (HWR.out.trans (HB3.out.mono HWR.out.size))
      have HT3 := hide (HT.out.below HB3.out HT.out.lt)
      obtain ⟨fs, hfs⟩ : ∃ fs, fs = x.i.st := ⟨_, rfl⟩
      obtain ⟨fo, hfo⟩ : ∃ fo, fo = x.i.op := ⟨_, rfl⟩
      have o0 : W3.cell? ⟨gi, 0, none⟩ = some (.int .i64 fo) := by rw [hfo]; exact HBI.out.cell 0
      have o16 : W3.cell? ⟨gi, 16, none⟩ = some (.int .i64 fs) := by rw [hfs]; exact HBI.out.cell 16
      have HSV := hide (show stV x.i ns = (!(decide (fs < 0)) && (!(decide ((ns : Int) ≤ fs)) && (!(decide (fo = 40)) && !(decide (fo = 41))))) by unfold stV; rw [hfs, hfo])
      have HFS := hide hfs
      have HSKIP := hide (fun (hv : stV x.i ns = false) => show Blk W3 gt 3 (ic ns (seenS code ns rl (j + 1))) by rw [seenS_no HX.out hv]; exact HT3.out)
      clear hfs hfo j1 j2
      by_cases c0 : fs < 0
      · have HNO := hide (HSKIP.out (by rw [HSV.out]; simp [c0]))
        go_wp2_with fail
        go_roundw
        case rel => exact ⟨j + 1, by have := HLT.out; omega, by rw [HJN.out], HNO, HW3⟩
        case measure => rw [HJN.out]; simp [intOf]; have := HLT.out; omega
      by_cases c1 : (ns : Int) ≤ fs
      · have HNO := hide (HSKIP.out (by rw [HSV.out]; simp [c1]))
        go_wp2_with fail
        go_roundw
        case rel => exact ⟨j + 1, by have := HLT.out; omega, by rw [HJN.out], HNO, HW3⟩
        case measure => rw [HJN.out]; simp [intOf]; have := HLT.out; omega
      by_cases c2 : fo = 40
      · have HNO := hide (HSKIP.out (by rw [HSV.out]; simp [c2]))
        have e2 : (fo == 40) = true := by simp [c2]
        go_wp2_with fail
        go_roundw
        case rel => exact ⟨j + 1, by have := HLT.out; omega, by rw [HJN.out], HNO, HW3⟩
        case measure => rw [HJN.out]; simp [intOf]; have := HLT.out; omega
      have e2 : (fo == 40) = false := by simp [c2]
      by_cases c3 : fo = 41
      · have HNO := hide (HSKIP.out (by rw [HSV.out]; simp [c3]))
        have e3 : (fo == 41) = true := by simp [c3]
        go_wp2_with fail
        go_roundw
        case rel => exact ⟨j + 1, by have := HLT.out; omega, by rw [HJN.out], HNO, HW3⟩
        case measure => rw [HJN.out]; simp [intOf]; have := HLT.out; omega
      have e3 : (fo == 41) = false := by simp [c3]
      obtain ⟨sn, hsn⟩ : ∃ sn : Nat, fs = (sn : Int) := ⟨fs.toNat, by omega⟩
      have hsl : sn < ns := by omega
      have HYS := hide (show stV x.i ns = true by rw [HSV.out]; simp [c0, c1, c2, c3])
      have d0 : decide (fs < 0) = false := decide_eq_false c0
      have d1 : decide ((ns : Int) ≤ fs) = false := decide_eq_false c1
      have HSN := hide (show x.i.st = (sn : Int) by rw [← HFS.out]; exact hsn)
      go_upto_region 6 with (fail)
      clear c0 c1 c2 c3 e2 e3 d0 d1 o0
      rw [hsn] at o16
      clear hsn
      obtain ⟨sv, hsv⟩ : ∃ sv, sv = seenS code ns rl j sn := ⟨_, rfl⟩
      have HSVV := hide hsv
      have ct : W3.cell? ⟨gt, sn, none⟩ = some (.int .i64 (sv : Int)) := by rw [hsv]; exact (HT3.out.cell sn).trans (ic_at _ hsl)
      have hS0 : W3.cell? ⟨gi, 16, none⟩ = some (.int .i64 (sn : Int)) ∧ W3.cell? ⟨gt, sn, none⟩ = some (.int .i64 (sv : Int)) := ⟨o16, ct⟩
      have ft := HT3.out.frozen sn
      have m1 : (sn : Int) < (ns : Int) := by omega
      have m2 : (0 : Int) ≤ (sn : Int) := by omega
      have HSL := hide hsl
      clear hsv hsl o16 ct
      refine wp_region_tail 10 (fun w' => (w'.cell? ⟨gi, 16, none⟩ = some (.int .i64 (sn : Int)) ∧ w'.cell? ⟨gt, sn, none⟩ = some (.int .i64 (sv : Int)))) (by kernel_rfl) hS0 (fun hHeld => ?_)
      try simp only [Act.put, List.setIfInBounds_toArray, List.set_cons_zero, List.set_cons_succ]
      refine' wpTail_take2 (i := 0) (oi := _) ?hin5018 ?hsn5018 ?hfn5018 ?hrn5018 ?hzn5018 ?hcn5018 ?hQn5018 (v := _) (Or.inl ⟨?hwn5018, ?hyn5018⟩) (by assumption) ?_
      case hin5018 => (simp only [List.getElem?_toArray, List.getElem?_cons_zero]; exact rfl)
      case hsn5018 => kernel_rfl
      case hfn5018 => kernel_rfl
      case hrn5018 => kernel_rfl
      case hzn5018 => kernel_rfl
      case hcn5018 => kernel_rfl
      case hQn5018 => exact fun _ _ _ h => h
      case hwn5018 => rfl
      case hyn5018 => (intro W0 hSw; (try dsimp only at hSw); go_simp; (try with_reducible rfl))
      try simp only [Act.put, List.setIfInBounds_toArray, List.set_cons_zero, List.set_cons_succ]
      refine' wpTail_take2 (i := 1) (oi := _) ?hin5019 ?hsn5019 ?hfn5019 ?hrn5019 ?hzn5019 ?hcn5019 ?hQn5019 (v := _) (Or.inl ⟨?hwn5019, ?hyn5019⟩) (by assumption) ?_
      case hin5019 => (simp only [List.getElem?_toArray, List.getElem?_cons_succ, List.getElem?_cons_zero]; exact rfl)
      case hsn5019 => kernel_rfl
      case hfn5019 => kernel_rfl
      case hrn5019 => kernel_rfl
      case hzn5019 => kernel_rfl
      case hcn5019 => kernel_rfl
      case hQn5019 => exact fun _ _ _ h => h
      case hwn5019 => rfl
      case hyn5019 => (intro W0 hSw; (try dsimp only at hSw); go_simp; (try with_reducible rfl))
      try simp only [Act.put, List.setIfInBounds_toArray, List.set_cons_zero, List.set_cons_succ]
      refine' wpTail_take2 (i := 2) (oi := _) ?hin5020 ?hsn5020 ?hfn5020 ?hrn5020 ?hzn5020 ?hcn5020 ?hQn5020 (v := _) (Or.inl ⟨?hwn5020, ?hyn5020⟩) (by assumption) ?_
      case hin5020 => (simp only [List.getElem?_toArray, List.getElem?_cons_succ, List.getElem?_cons_zero]; exact rfl)
      case hsn5020 => kernel_rfl
      case hfn5020 => kernel_rfl
      case hrn5020 => kernel_rfl
      case hzn5020 => kernel_rfl
      case hcn5020 => kernel_rfl
      case hQn5020 => exact fun _ _ _ h => h
      case hwn5020 => rfl
      case hyn5020 => (intro W0 hSw; (try dsimp only at hSw); have u0 : W0.cell? ⟨gi, 16, none⟩ = some (.int .i64 (sn : Int)) := hSw.1; go_simp; (try with_reducible rfl))
      try simp only [Act.put, List.setIfInBounds_toArray, List.set_cons_zero, List.set_cons_succ]
      refine' wpTail_take2 (i := 3) (oi := _) ?hin5021 ?hsn5021 ?hfn5021 ?hrn5021 ?hzn5021 ?hcn5021 ?hQn5021 (v := _) (Or.inl ⟨?hwn5021, ?hyn5021⟩) (by assumption) ?_
      case hin5021 => (simp only [List.getElem?_toArray, List.getElem?_cons_succ, List.getElem?_cons_zero]; exact rfl)
      case hsn5021 => kernel_rfl
      case hfn5021 => kernel_rfl
      case hrn5021 => kernel_rfl
      case hzn5021 => kernel_rfl
      case hcn5021 => kernel_rfl
      case hQn5021 => exact fun _ _ _ h => h
      case hwn5021 => rfl
      case hyn5021 => (intro W0 hSw; (try dsimp only at hSw); go_simp; (try with_reducible rfl))
      try simp only [Act.put, List.setIfInBounds_toArray, List.set_cons_zero, List.set_cons_succ]
      refine' wpTail_take2 (i := 4) (oi := _) ?hin5022 ?hsn5022 ?hfn5022 ?hrn5022 ?hzn5022 ?hcn5022 ?hQn5022 (v := _) (Or.inl ⟨?hwn5022, ?hyn5022⟩) (by assumption) ?_
      case hin5022 => (simp only [List.getElem?_toArray, List.getElem?_cons_succ, List.getElem?_cons_zero]; exact rfl)
      case hsn5022 => kernel_rfl
      case hfn5022 => kernel_rfl
      case hrn5022 => kernel_rfl
      case hzn5022 => kernel_rfl
      case hcn5022 => kernel_rfl
      case hQn5022 => exact fun _ _ _ h => h
      case hwn5022 => rfl
      case hyn5022 => (intro W0 hSw; (try dsimp only at hSw); go_simp; (try with_reducible rfl))
      try simp only [Act.put, List.setIfInBounds_toArray, List.set_cons_zero, List.set_cons_succ]
      refine' wpTail_take2 (i := 5) (oi := _) ?hin5023 ?hsn5023 ?hfn5023 ?hrn5023 ?hzn5023 ?hcn5023 ?hQn5023 (v := _) (Or.inl ⟨?hwn5023, ?hyn5023⟩) (by assumption) ?_
      case hin5023 => (simp only [List.getElem?_toArray, List.getElem?_cons_succ, List.getElem?_cons_zero]; exact rfl)
      case hsn5023 => kernel_rfl
      case hfn5023 => kernel_rfl
      case hrn5023 => kernel_rfl
      case hzn5023 => kernel_rfl
      case hcn5023 => kernel_rfl
      case hQn5023 => exact fun _ _ _ h => h
      case hwn5023 => rfl
      case hyn5023 => (intro W0 hSw; (try dsimp only at hSw); have u0 : W0.cell? ⟨gi, 16, none⟩ = some (.int .i64 (sn : Int)) := hSw.1; go_simp; (try with_reducible rfl))
      try simp only [Act.put, List.setIfInBounds_toArray, List.set_cons_zero, List.set_cons_succ]
      refine' wpTail_take2 (i := 6) (oi := _) ?hin5024 ?hsn5024 ?hfn5024 ?hrn5024 ?hzn5024 ?hcn5024 ?hQn5024 (v := _) (Or.inl ⟨?hwn5024, ?hyn5024⟩) (by assumption) ?_
      case hin5024 => (simp only [List.getElem?_toArray, List.getElem?_cons_succ, List.getElem?_cons_zero]; exact rfl)
      case hsn5024 => kernel_rfl
      case hfn5024 => kernel_rfl
      case hrn5024 => kernel_rfl
      case hzn5024 => kernel_rfl
      case hcn5024 => kernel_rfl
      case hQn5024 => exact fun _ _ _ h => h
      case hwn5024 => rfl
      case hyn5024 => (intro W0 hSw; (try dsimp only at hSw); go_simp; (try with_reducible rfl))
      try simp only [Act.put, List.setIfInBounds_toArray, List.set_cons_zero, List.set_cons_succ]
      refine' wpTail_take2 (i := 7) (oi := _) ?hin5025 ?hsn5025 ?hfn5025 ?hrn5025 ?hzn5025 ?hcn5025 ?hQn5025 (v := _) (Or.inl ⟨?hwn5025, ?hyn5025⟩) (by assumption) ?_
      case hin5025 => (simp only [List.getElem?_toArray, List.getElem?_cons_succ, List.getElem?_cons_zero]; exact rfl)
      case hsn5025 => kernel_rfl
      case hfn5025 => kernel_rfl
      case hrn5025 => kernel_rfl
      case hzn5025 => kernel_rfl
      case hcn5025 => kernel_rfl
      case hQn5025 => exact fun _ _ _ h => h
      case hwn5025 => rfl
      case hyn5025 => (intro W0 hSw; (try dsimp only at hSw); have u0 : W0.cell? ⟨gt, sn, none⟩ = some (.int .i64 (sv : Int)) := hSw.2; go_simp; (try with_reducible rfl))
      try simp only [Act.put, List.setIfInBounds_toArray, List.set_cons_zero, List.set_cons_succ]
      refine' wpTail_take2 (i := 8) (oi := _) ?hin5026 ?hsn5026 ?hfn5026 ?hrn5026 ?hzn5026 ?hcn5026 ?hQn5026 (v := _) (Or.inl ⟨?hwn5026, ?hyn5026⟩) (by assumption) ?_
      case hin5026 => (simp only [List.getElem?_toArray, List.getElem?_cons_succ, List.getElem?_cons_zero]; exact rfl)
      case hsn5026 => kernel_rfl
      case hfn5026 => kernel_rfl
      case hrn5026 => kernel_rfl
      case hzn5026 => kernel_rfl
      case hcn5026 => kernel_rfl
      case hQn5026 => exact fun _ _ _ h => h
      case hwn5026 => rfl
      case hyn5026 => (intro W0 hSw; (try dsimp only at hSw); go_simp; (try with_reducible rfl))
      try simp only [Act.put, List.setIfInBounds_toArray, List.set_cons_zero, List.set_cons_succ]
      refine' wpTail_take2 (i := 9) (oi := _) ?hin5027 ?hsn5027 ?hfn5027 ?hrn5027 ?hzn5027 ?hcn5027 ?hQn5027 (v := _) (Or.inl ⟨?hwn5027, ?hyn5027⟩) (by assumption) ?_
      case hin5027 => (simp only [List.getElem?_toArray, List.getElem?_cons_succ, List.getElem?_cons_zero]; exact rfl)
      case hsn5027 => kernel_rfl
      case hfn5027 => kernel_rfl
      case hrn5027 => kernel_rfl
      case hzn5027 => kernel_rfl
      case hcn5027 => kernel_rfl
      case hQn5027 => exact fun _ _ _ h => h
      case hwn5027 => rfl
      case hyn5027 => (intro W0 hSw; (try dsimp only at hSw); go_simp; (try with_reducible rfl))
      try simp only [Act.put, List.setIfInBounds_toArray, List.set_cons_zero, List.set_cons_succ]
      refine' wpTail_one (i := 10) (o := _) (by kernel_rfl) ?ho5028 ?hw5028 (fun K hK => ?_)
      case ho5028 => (simp only [List.getElem?_toArray, List.getElem?_cons_succ, List.getElem?_cons_zero]; exact rfl)
      case hw5028 => rfl
      go_simp
      obtain ⟨sm, hsm⟩ : ∃ sm, sm = max sv 1 := ⟨_, rfl⟩
      have hmx : max (sv : Int) 1 = (sm : Int) := by omega
      rw [hmx]
      obtain ⟨W5, hW5⟩ : ∃ W5, W5 = (W3.setCell ⟨gt, sn, none⟩ (.int .i64 (sm : Int))).drew := ⟨_, rfl⟩
      have HT5 := hide (show Blk W5 gt 3 (ic ns (upd (seenS code ns rl j) sn sm)) by
        have h := HT3.out.set_ sn (.int .i64 (sm : Int))
        rw [ic_set] at h
        rw [hW5]
        exact h.drew)
      have HGB := hide (show W1.heap.size ≤ gt by rw [HGT.out]; exact Nat.le_refl _)
      have HW5 := hide (show Below W1.heap.size W1 W5 by rw [hW5]; exact (HW3.out.setCell (p := ⟨gt, sn, none⟩) HGB.out _).drew)
      have HBI5 := hide (show Blk W5 gi 45 (x.i.arr x.av x.rv) by rw [hW5]; exact (HBI.out.far (p := ⟨gt, sn, none⟩) (HBI.out.ne_ HT3.out (by decide)) _).drew)
      have HSM := hide hsm
      refine hK.out _ _ (fun h => absurd rfl h) ?_
      clear hK K
      rw [← hW5]
      clear hW5 hsm hmx
      refine wpTail_done (by kernel_rfl) ?_ _
      try simp only [Act.put, List.setIfInBounds_toArray, List.set_cons_zero, List.set_cons_succ]
      clear hHeld hS0 ft
      have HII := hide (isin_any rv rl (j : Int) W5 (HRL.out.below HW5.out (Nat.le_refl _)))
      obtain ⟨ib, hib⟩ : ∃ ib, ib = inB rl (j : Int) := ⟨_, rfl⟩
      rw [← hib] at HII
      have HIB := hide hib
      have HUP := hide (show seenS code ns rl (j + 1) = upd (seenS code ns rl j) sn (if ib = true then 2 else sm) by
        rw [seenS_yes HX.out HYS.out HSN.out, ← hib, HSM.out, HSVV.out])
      clear hib
      go_wp2_with fail
      refine HII.out.mono ?_
      rintro e w6 ⟨rfl, hb6⟩
      have HT6 := hide (HT5.out.below hb6 HT5.out.lt)
      have HW6 := hide (HW5.out.trans (hb6.mono HW5.out.size))
      have HBI6 := hide (HBI5.out.below hb6 HBI5.out.lt)
      cases hb : ib with
      | false =>
        have HT7 := hide (show Blk w6 gt 3 (ic ns (seenS code ns rl (j + 1))) by rw [HUP.out, if_neg (by rw [hb]; decide)]; exact HT6.out)
        subst hb
        clear hb6 m1 m2
        go_wp2_with fail
        go_roundw
        case rel => exact ⟨j + 1, by have := HLT.out; omega, by rw [HJN.out], HT7, HW6⟩
        case measure => rw [HJN.out]; simp [intOf]; have := HLT.out; omega
      | true =>
        have c16 : w6.cell? ⟨gi, 16, none⟩ = some (.int .i64 (sn : Int)) := by rw [← HSN.out]; exact HBI6.out.cell 16
        have c17 : w6.cell? ⟨gt, sn, none⟩ = some (.int .i64 (sm : Int)) := by
          have h := (HT6.out.cell sn).trans (ic_at _ HSL.out)
          rw [upd_at] at h
          exact h
        have f17 := HT6.out.frozen sn
        obtain ⟨W7, hW7⟩ : ∃ W7, W7 = w6.setCell ⟨gt, sn, none⟩ (.int .i64 2) := ⟨_, rfl⟩
        have HT7 := hide (show Blk W7 gt 3 (ic ns (seenS code ns rl (j + 1))) by
          have h := HT6.out.set_ sn (.int .i64 ((2 : Nat) : Int))
          rw [ic_set] at h
          rw [HUP.out, if_pos hb, hW7]
          rw [ic_congr (f := upd (seenS code ns rl j) sn 2) (g := fun q => if q = sn then 2 else upd (seenS code ns rl j) sn sm q) (fun q _ => by
            by_cases e : q = sn
            · subst e
              rw [upd_at, if_pos rfl]
            · rw [upd_ne _ _ e, if_neg e, upd_ne _ _ e])]
          exact h)
        have HW7 := hide (show Below W1.heap.size W1 W7 by rw [hW7]; exact HW6.out.setCell (p := ⟨gt, sn, none⟩) HGB.out _)
        have HWE := hide hW7
        subst hb
        clear hb6 hW7
        go_upto_region 9 with (fail)
        rw [← HWE.out]
        clear c16 c17 f17 m1 m2
        go_wp2_with fail
        go_roundw
        case rel => exact ⟨j + 1, by have := HLT.out; omega, by rw [HJN.out], HT7, HW7⟩
        case measure => rw [HJN.out]; simp [intOf]; have := HLT.out; omega
    · have j1 : ¬ (j : Int) < (n : Int) := by omega
      have HTF := hide (show Blk wr gt 3 (ic ns (seenS code ns rl code.length)) by
        have h := HT.out
        rw [show j = code.length by have := HN.out.1; omega] at h
        exact h)
      have HWF := hide (show Below W1.heap.size W1 wr from HWR.out)
      have HGB := hide (show W1.heap.size ≤ gt by rw [HGT.out]; exact Nat.le_refl _)
      obtain ⟨Bd, hBd⟩ : ∃ Bd, Bd = wr.heap.size := ⟨_, rfl⟩
      have HBD := hide (show gt < Bd ∧ W1.heap.size ≤ Bd by rw [hBd]; exact ⟨HT.out.lt, HWR.out.size⟩)
      have HBS := hide (show Bd ≤ wr.heap.size from Nat.le_of_eq hBd)
      clear hlt hj HT HWR hBd
      go_upto_region 12 with (fail)
      clear j1
      go_loopw [8, 63] (fun lv kv wr => ∃ (k kl : Nat) (A : Option Addr) (c : Nat), k ≤ ns ∧ lv = .slice A kl c ∧ kv = .int .i64 (k : Int) ∧ Hid (kl = (stmtsL code ns rl k).length) ∧ Hid (wr.ownsRow Bd 3 1 (.slice A kl c) kl ((stmtsL code ns rl k).map iI)) ∧ Hid (Blk wr gt 3 (ic ns (seenS code ns rl code.length))) ∧ Hid (Below W1.heap.size W1 wr) ∧ Hid (Bd ≤ wr.heap.size)) (fun _ kv _ => ns - (intOf kv).toNat)
      case atStart => exact ⟨0, 0, none, 0, Nat.zero_le _, rfl, rfl, hide rfl, hide (World.ownsRow_nil _ _ _ _), HTF, HWF, HBS⟩
      case round =>
        clear HTF HWF HBS
        obtain ⟨k, kl, A, c, hk, rfl, rfl, HKL, HO, HT, HWR, HS⟩ := hrel
        by_cases hlt : k < ns
        · have k1 : (k : Int) < (ns : Int) := by omega
          have k2 : (0 : Int) ≤ (k : Int) := by omega
          have q5 : IntKind.i64.wrap ((k : Int) + 1) = ((k + 1 : Nat) : Int) := by rw [show (k : Int) + 1 = ((k + 1 : Nat) : Int) by omega]; exact IntWalk.i64_in _ (by have := HN.out; omega)
          obtain ⟨kn, hkn⟩ : ∃ kn, kn = k + 1 := ⟨_, rfl⟩
          rw [← hkn] at q5
          have HKN := hide hkn
          have HKB := hide (show kl ≤ 1000 by have := stmtsL_le code ns rl k; have := HKL.out; have := HN.out; omega)
          obtain ⟨sv, hsv⟩ : ∃ sv, sv = seenS code ns rl code.length k := ⟨_, rfl⟩
          have ct : wr.cell? ⟨gt, k, none⟩ = some (.int .i64 (sv : Int)) := by rw [hsv]; exact (HT.out.cell k).trans (ic_at _ hlt)
          have HLT := hide hlt
          have HSX := hide (show stmtsL code ns rl (k + 1) = stmtsL code ns rl k ++ (if sv = 1 then [(k : Int)] else []) by rw [hsv]; exact stmtsL_succ code ns rl k)
          clear hkn hsv hlt
          by_cases h1 : sv = 1
          · have HS1 := hide (show stmtsL code ns rl (k + 1) = stmtsL code ns rl k ++ [(k : Int)] by rw [HSX.out, if_pos h1])
            subst h1
            have ct : wr.cell? ⟨gt, k, none⟩ = some (.int .i64 1) := ct
            obtain ⟨W9, hW9⟩ : ∃ W9, W9 = wr.alloc (.cells #[.int .i64 (k : Int)] 3) := ⟨_, rfl⟩
            have hb9 : Below wr.heap.size wr W9 := by rw [hW9]; exact (Below.refl _ _).alloc (Nat.le_refl _) _
            have HC9 := hide (show Blk W9 wr.heap.size 3 #[.int .i64 (k : Int)] by rw [hW9]; exact Blk.new _ _ _)
            have HT9 := hide (HT.out.below hb9 HT.out.lt)
            have HO9 := hide (own_belowT HO.out hb9)
            have HWR9 := hide (HWR.out.trans (hb9.mono HWR.out.size))
            have HS9 := hide (show Bd ≤ W9.heap.size from Nat.le_trans HS.out hb9.size)
            have HW9 := hide hW9
            clear hW9 hb9
            go_upto_region 16 with (first
              | (at_builtin
                 rw [← HW9.out]
                 refine wpList_append_any _ rfl (.tmp 70) (.tmp 72) _ rfl Bd 3 i0 _ 1 8 Try.underlying23 hi0 hz0 hz1 hz2 rfl (by omega) (.slice A kl c) kl _ rfl HO9.out (wr.heap.size + 1) (some ⟨wr.heap.size, 0, none⟩) 1 1 [.int .i64 (k : Int)] rfl ?rd ?on ?b1 ?b2 ?sz ?_
                 case rd => exact ⟨rfl, fun _ => ⟨_, rfl, Nat.lt_succ_self _, fun q u hu => by rw [Addr.add_lit, Nat.zero_add, HC9.out.cell q]; simpa using hu⟩⟩
                 case on => (intro u hu; simp at hu; subst hu; rfl)
                 case b1 => (have := HKB.out; simp only [maxLen]; omega)
                 case b2 => (have := HKB.out; omega)
                 case sz => exact HS9.out
                 intro v10 w10 hown10 hg10 hat10
                 have HT10 := hide (HT9.out.grown hg10 (fun e => by have := (HO9.out.lt gt e.symm).1; have := HBD.out; omega))
                 have HWR10 := hide (HWR9.out.grown hg10 HWR9.out.size (fun q hq => by have := (HO9.out.lt q hq).1; have := HBD.out; omega))
                 have HS10 := hide (show Bd ≤ w10.heap.size from Nat.le_trans HS9.out hg10.size)
                 have HO10 := hide (show w10.ownsRow Bd 3 1 v10 (kl + 1) ((stmtsL code ns rl (k + 1)).map iI) by rw [HS1.out, List.map_append]; exact hown10)
                 have HKL10 := hide (show kl + 1 = (stmtsL code ns rl (k + 1)).length by rw [HS1.out, List.length_append, ← HKL.out]; rfl)
                 obtain ⟨A10, c10, rfl⟩ := own_formT hown10
                 clear hown10 hg10 hat10))
            clear ct
            go_wp2_with fail
            go_roundw
            case rel => exact ⟨k + 1, kl + 1, A10, c10, by have := HLT.out; omega, rfl, by rw [HKN.out], HKL10, HO10, HT10, HWR10, HS10⟩
            case measure => rw [HKN.out]; simp [intOf]; have := HLT.out; omega
          · have h2 : ¬ (sv : Int) = 1 := by omega
            have h3 : ((sv : Int) == 1) = false := by simp; omega
            have HS1 := hide (show stmtsL code ns rl (k + 1) = stmtsL code ns rl k by rw [HSX.out, if_neg h1, List.append_nil])
            have HKL1 := hide (show kl = (stmtsL code ns rl (k + 1)).length by rw [HS1.out]; exact HKL.out)
            have HO1 := hide (show wr.ownsRow Bd 3 1 (.slice A kl c) kl ((stmtsL code ns rl (k + 1)).map iI) by rw [HS1.out]; exact HO.out)
            go_wp2_with fail
            go_roundw
            case rel => exact ⟨k + 1, kl, A, c, by have := HLT.out; omega, rfl, by rw [HKN.out], HKL1, HO1, HT, HWR, HS⟩
            case measure => rw [HKN.out]; simp [intOf]; have := HLT.out; omega
        · have k1 : ¬ (k : Int) < (ns : Int) := by omega
          have HKE := hide (show k = ns by omega)
          clear hlt hk
          go_wp2_with fail
          go_ret
          refine ⟨_, rfl, ?_, HB1.out.trans (HWR.out.mono HB1.out.size)⟩
          have hk2 : kl = (stmtsL code ns rl ns).length := by
            have h := HKL.out
            rw [HKE.out] at h
            exact h
          rw [← hk2]
          have h := own_monoT HO.out (B' := w.heap.size) (by have := HBD.out; have := HB1.out.size; omega)
          rw [HKE.out] at h
          exact h
end Go.Proofs.Ytaaadbaakhjkcaa
