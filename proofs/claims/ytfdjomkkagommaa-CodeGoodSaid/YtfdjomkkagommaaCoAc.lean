/- What can be reads and writes registers that there are, and is none when it is cut off (CodeGood); conditions: the func is in memory. -/
import Derived.Test.YtfdjomkkagommaaCoAb
import Derived.StillTailTactics
namespace Go.Proofs.Ytfdjomkkagommaa
open Go.RowKit Go.WideShapes Go.ChangeShapes
set_option linter.unusedVariables false
set_option linter.unusedSimpArgs false
set_option maxRecDepth 100000

/-- The greatest register so far, more by one. -/
def TopOk (code : List IV) (k : Nat) : Prop := k ≤ 65536 ∧ (k = 0 ∨ ∃ x ∈ code, ((k : Int) - 1) ∈ useL x.i)
theorem TopOk.more {code : List IV} {k y : Nat} {x : IV} (h : TopOk code k) (hx : x ∈ code) (hy : (y : Int) ∈ useL x.i) (hb : y < 65536) : TopOk code (max k (y + 1)) := by
  rcases Nat.le_total k (y + 1) with hle | hle
  · rw [Nat.max_eq_right hle]
    exact ⟨by omega, .inr ⟨x, hx, by rw [show ((y + 1 : Nat) : Int) - 1 = (y : Int) by omega]; exact hy⟩⟩
  · rw [Nat.max_eq_left hle]
    exact h
def iNop : Ins := { op := 40, d := 0, a := 0, b := 0, n := 0, m := 0, s := ⟨#[]⟩, vk := 0, vn := 0, vm := 0, vc := 0, vs := ⟨#[]⟩, args := [], t := 0, to_ := 0, arms := [], st := -1, f := 0, l := 0, c := 0, obj := 0, use := 0 }
theorem ends_nop : endsB iNop.op = false := by decide
theorem inss_one {w : World} {code : List IV} (h : ∀ x ∈ code, InsOk w x.i x.av x.rv) : ∀ u ∈ code.flatMap IV.enc, u.oneCell' = true := by
  intro u hu
  obtain ⟨x, hx, hu⟩ := List.mem_flatMap.1 hu
  have h1 := ins_one (h x hx)
  exact (Array.all_eq_true'.1 h1) u (by unfold IV.enc at hu; simpa using hu)
theorem nop_one : ∀ u ∈ (iNop.arr (.slice none 0 0) (.slice none 0 0)).toList, u.oneCell' = true := by
  exact List.all_eq_true.1 (show (iNop.arr (.slice none 0 0) (.slice none 0 0)).toList.all (·.oneCell') = true from rfl)
set_option maxHeartbeats 16000000 in
theorem codegood_any (p : Pr) (hs : List Bool) (code : List IV) (ns : Nat) (w : World) (h : PrOk w p hs code ns) (hone : p.arr.all (·.oneCell') = true) : Calls Try.prog 5 #[p.val] w (BoolP w true) := by
  obtain ⟨i0, hi0, hz0, hz1, hz2⟩ := info_parts intInfoT
  obtain ⟨ii0, hii0, hiz0, hiz1, hiz2⟩ := info_parts insInfo
  obtain ⟨gp, hgp⟩ : ∃ gp, gp = w.heap.size := ⟨_, rfl⟩
  obtain ⟨W1, hW1⟩ : ∃ W1, W1 = w.alloc (.cells p.arr 53) := ⟨_, rfl⟩
  have hb1 : Below w.heap.size w W1 := by rw [hW1]; exact (Below.refl _ _).alloc (Nat.le_refl _) _
  have hbp : Blk W1 gp 53 p.arr := by rw [hW1, hgp]; exact Blk.new _ _ _
  have HOK := hide (h.below hb1 (Nat.le_refl _))
  obtain ⟨Av, cv, hvv, _⟩ := h.hv
  obtain ⟨Ac, cc, hcv⟩ := h.cv.form
  obtain ⟨As, cs, hsv⟩ := h.sv
  obtain ⟨m, hm⟩ : ∃ m, m = code.length := ⟨_, rfl⟩
  obtain ⟨nh, hnh⟩ : ∃ nh, nh = hs.length := ⟨_, rfl⟩
  rw [← hm] at hcv
  rw [← hnh] at hvv
  have HM := hide (And.intro hm hnh)
  have HB1 := hide hb1
  have HW1 := hide hW1
  have HGP := hide hgp
  have HBP := hide hbp
  have HONE := hide hone
  have HV := hide (And.intro hvv (And.intro hcv hsv))
  obtain ⟨PV, hPV⟩ : ∃ PV, PV = p.val := ⟨_, rfl⟩
  have HPV := hide hPV
  have HAW := hide (awake_any W1)
  clear h hone hb1 hW1 hgp hbp hm hnh hvv hcv hsv hPV
  go_enter Try.func5, Try.ntmps5
  go_upto_region 1 with (fail)
  rw [← HW1.out, ← HGP.out]
  rw [← HPV.out]
  go_wp2_with fail
  refine HAW.out.mono ?_
  rintro e w2 ⟨rfl, hb2⟩
  have HB2 := hide hb2
  have hbp2 := HBP.out.below hb2 HBP.out.lt
  have z3 : w2.cell? ⟨gp, 3, none⟩ = some (.slice Av nh cv) := by rw [← HV.out.1]; exact hbp2.cell 3
  have z6 : w2.cell? ⟨gp, 6, none⟩ = some (.slice Ac m cc) := by rw [← HV.out.2.1]; exact hbp2.cell 6
  have z8 : w2.cell? ⟨gp, 8, none⟩ = some (.slice As ns cs) := by rw [← HV.out.2.2]; exact hbp2.cell 8
  clear hb2 hbp2
  by_cases a1 : (60 : Int) < (m : Int)
  · go_wp2_with fail
    go_ret
    exact ⟨rfl, HB1.out.trans (HB2.out.mono HB1.out.size)⟩
  by_cases a2 : (60 : Int) < (nh : Int)
  · go_wp2_with fail
    go_ret
    exact ⟨rfl, HB1.out.trans (HB2.out.mono HB1.out.size)⟩
  by_cases a3 : (60 : Int) < (ns : Int)
  · go_wp2_with fail
    go_ret
    exact ⟨rfl, HB1.out.trans (HB2.out.mono HB1.out.size)⟩
  have HMB := hide (show m ≤ 60 by omega)
  go_wp2_with fail
  clear a1 a2 a3 z3 z6 z8
  go_loopw [3] (fun jj wr => ∃ j : Nat, j ≤ m ∧ jj = .int .i64 j ∧ Hid (∀ (q : Nat) (x : IV), q < j → code[q]? = some x → greatB x.i = false) ∧ Hid (Below W1.heap.size W1 wr)) (fun jj _ => m - (intOf jj).toNat)
  case atStart => exact ⟨0, Nat.zero_le _, rfl, hide (fun q x hq => absurd hq (by omega)), HB2⟩
  case round =>
    obtain ⟨j, hj, rfl, HQ, HWR⟩ := hrel
    have y6 : wr.cell? ⟨gp, 6, none⟩ = some (.slice Ac m cc) := by rw [← HV.out.2.1]; exact (HBP.out.below HWR.out HBP.out.lt).cell 6
    by_cases hlt : j < m
    · have j1 : (j : Int) < (m : Int) := by omega
      have j2 : (0 : Int) ≤ (j : Int) := by omega
      have q5 : IntKind.i64.wrap ((j : Int) + 1) = (j : Int) + 1 := IntWalk.i64_in _ (by have := HMB.out; omega)
      have hcvr := HOK.out.cv.below HWR.out (Nat.le_refl _)
      rw [HV.out.2.1] at hcvr
      obtain ⟨b, of, x, rfl, hbl, hx, hcells⟩ := RowAt.at_ hcvr (i := j) (by have := HM.out; omega)
      have HX := hide hx
      have HCE := hide (show wr.rangeAt b (of + j * 22) (IV.enc x) from hcells)
      obtain ⟨V, hV⟩ : ∃ V, V = Ins.val x.i x.av x.rv := ⟨_, rfl⟩
      have HVI := hide hV
      have HG := hide (great_any x.i x.av x.rv wr ((HOK.out.ok x (List.mem_of_getElem? hx)).below HWR.out (Nat.le_refl _)))
      rw [← hV] at HG
      obtain ⟨bg, hbg⟩ : ∃ bg, bg = greatB x.i := ⟨_, rfl⟩
      rw [← hbg] at HG
      have HBG := hide hbg
      clear hx hcells hV hcvr hbg
      go_wp2_with (first
        | (refine wpList_load_midW 39 (.tmp 38) b (of + j * 22) (IV.enc x) V HCE.out HVI.out Try.underlying39 rfl ins_size rfl (by kernel_rfl) rfl ?_)
        | (refine wp_load_midV 39 (.tmp 38) b (of + j * 22) (IV.enc x) V HCE.out HVI.out Try.underlying39 rfl ins_size rfl rfl ?_))
      refine HG.out.mono ?_
      rintro e w3 ⟨rfl, hb3⟩
      have HB3 := hide (HWR.out.trans (hb3.mono HWR.out.size))
      clear hb3
      cases bg with
      | true =>
        go_wp2_with fail
        go_ret
        exact ⟨rfl, HB1.out.trans (HB3.out.mono HB1.out.size)⟩
      | false =>
        have HQN : Hid (∀ (q : Nat) (x : IV), q < j + 1 → code[q]? = some x → greatB x.i = false) := hide (fun q y hq hy => by
          rcases Nat.lt_or_ge q j with h1 | h1
          · exact HQ.out q y h1 hy
          · obtain rfl : q = j := by omega
            rw [HX.out] at hy
            injection hy with hy
            rw [← hy]
            exact HBG.out.symm)
        go_wp2_with fail
        go_roundw
        case rel => exact ⟨j + 1, by omega, by simp, HQN, HB3⟩
        case measure => simp [intOf]; omega
    · have hjm : j = m := by omega
      have HL := hide (show ∀ x ∈ code, x.i.arms.length ≤ 20 ∧ x.i.args.length ≤ 20 from fun x hx => by
        obtain ⟨q, hq, he⟩ := List.mem_iff_getElem.1 hx
        have hg := HQ.out q x (by have := HM.out; omega) (by rw [List.getElem?_eq_getElem hq, he])
        unfold greatB at hg
        simp only [Bool.or_eq_false_iff, decide_eq_false_iff_not] at hg
        omega)
      have j1 : ¬ (j : Int) < (m : Int) := by omega
      have HBPR := hide (HBP.out.below HWR.out HBP.out.lt)
      have HGC := hide (good_any p hs code ns wr (HOK.out.below HWR.out (Nat.le_refl _)) (by have := HM.out; have := HMB.out; omega) (fun x hx => by have := HL.out x hx; omega))
      rw [← HPV.out] at HGC
      obtain ⟨bg, hbg⟩ : ∃ bg, bg = goodP p hs code ns := ⟨_, rfl⟩
      rw [← hbg] at HGC
      have HBG := hide hbg
      clear hjm hbg
      go_wp2_with (first
        | (refine wpList_load_blk (.tmp 1) HBPR.out HPV.out Try.underlying53 rfl pr_size rfl (by kernel_rfl) rfl ?_)
        | (refine wp_load_blk (.tmp 1) HBPR.out HPV.out Try.underlying53 rfl pr_size rfl rfl ?_))
      refine HGC.out.mono ?_
      rintro e w3 ⟨rfl, hb3⟩
      have HB3 := hide (HWR.out.trans (hb3.mono HWR.out.size))
      clear hb3 y6 j1 hlt hj
      cases bg with
      | false =>
        go_wp2_with fail
        go_ret
        exact ⟨rfl, HB1.out.trans (HB3.out.mono HB1.out.size)⟩
      | true =>
        have HGD := hide (good_parts HBG.out.symm)
        go_wp2_with fail
        go_loopw [4, 5] (fun tv jj wr => ∃ k j : Nat, j ≤ m ∧ tv = .int .i64 k ∧ jj = .int .i64 j ∧ Hid (TopOk code k) ∧ Hid (Below W1.heap.size W1 wr)) (fun _ jj _ => m - (intOf jj).toNat)
        case atStart => exact ⟨0, 0, Nat.zero_le _, rfl, rfl, hide ⟨by omega, .inl rfl⟩, HB3⟩
        case round =>
          clear HWR HBPR HB3
          obtain ⟨k, j, hj, rfl, rfl, HTO, HWR⟩ := hrel
          have y6 : wr.cell? ⟨gp, 6, none⟩ = some (.slice Ac m cc) := by rw [← HV.out.2.1]; exact (HBP.out.below HWR.out HBP.out.lt).cell 6
          by_cases hlt : j < m
          · have j1 : (j : Int) < (m : Int) := by omega
            have j2 : (0 : Int) ≤ (j : Int) := by omega
            have q5 : IntKind.i64.wrap ((j : Int) + 1) = (j : Int) + 1 := IntWalk.i64_in _ (by have := HMB.out; omega)
            have hcvr := HOK.out.cv.below HWR.out (Nat.le_refl _)
            rw [HV.out.2.1] at hcvr
            obtain ⟨b, of, x, rfl, hbl, hx, hcells⟩ := RowAt.at_ hcvr (i := j) (by have := HM.out; omega)
            have HX := hide hx
            have hlx := HL.out x (List.mem_of_getElem? hx)
            have HIX := hide ((HOK.out.ok x (List.mem_of_getElem? hx)).below HWR.out (Nat.le_refl _))
            have HRD := hide (fun W (hW : Below wr.heap.size wr W) => reads_any x.i x.av x.rv W (HIX.out.below hW (Nat.le_refl _)) (by omega) (by omega))
            have HWR2 := hide (fun W (hW : Below wr.heap.size wr W) => writes_any x.i x.av x.rv W (HIX.out.below hW (Nat.le_refl _)) (by omega) (by omega))
            obtain ⟨V, hV⟩ : ∃ V, V = Ins.val x.i x.av x.rv := ⟨_, rfl⟩
            have HVI := hide hV
            rw [← hV] at HRD HWR2
            obtain ⟨nr, hnr⟩ : ∃ nr, nr = (regsL (readS x.i)).length := ⟨_, rfl⟩
            obtain ⟨nw, hnw⟩ : ∃ nw, nw = (regsL (writtenS x.i)).length := ⟨_, rfl⟩
            obtain ⟨nu, hnu⟩ : ∃ nu, nu = nr + nw := ⟨_, rfl⟩
            have HUL := hide (show nr ≤ 5000000 ∧ nw ≤ 5000000 ∧ nu ≤ 10000000 by
              have h1 := regsL_le (readS x.i) (fun s hs => readS_ok x.i s hs)
              have h2 := regsL_le (writtenS x.i) (fun s hs => writtenS_ok x.i s hs)
              have h3 := readS_len x.i
              have h4 := writtenS_len x.i
              have h5 : (readS x.i).length * 65536 ≤ 62 * 65536 := Nat.mul_le_mul_right _ (by omega)
              have h6 : (writtenS x.i).length * 65536 ≤ 62 * 65536 := Nat.mul_le_mul_right _ (by omega)
              omega)
            have HUE := hide (And.intro hnr (And.intro hnw (And.intro hnu (show nu = (useL x.i).length by unfold useL; rw [List.length_append, hnu, hnr, hnw]))))
            have HCE := hide (show wr.rangeAt b (of + j * 22) (IV.enc x) from hcells)
            have HS := hide (fun (W : World) (hW : Below wr.heap.size wr W) => show W.cell? ⟨gp, 6, none⟩ = some (.slice (some ⟨b, of, none⟩) m cc) ∧ W.rangeAt b (of + j * 22) (IV.enc x) from
              ⟨(hW.cell (p := ⟨gp, 6, none⟩) (by have := HBP.out.lt; have := HWR.out.size; show gp < wr.heap.size; omega)).trans y6, fun q u hu => (hW.cell (p := ⟨b, of + j * 22 + q, none⟩) hbl).trans (hcells q u hu)⟩)
            have hS0 := HS.out wr (Below.refl _ _)
            clear hx hV hcvr hlx hnr hnw hnu hcells
            go_wp2_with fail
            refine wp_region_tail 99 (fun w' => w'.cell? ⟨gp, 6, none⟩ = some (.slice (some ⟨b, of, none⟩) m cc) ∧ w'.rangeAt b (of + j * 22) (IV.enc x)) (by kernel_rfl) (HS.out _ (Below.refl wr.heap.size wr).drew) (fun hHeld => ?_)
            try simp only [Act.put, List.setIfInBounds_toArray, List.set_cons_zero, List.set_cons_succ]
            refine' wpTail_take (i := 1) (oi := _) ?hi5001 ?hs5001 ?hf5001 ?hr5001 ?hz5001 ?hQ5001 (v := _) (Or.inl ⟨?hw5001, ?hy5001⟩) (by assumption) ?_
            case hi5001 => (simp only [List.getElem?_toArray, List.getElem?_cons_succ, List.getElem?_cons_zero]; exact rfl)
            case hs5001 => kernel_rfl
            case hf5001 => kernel_rfl
            case hr5001 => kernel_rfl
            case hz5001 => kernel_rfl
            case hQ5001 => exact fun _ _ _ h => h
            case hw5001 => rfl
            case hy5001 => (intro W0 hSw; (try dsimp only at hSw); go_simp; (try with_reducible rfl))
            try simp only [Act.put, List.setIfInBounds_toArray, List.set_cons_zero, List.set_cons_succ]
            refine' wpTail_take (i := 2) (oi := _) ?hi5002 ?hs5002 ?hf5002 ?hr5002 ?hz5002 ?hQ5002 (v := _) (Or.inl ⟨?hw5002, ?hy5002⟩) (by assumption) ?_
            case hi5002 => (simp only [List.getElem?_toArray, List.getElem?_cons_succ, List.getElem?_cons_zero]; exact rfl)
            case hs5002 => kernel_rfl
            case hf5002 => kernel_rfl
            case hr5002 => kernel_rfl
            case hz5002 => kernel_rfl
            case hQ5002 => exact fun _ _ _ h => h
            case hw5002 => rfl
            case hy5002 => (intro W0 hSw; (try dsimp only at hSw); have y6 : W0.cell? ⟨gp, 6, none⟩ = some (.slice (some ⟨b, of, none⟩) m cc) := hSw.1; go_simp; (try with_reducible rfl))
            try simp only [Act.put, List.setIfInBounds_toArray, List.set_cons_zero, List.set_cons_succ]
            refine' wpTail_take (i := 3) (oi := _) ?hi5003 ?hs5003 ?hf5003 ?hr5003 ?hz5003 ?hQ5003 (v := _) (Or.inl ⟨?hw5003, ?hy5003⟩) (by assumption) ?_
            case hi5003 => (simp only [List.getElem?_toArray, List.getElem?_cons_succ, List.getElem?_cons_zero]; exact rfl)
            case hs5003 => kernel_rfl
            case hf5003 => kernel_rfl
            case hr5003 => kernel_rfl
            case hz5003 => kernel_rfl
            case hQ5003 => exact fun _ _ _ h => h
            case hw5003 => rfl
            case hy5003 => (intro W0 hSw; (try dsimp only at hSw); go_simp; (try with_reducible rfl))
            try simp only [Act.put, List.setIfInBounds_toArray, List.set_cons_zero, List.set_cons_succ]
            refine' wpTail_take (i := 4) (oi := _) ?hi5004 ?hs5004 ?hf5004 ?hr5004 ?hz5004 ?hQ5004 (v := _) (Or.inl ⟨?hw5004, ?hy5004⟩) (by assumption) ?_
            case hi5004 => (simp only [List.getElem?_toArray, List.getElem?_cons_succ, List.getElem?_cons_zero]; exact rfl)
            case hs5004 => kernel_rfl
            case hf5004 => kernel_rfl
            case hr5004 => kernel_rfl
            case hz5004 => kernel_rfl
            case hQ5004 => exact fun _ _ _ h => h
            case hw5004 => rfl
            case hy5004 => (intro W0 hSw; (try dsimp only at hSw); have y6 : W0.cell? ⟨gp, 6, none⟩ = some (.slice (some ⟨b, of, none⟩) m cc) := hSw.1; go_simp; (try with_reducible rfl))
            try simp only [Act.put, List.setIfInBounds_toArray, List.set_cons_zero, List.set_cons_succ]
            refine' wpTail_take (i := 5) (oi := _) ?hi5005 ?hs5005 ?hf5005 ?hr5005 ?hz5005 ?hQ5005 (v := V) ?hy5005 (by assumption) ?_
            case hi5005 => (simp only [List.getElem?_toArray, List.getElem?_cons_succ, List.getElem?_cons_zero]; exact rfl)
            case hs5005 => kernel_rfl
            case hf5005 => kernel_rfl
            case hr5005 => kernel_rfl
            case hz5005 => kernel_rfl
            case hQ5005 => exact fun _ _ _ h => h
            case hy5005 => (rw [HVI.out]; exact yieldsIf_load_mid rfl 39 (.tmp 55) rfl b (of + j * 22) rfl (IV.enc x) _ (fun W0 hSw => hSw.2) Try.underlying39 rfl ins_size)
            try simp only [Act.put, List.setIfInBounds_toArray, List.set_cons_zero, List.set_cons_succ]
            refine' wpTail_take (i := 8) (oi := _) ?hi5006 ?hs5006 ?hf5006 ?hr5006 ?hz5006 ?hQ5006 (v := _) (Or.inl ⟨?hw5006, ?hy5006⟩) (by assumption) ?_
            case hi5006 => (simp only [List.getElem?_toArray, List.getElem?_cons_succ, List.getElem?_cons_zero]; exact rfl)
            case hs5006 => kernel_rfl
            case hf5006 => kernel_rfl
            case hr5006 => kernel_rfl
            case hz5006 => kernel_rfl
            case hQ5006 => exact fun _ _ _ h => h
            case hw5006 => rfl
            case hy5006 => (intro W0 hSw; (try dsimp only at hSw); go_simp; (try with_reducible rfl))
            try simp only [Act.put, List.setIfInBounds_toArray, List.set_cons_zero, List.set_cons_succ]
            refine' wpTail_take (i := 9) (oi := _) ?hi5007 ?hs5007 ?hf5007 ?hr5007 ?hz5007 ?hQ5007 (v := _) (Or.inl ⟨?hw5007, ?hy5007⟩) (by assumption) ?_
            case hi5007 => (simp only [List.getElem?_toArray, List.getElem?_cons_succ, List.getElem?_cons_zero]; exact rfl)
            case hs5007 => kernel_rfl
            case hf5007 => kernel_rfl
            case hr5007 => kernel_rfl
            case hz5007 => kernel_rfl
            case hQ5007 => exact fun _ _ _ h => h
            case hw5007 => rfl
            case hy5007 => (intro W0 hSw; (try dsimp only at hSw); have y6 : W0.cell? ⟨gp, 6, none⟩ = some (.slice (some ⟨b, of, none⟩) m cc) := hSw.1; go_simp; (try with_reducible rfl))
            try simp only [Act.put, List.setIfInBounds_toArray, List.set_cons_zero, List.set_cons_succ]
            refine' wpTail_take (i := 10) (oi := _) ?hi5008 ?hs5008 ?hf5008 ?hr5008 ?hz5008 ?hQ5008 (v := _) (Or.inl ⟨?hw5008, ?hy5008⟩) (by assumption) ?_
            case hi5008 => (simp only [List.getElem?_toArray, List.getElem?_cons_succ, List.getElem?_cons_zero]; exact rfl)
            case hs5008 => kernel_rfl
            case hf5008 => kernel_rfl
            case hr5008 => kernel_rfl
            case hz5008 => kernel_rfl
            case hQ5008 => exact fun _ _ _ h => h
            case hw5008 => rfl
            case hy5008 => (intro W0 hSw; (try dsimp only at hSw); go_simp; (try with_reducible rfl))
            try simp only [Act.put, List.setIfInBounds_toArray, List.set_cons_zero, List.set_cons_succ]
            refine' wpTail_take (i := 11) (oi := _) ?hi5009 ?hs5009 ?hf5009 ?hr5009 ?hz5009 ?hQ5009 (v := _) (Or.inl ⟨?hw5009, ?hy5009⟩) (by assumption) ?_
            case hi5009 => (simp only [List.getElem?_toArray, List.getElem?_cons_succ, List.getElem?_cons_zero]; exact rfl)
            case hs5009 => kernel_rfl
            case hf5009 => kernel_rfl
            case hr5009 => kernel_rfl
            case hz5009 => kernel_rfl
            case hQ5009 => exact fun _ _ _ h => h
            case hw5009 => rfl
            case hy5009 => (intro W0 hSw; (try dsimp only at hSw); have y6 : W0.cell? ⟨gp, 6, none⟩ = some (.slice (some ⟨b, of, none⟩) m cc) := hSw.1; go_simp; (try with_reducible rfl))
            try simp only [Act.put, List.setIfInBounds_toArray, List.set_cons_zero, List.set_cons_succ]
            refine' wpTail_take (i := 12) (oi := _) ?hi5010 ?hs5010 ?hf5010 ?hr5010 ?hz5010 ?hQ5010 (v := V) ?hy5010 (by assumption) ?_
            case hi5010 => (simp only [List.getElem?_toArray, List.getElem?_cons_succ, List.getElem?_cons_zero]; exact rfl)
            case hs5010 => kernel_rfl
            case hf5010 => kernel_rfl
            case hr5010 => kernel_rfl
            case hz5010 => kernel_rfl
            case hQ5010 => exact fun _ _ _ h => h
            case hy5010 => (rw [HVI.out]; exact yieldsIf_load_mid rfl 39 (.tmp 62) rfl b (of + j * 22) rfl (IV.enc x) _ (fun W0 hSw => hSw.2) Try.underlying39 rfl ins_size)
            try simp only [Act.put, List.setIfInBounds_toArray, List.set_cons_zero, List.set_cons_succ]
            refine' wpTail_two (i := 0) (j := 6) (o := _) (p := _) (by kernel_rfl) ?hi5011 ?hj5011 ?wi5011 ?wj5011 ?si5011 ?sj5011
            case hi5011 => (simp only [List.getElem?_toArray, List.getElem?_cons_zero]; exact rfl)
            case hj5011 => (simp only [List.getElem?_toArray, List.getElem?_cons_succ, List.getElem?_cons_zero]; exact rfl)
            case wi5011 => rfl
            case wj5011 => rfl
            case si5011 =>
              intro K hK
              go_simp
              have hemp : (wr.alloc (.cells #[] 3)).drew.ownsRow wr.heap.size 3 1 (.slice (some ⟨wr.heap.size, 0, none⟩) 0 0) 0 [] := own_belowT (World.ownsRow_made wr #[] 0 (Nat.le_refl _) (by simp [maxLen]) (by simp)) (Below.refl _ _).drew
              obtain ⟨w4, hw4⟩ : ∃ w4, w4 = (wr.alloc (.cells #[] 3)).drew := ⟨_, rfl⟩
              have hd4 : Below wr.heap.size wr w4 := by rw [hw4]; exact ((Below.refl wr.heap.size wr).alloc (Nat.le_refl _) _).drew
              refine hK.out _ _ (fun _ => HS.out _ ((Below.refl wr.heap.size wr).alloc (Nat.le_refl _) _).drew) ?_
              clear hK K
              rw [← hw4] at hemp ⊢
              clear hw4
              try simp only [Act.put, List.setIfInBounds_toArray, List.set_cons_zero, List.set_cons_succ]
              refine' wpTail_one (i := 6) (o := _) (by kernel_rfl) ?ho5012 ?hw5012 (fun K hK => ?_)
              case ho5012 => (simp only [List.getElem?_toArray, List.getElem?_cons_succ, List.getElem?_cons_zero]; exact rfl)
              case hw5012 => rfl
              go_simp
              (with_reducible refine (HRD.out w4 hd4).mono ?_)
              rintro e w5 ⟨v5, rfl, hown5, hb5⟩
              rw [← HUE.out.1] at hown5
              obtain ⟨A4, c4, rfl⟩ := own_formT hown5
              have hd5 : Below wr.heap.size wr w5 := hd4.trans (hb5.mono hd4.size)
              have hemp := own_belowT hemp hb5
              refine hK.out _ _ (fun _ => HS.out _ hd5) ?_
              clear hK K
              clear hb5 hd4
              try simp only [Act.put, List.setIfInBounds_toArray, List.set_cons_zero, List.set_cons_succ]
              refine' wpTail_one (i := 7) (o := _) (by kernel_rfl) ?ho5013 ?hw5013 (fun K hK => ?_)
              case ho5013 => (simp only [List.getElem?_toArray, List.getElem?_cons_succ, List.getElem?_cons_zero]; exact rfl)
              case hw5013 => rfl
              refine wp_append_any _ (.tmp 51) (.tmp 57) _ rfl wr.heap.size 3 i0 _ 1 8 Try.underlying22 hi0 hz0 hz1 hz2 rfl (by omega) _ 0 [] rfl hemp (w5).heap.size A4 nr c4 _ rfl (Reads.of_own hown5) (ints_oneT _) (by have := HUL.out; simp only [maxLen]; omega) (by have := HUL.out; omega) hd5.size ?_
              intro v6 w6 hown6 hg6 hat6
              have hown6 : w6.ownsRow wr.heap.size 3 1 v6 nr ((regsL (readS x.i)).map iI) := by simpa using hown6
              obtain ⟨A6, c6, rfl⟩ := own_formT hown6
              have hd6 : Below wr.heap.size wr w6 := hd5.grown hg6 hd5.size (fun k hk => (hemp.lt k hk).1)
              refine hK.out _ _ (fun _ => HS.out _ hd6) ?_
              clear hK K
              try simp only [Act.put, List.setIfInBounds_toArray, List.set_cons_zero, List.set_cons_succ]
              refine' wpTail_one (i := 13) (o := _) (by kernel_rfl) ?ho5014 ?hw5014 (fun K hK => ?_)
              case ho5014 => (simp only [List.getElem?_toArray, List.getElem?_cons_succ, List.getElem?_cons_zero]; exact rfl)
              case hw5014 => rfl
              go_simp
              (with_reducible refine (HWR2.out w6 hd6).mono ?_)
              rintro e w7 ⟨v7, rfl, hown7, hb7⟩
              rw [← HUE.out.2.1] at hown7
              obtain ⟨A7, c7, rfl⟩ := own_formT hown7
              have hd7 : Below wr.heap.size wr w7 := hd6.trans (hb7.mono hd6.size)
              have hown67 := own_belowT hown6 hb7
              refine hK.out _ _ (fun _ => HS.out _ hd7) ?_
              clear hK K
              try simp only [Act.put, List.setIfInBounds_toArray, List.set_cons_zero, List.set_cons_succ]
              refine' wpTail_one (i := 14) (o := _) (by kernel_rfl) ?ho5015 ?hw5015 (fun K hK => ?_)
              case ho5015 => (simp only [List.getElem?_toArray, List.getElem?_cons_succ, List.getElem?_cons_zero]; exact rfl)
              case hw5015 => rfl
              refine wp_append_any _ (.tmp 58) (.tmp 64) _ rfl wr.heap.size 3 i0 _ 1 8 Try.underlying22 hi0 hz0 hz1 hz2 rfl (by omega) _ nr _ rfl hown67 (w7).heap.size A7 nw c7 _ rfl (Reads.of_own hown7) (ints_oneT _) (by have := HUL.out; simp only [maxLen]; omega) (by have := HUL.out; omega) hd7.size ?_
              intro v8 w8 hown8 hg8 hat8
              have hown8 : w8.ownsRow wr.heap.size 3 1 v8 nu ((useL x.i).map iI) := by
                rw [HUE.out.2.2.1]
                unfold useL
                rw [List.map_append]
                exact hown8
              obtain ⟨A8, c8, rfl⟩ := own_formT hown8
              have hd8 : Below wr.heap.size wr w8 := hd7.grown hg8 hd7.size (fun k hk => (hown67.lt k hk).1)
              refine hK.out _ _ (fun _ => HS.out _ hd8) ?_
              clear hK K
              try simp only [Act.put, List.setIfInBounds_toArray, List.set_cons_zero, List.set_cons_succ]
              refine' wpTail_one (i := 15) (o := _) (by kernel_rfl) ?ho5016 ?hw5016 (fun K hK => ?_)
              case ho5016 => (simp only [List.getElem?_toArray, List.getElem?_cons_succ, List.getElem?_cons_zero]; exact rfl)
              case hw5016 => rfl
              go_simp
              refine hK.out _ _ (fun _ => HS.out _ hd8) ?_
              clear hK K
              refine wpTail_done (by kernel_rfl) ?_ _
              try simp only [Act.put, List.setIfInBounds_toArray, List.set_cons_zero, List.set_cons_succ]
              have HD8 := hide hd8
              have HO8 := hide (show IntsAt w8 (.slice A8 nu c8) (useL x.i) from IntsAt.own (by rw [← HUE.out.2.2.2]; exact hown8))
              clear hHeld hd8 hown8 hg8 hat8 hown67 hown7 hb7 hd7 hown6 hg6 hat6 hd6
              clear hemp hown5 hd5
              go_wp2_with fail
              clear q5 j1 j2
              have HB8 := hide (HWR.out.trans (HD8.out.mono HWR.out.size))
              obtain ⟨wo, hwo⟩ : ∃ wo : World, wo = wr := ⟨_, rfl⟩
              rw [← hwo] at *
              clear hwo
              go_loopw [4, 7] (fun tv jj wr => ∃ k i : Nat, i ≤ nu ∧ tv = .int .i64 k ∧ jj = .int .i64 i ∧ Hid (TopOk code k) ∧ Hid (IntsAt wr (.slice A8 nu c8) (useL x.i)) ∧ Hid (Below W1.heap.size W1 wr)) (fun _ jj _ => nu - (intOf jj).toNat)
              case atStart => exact ⟨k, 0, Nat.zero_le _, rfl, rfl, HTO, HO8, HB8⟩
              case round =>
                obtain ⟨k2, i, hi, rfl, rfl, HT2, HI2, HB2⟩ := hrel
                by_cases hlt2 : i < nu
                · have j3 : (i : Int) < (nu : Int) := by omega
                  have j4 : (0 : Int) ≤ (i : Int) := by omega
                  have q6 : IntKind.i64.wrap ((i : Int) + 1) = (i : Int) + 1 := IntWalk.i64_in _ (by have := HUL.out; omega)
                  obtain ⟨b2, o2, y, rfl, hb2l, hy, y0⟩ := HI2.out.at_ (k := i) (by rw [← HUE.out.2.2.2]; exact hlt2)
                  have hin := use_in (HGD.out.2.1 x (List.mem_of_getElem? HX.out)) (head_regs HGD.out.1) (List.mem_of_getElem? hy)
                  have hrg := (head_regs HGD.out.1)
                  obtain ⟨yn, rfl⟩ : ∃ yn : Nat, y = (yn : Int) := ⟨y.toNat, by omega⟩
                  have hy1 : ¬ (yn : Int) < 0 := by omega
                  have hy2 : ¬ p.regs ≤ (yn : Int) := by omega
                  have hd1 : decide ((yn : Int) < 0) = false := decide_eq_false hy1
                  have y5 : wr.cell? ⟨gp, 5, none⟩ = some (.int .i64 p.regs) := (HBP.out.below HB2.out HBP.out.lt).cell 5
                  have q7 : IntKind.i64.wrap ((yn : Int) + 1) = ((yn + 1 : Nat) : Int) := by rw [show (yn : Int) + 1 = ((yn + 1 : Nat) : Int) by omega]; exact IntWalk.i64_in _ (by omega)
                  have HT3 := hide (show TopOk code (max k2 (yn + 1)) from HT2.out.more (List.mem_of_getElem? HX.out) (List.mem_of_getElem? hy) (by omega))
                  have HKB := hide HT2.out.1
                  clear hy hin hrg
                  go_wp2_with fail
                  go_quiet (fail)
                  go_wp2_with fail
                  go_roundw
                  case rel => exact ⟨max k2 (yn + 1), i + 1, by omega, by (rw [show ((max k2 (yn + 1) : Nat) : Int) = max (k2 : Int) ((yn : Int) + 1) by omega]), by simp, HT3, hide (HI2.out.below (below_drewL (Below.refl _ _) _) (Nat.le_refl _)), hide (below_drewL HB2.out _)⟩
                  case measure => simp [intOf]; omega
                · have j3 : ¬ (i : Int) < (nu : Int) := by omega
                  go_wp2_with fail
                  go_roundw
                  case rel => exact ⟨k2, j + 1, by omega, rfl, by simp, HT2, HB2⟩
                  case measure => simp [intOf]; omega
            case sj5011 =>
              intro K hK
              go_simp
              (with_reducible refine (HRD.out wr.drew (Below.refl wr.heap.size wr).drew).mono ?_)
              rintro e w4 ⟨v5, rfl, hown4, hb4⟩
              rw [← HUE.out.1] at hown4
              obtain ⟨A4, c4, rfl⟩ := own_formT hown4
              have hd4 : Below wr.heap.size wr w4 := (below_drewL (Below.refl wr.heap.size wr) 1).trans hb4
              refine hK.out _ _ (fun _ => HS.out _ hd4) ?_
              clear hK K
              try simp only [Act.put, List.setIfInBounds_toArray, List.set_cons_zero, List.set_cons_succ]
              refine' wpTail_one (i := 0) (o := _) (by kernel_rfl) ?ho5017 ?hw5017 (fun K hK => ?_)
              case ho5017 => (simp only [List.getElem?_toArray, List.getElem?_cons_zero]; exact rfl)
              case hw5017 => rfl
              go_simp
              have hemp : (w4.alloc (.cells #[] 3)).ownsRow wr.heap.size 3 1 (.slice (some ⟨w4.heap.size, 0, none⟩) 0 0) 0 [] := World.ownsRow_made w4 #[] 0 hd4.size (by simp [maxLen]) (by simp)
              obtain ⟨w5, hw5⟩ : ∃ w5, w5 = w4.alloc (.cells #[] 3) := ⟨_, rfl⟩
              have hd5 : Below wr.heap.size wr w5 := by rw [hw5]; exact hd4.alloc hd4.size _
              have hown5 : w5.ownsRow wr.drew.heap.size 3 1 (.slice A4 nr c4) nr ((regsL (readS x.i)).map iI) := by rw [hw5]; exact own_belowT hown4 ((Below.refl _ _).alloc (Nat.le_refl _) _)
              refine hK.out _ _ (fun _ => HS.out _ (hd4.alloc hd4.size _)) ?_
              clear hK K
              rw [← hw5] at hemp ⊢
              clear hw5 hown4 hd4 hb4
              try simp only [Act.put, List.setIfInBounds_toArray, List.set_cons_zero, List.set_cons_succ]
              refine' wpTail_one (i := 7) (o := _) (by kernel_rfl) ?ho5018 ?hw5018 (fun K hK => ?_)
              case ho5018 => (simp only [List.getElem?_toArray, List.getElem?_cons_succ, List.getElem?_cons_zero]; exact rfl)
              case hw5018 => rfl
              refine wp_append_any _ (.tmp 51) (.tmp 57) _ rfl wr.heap.size 3 i0 _ 1 8 Try.underlying22 hi0 hz0 hz1 hz2 rfl (by omega) _ 0 [] rfl hemp (w5).heap.size A4 nr c4 _ rfl (Reads.of_own hown5) (ints_oneT _) (by have := HUL.out; simp only [maxLen]; omega) (by have := HUL.out; omega) hd5.size ?_
              intro v6 w6 hown6 hg6 hat6
              have hown6 : w6.ownsRow wr.heap.size 3 1 v6 nr ((regsL (readS x.i)).map iI) := by simpa using hown6
              obtain ⟨A6, c6, rfl⟩ := own_formT hown6
              have hd6 : Below wr.heap.size wr w6 := hd5.grown hg6 hd5.size (fun k hk => (hemp.lt k hk).1)
              refine hK.out _ _ (fun _ => HS.out _ hd6) ?_
              clear hK K
              try simp only [Act.put, List.setIfInBounds_toArray, List.set_cons_zero, List.set_cons_succ]
              refine' wpTail_one (i := 13) (o := _) (by kernel_rfl) ?ho5019 ?hw5019 (fun K hK => ?_)
              case ho5019 => (simp only [List.getElem?_toArray, List.getElem?_cons_succ, List.getElem?_cons_zero]; exact rfl)
              case hw5019 => rfl
              go_simp
              (with_reducible refine (HWR2.out w6 hd6).mono ?_)
              rintro e w7 ⟨v7, rfl, hown7, hb7⟩
              rw [← HUE.out.2.1] at hown7
              obtain ⟨A7, c7, rfl⟩ := own_formT hown7
              have hd7 : Below wr.heap.size wr w7 := hd6.trans (hb7.mono hd6.size)
              have hown67 := own_belowT hown6 hb7
              refine hK.out _ _ (fun _ => HS.out _ hd7) ?_
              clear hK K
              try simp only [Act.put, List.setIfInBounds_toArray, List.set_cons_zero, List.set_cons_succ]
              refine' wpTail_one (i := 14) (o := _) (by kernel_rfl) ?ho5020 ?hw5020 (fun K hK => ?_)
              case ho5020 => (simp only [List.getElem?_toArray, List.getElem?_cons_succ, List.getElem?_cons_zero]; exact rfl)
              case hw5020 => rfl
              refine wp_append_any _ (.tmp 58) (.tmp 64) _ rfl wr.heap.size 3 i0 _ 1 8 Try.underlying22 hi0 hz0 hz1 hz2 rfl (by omega) _ nr _ rfl hown67 (w7).heap.size A7 nw c7 _ rfl (Reads.of_own hown7) (ints_oneT _) (by have := HUL.out; simp only [maxLen]; omega) (by have := HUL.out; omega) hd7.size ?_
              intro v8 w8 hown8 hg8 hat8
              have hown8 : w8.ownsRow wr.heap.size 3 1 v8 nu ((useL x.i).map iI) := by
                rw [HUE.out.2.2.1]
                unfold useL
                rw [List.map_append]
                exact hown8
              obtain ⟨A8, c8, rfl⟩ := own_formT hown8
              have hd8 : Below wr.heap.size wr w8 := hd7.grown hg8 hd7.size (fun k hk => (hown67.lt k hk).1)
              refine hK.out _ _ (fun _ => HS.out _ hd8) ?_
              clear hK K
              try simp only [Act.put, List.setIfInBounds_toArray, List.set_cons_zero, List.set_cons_succ]
              refine' wpTail_one (i := 15) (o := _) (by kernel_rfl) ?ho5021 ?hw5021 (fun K hK => ?_)
              case ho5021 => (simp only [List.getElem?_toArray, List.getElem?_cons_succ, List.getElem?_cons_zero]; exact rfl)
              case hw5021 => rfl
              go_simp
              refine hK.out _ _ (fun _ => HS.out _ hd8) ?_
              clear hK K
              refine wpTail_done (by kernel_rfl) ?_ _
              try simp only [Act.put, List.setIfInBounds_toArray, List.set_cons_zero, List.set_cons_succ]
              have HD8 := hide hd8
              have HO8 := hide (show IntsAt w8 (.slice A8 nu c8) (useL x.i) from IntsAt.own (by rw [← HUE.out.2.2.2]; exact hown8))
              clear hHeld hd8 hown8 hg8 hat8 hown67 hown7 hb7 hd7 hown6 hg6 hat6 hd6
              clear hemp hown5 hd5
              go_wp2_with fail
              clear q5 j1 j2
              have HB8 := hide (HWR.out.trans (HD8.out.mono HWR.out.size))
              obtain ⟨wo, hwo⟩ : ∃ wo : World, wo = wr := ⟨_, rfl⟩
              rw [← hwo] at *
              clear hwo
              go_loopw [4, 7] (fun tv jj wr => ∃ k i : Nat, i ≤ nu ∧ tv = .int .i64 k ∧ jj = .int .i64 i ∧ Hid (TopOk code k) ∧ Hid (IntsAt wr (.slice A8 nu c8) (useL x.i)) ∧ Hid (Below W1.heap.size W1 wr)) (fun _ jj _ => nu - (intOf jj).toNat)
              case atStart => exact ⟨k, 0, Nat.zero_le _, rfl, rfl, HTO, HO8, HB8⟩
              case round =>
                obtain ⟨k2, i, hi, rfl, rfl, HT2, HI2, HB2⟩ := hrel
                by_cases hlt2 : i < nu
                · have j3 : (i : Int) < (nu : Int) := by omega
                  have j4 : (0 : Int) ≤ (i : Int) := by omega
                  have q6 : IntKind.i64.wrap ((i : Int) + 1) = (i : Int) + 1 := IntWalk.i64_in _ (by have := HUL.out; omega)
                  obtain ⟨b2, o2, y, rfl, hb2l, hy, y0⟩ := HI2.out.at_ (k := i) (by rw [← HUE.out.2.2.2]; exact hlt2)
                  have hin := use_in (HGD.out.2.1 x (List.mem_of_getElem? HX.out)) (head_regs HGD.out.1) (List.mem_of_getElem? hy)
                  have hrg := (head_regs HGD.out.1)
                  obtain ⟨yn, rfl⟩ : ∃ yn : Nat, y = (yn : Int) := ⟨y.toNat, by omega⟩
                  have hy1 : ¬ (yn : Int) < 0 := by omega
                  have hy2 : ¬ p.regs ≤ (yn : Int) := by omega
                  have hd1 : decide ((yn : Int) < 0) = false := decide_eq_false hy1
                  have y5 : wr.cell? ⟨gp, 5, none⟩ = some (.int .i64 p.regs) := (HBP.out.below HB2.out HBP.out.lt).cell 5
                  have q7 : IntKind.i64.wrap ((yn : Int) + 1) = ((yn + 1 : Nat) : Int) := by rw [show (yn : Int) + 1 = ((yn + 1 : Nat) : Int) by omega]; exact IntWalk.i64_in _ (by omega)
                  have HT3 := hide (show TopOk code (max k2 (yn + 1)) from HT2.out.more (List.mem_of_getElem? HX.out) (List.mem_of_getElem? hy) (by omega))
                  have HKB := hide HT2.out.1
                  clear hy hin hrg
                  go_wp2_with fail
                  go_quiet (fail)
                  go_wp2_with fail
                  go_roundw
                  case rel => exact ⟨max k2 (yn + 1), i + 1, by omega, by (rw [show ((max k2 (yn + 1) : Nat) : Int) = max (k2 : Int) ((yn : Int) + 1) by omega]), by simp, HT3, hide (HI2.out.below (below_drewL (Below.refl _ _) _) (Nat.le_refl _)), hide (below_drewL HB2.out _)⟩
                  case measure => simp [intOf]; omega
                · have j3 : ¬ (i : Int) < (nu : Int) := by omega
                  go_wp2_with fail
                  go_roundw
                  case rel => exact ⟨k2, j + 1, by omega, rfl, by simp, HT2, HB2⟩
                  case measure => simp [intOf]; omega
          · have j1 : ¬ (j : Int) < (m : Int) := by omega
            have HBPR := hide (HBP.out.below HWR.out HBP.out.lt)
            obtain ⟨gq, hgq⟩ : ∃ gq, gq = wr.heap.size := ⟨_, rfl⟩
            have HGQ := hide hgq
            clear hgq
            go_upto_region 24 with (first
              | (refine wpList_load_blk (.tmp 1) HBPR.out HPV.out Try.underlying53 rfl pr_size rfl (by kernel_rfl) rfl ?_)
              | (refine wpList_store_new 53 (.tmp 8) (.tmp 93) p.arr PV HPV.out pr_size HONE.out rfl rfl rfl rfl rfl rfl ?_
                 intro W3 hbq hb3
                 rw [← HGQ.out] at hbq
                 have HBQ := hide hbq
                 have HB3 := hide hb3
                 clear hbq hb3))
            rw [← HGQ.out]
            clear y6
            obtain ⟨pq, hpq⟩ : ∃ pq : Pr, pq = { p with regs := (k : Int) - 1 } := ⟨_, rfl⟩
            have y5 : W3.cell? ⟨gq, 5, none⟩ = some (.int .i64 p.regs) := HBQ.out.cell 5
            have f5 := HBQ.out.frozen 5
            obtain ⟨kr, hkr⟩ : ∃ kr : Int, kr = (k : Int) - 1 := ⟨_, rfl⟩
            have q1 : IntKind.i64.wrap ((k : Int) - 1) = kr := by rw [hkr]; exact IntWalk.i64_in _ (by have := HTO.out.1; omega)
            rw [← hkr] at hpq
            obtain ⟨W4, hW4⟩ : ∃ W4, W4 = W3.setCell ⟨gq, 5, none⟩ (.int .i64 kr) := ⟨_, rfl⟩
            have hbq4 : Blk W4 gq 53 pq.arr := by rw [hW4, hpq]; exact HBQ.out.set_ 5 _
            have hb4 : Below wr.heap.size wr W4 := by rw [hW4]; exact HB3.out.setCell (p := ⟨gq, 5, none⟩) (by show wr.heap.size ≤ gq; rw [HGQ.out]; exact Nat.le_refl _) _
            have HW4 := hide hW4
            have HBQ4 := hide hbq4
            have HB4 := hide (HWR.out.trans (hb4.mono HWR.out.size))
            have HGW := hide (show W1.heap.size ≤ gq by rw [HGQ.out]; exact HWR.out.size)
            have HPQ := hide hpq
            have HKR := hide hkr
            have HBP4 := hide (HBPR.out.below hb4 HBPR.out.lt)
            clear hW4 hbq4 hb4 hpq hkr HBPR HB3 HBQ
            go_upto_region 25 with (fail)
            rw [← HW4.out]
            clear y5 f5 q1
            obtain ⟨gr, hgr⟩ : ∃ gr, gr = W4.heap.size := ⟨_, rfl⟩
            have HGR := hide hgr
            clear hgr
            go_upto_region 26 with (first
              | (refine wpList_load_blk (.tmp 1) HBP4.out HPV.out Try.underlying53 rfl pr_size rfl (by kernel_rfl) rfl ?_)
              | (refine wpList_store_new 53 (.tmp 9) (.tmp 97) p.arr PV HPV.out pr_size HONE.out rfl rfl rfl rfl rfl rfl ?_
                 intro W5 hbr hb5
                 rw [← HGR.out] at hbr
                 have HBR := hide hbr
                 have HB5 := hide (HB4.out.trans (hb5.mono HB4.out.size))
                 have HBQ5 := hide (HBQ4.out.below hb5 HBQ4.out.lt)
                 have HNE := hide (show gq ≠ gr by have := HBQ4.out.lt; have := HGR.out; omega)
                 have HGW2 := hide (show W1.heap.size ≤ gr by rw [HGR.out]; exact HB4.out.size)
                 clear hbr hb5))
            rw [← HGR.out]
            have hcv5 := HOK.out.cv.below HB5.out (Nat.le_refl _)
            rw [HV.out.2.1] at hcv5
            have HR5 := hide ((RowAt.reads IV.enc_length (by omega) hcv5).2.alloc (Nat.le_refl _) (.cells #[] 39))
            have y6 : (W5.alloc (.cells #[] 39)).cell? ⟨gp, 6, none⟩ = some (.slice Ac m cc) := by rw [← HV.out.2.1]; exact ((HBP.out.below HB5.out HBP.out.lt).alloc _).cell 6
            have HEM := hide (show (W5.alloc (.cells #[] 39)).ownsRow W5.heap.size 39 22 (.slice (some ⟨W5.heap.size, 0, none⟩) 0 0) 0 [] from World.ownsRow_made W5 #[] 0 (Nat.le_refl _) (by simp [maxLen]) (by simp))
            clear hcv5
            go_upto_region 27 with (first
              | (at_builtin
                 refine wpList_append_any _ rfl (.tmp 98) (.tmp 100) _ rfl W5.heap.size 39 ii0 _ 22 224 Try.underlying43 hii0 hiz0 hiz1 hiz2 rfl (by omega) (.slice (some ⟨W5.heap.size, 0, none⟩) 0 0) 0 [] rfl HEM.out W5.heap.size Ac m cc _ rfl HR5.out (inss_one HOK.out.ok) (by have := HMB.out; simp only [maxLen]; omega) (by have := HMB.out; omega) (by simp) ?_
                 intro v6 w6 hown6 hg6 hat6
                 have hown6 : w6.ownsRow W5.heap.size 39 22 v6 m (code.flatMap IV.enc) := by simpa using hown6
                 obtain ⟨A6, c6, rfl⟩ := own_formT hown6
                 have hb6 : Below W5.heap.size W5 w6 := ((Below.refl _ _).alloc (Nat.le_refl _) _).grown hg6 (by simp) (by simp [Value.ownBlock])
                 obtain ⟨W7, hW7⟩ : ∃ W7, W7 = w6.alloc (.cells #[.int .i64 40, .int .i64 0, .int .i64 0, .int .i64 0, .int .i64 0, .int .i64 0, .string ⟨#[]⟩, .int .i64 0, .int .i64 0, .int .i64 0, .int .i64 0, .string ⟨#[]⟩, .slice none 0 0, .int .i64 0, .int .i64 0, .slice none 0 0, .int .i64 (-1), .int .i64 0, .int .i64 0, .int .i64 0, .int .i64 0, .int .i64 0] 39) := ⟨_, rfl⟩
                 have hb67 : Below w6.heap.size w6 W7 := by rw [hW7]; exact (Below.refl _ _).alloc (Nat.le_refl _) _
                 have HB7 := hide (hb6.trans (hb67.mono hb6.size))
                 have HC7 := hide (show Blk W7 w6.heap.size 39 #[.int .i64 40, .int .i64 0, .int .i64 0, .int .i64 0, .int .i64 0, .int .i64 0, .string ⟨#[]⟩, .int .i64 0, .int .i64 0, .int .i64 0, .int .i64 0, .string ⟨#[]⟩, .slice none 0 0, .int .i64 0, .int .i64 0, .slice none 0 0, .int .i64 (-1), .int .i64 0, .int .i64 0, .int .i64 0, .int .i64 0, .int .i64 0] by rw [hW7]; exact Blk.new _ _ _)
                 have HO7 := hide (own_belowT hown6 hb67)
                 have HZ7 := hide (show W7.heap.size = w6.heap.size + 1 by rw [hW7]; simp)
                 have HW7 := hide hW7
                 clear hown6 hg6 hat6 hb6 hb67 hW7 y6)
              | (refine wpList_buildSlice rfl 43 39 1 _ rfl #[.int .i64 40, .int .i64 0, .int .i64 0, .int .i64 0, .int .i64 0, .int .i64 0, .string ⟨#[]⟩, .int .i64 0, .int .i64 0, .int .i64 0, .int .i64 0, .string ⟨#[]⟩, .slice none 0 0, .int .i64 0, .int .i64 0, .slice none 0 0, .int .i64 (-1), .int .i64 0, .int .i64 0, .int .i64 0, .int .i64 0, .int .i64 0] ii0 _ Try.underlying43 hii0 hiz0 (by rw [hiz1]; decide) (by rw [hiz1]; decide) (by rw [hiz1]; kernel_rfl) ?_
                 rw [← HW7.out])
              | (at_builtin
                 refine wpList_append_any _ rfl (.tmp 101) (.tmp 103) _ rfl W5.heap.size 39 ii0 _ 22 224 Try.underlying43 hii0 hiz0 hiz1 hiz2 rfl (by omega) (.slice A6 m c6) m _ rfl HO7.out (w6.heap.size + 1) (some ⟨w6.heap.size, 0, none⟩) 1 1 ((iNop.arr (.slice none 0 0) (.slice none 0 0)).toList) rfl ?rd ?on ?b1 ?b2 ?sz ?_
                 case rd => exact ⟨rfl, fun _ => ⟨_, rfl, Nat.lt_succ_self _, fun q u hu => by rw [Addr.add_lit, Nat.zero_add, HC7.out.cell q]; simpa [iNop] using hu⟩⟩
                 case on => exact nop_one
                 case b1 => (have := HMB.out; simp only [maxLen]; omega)
                 case b2 => (have := HMB.out; omega)
                 case sz => exact HB7.out.size
                 intro v8 w8 hown8 hg8 hat8
                 have hown8 : w8.ownsRow W5.heap.size 39 22 v8 (m + 1) ((code ++ [(⟨iNop, .slice none 0 0, .slice none 0 0⟩ : IV)]).flatMap IV.enc) := by rw [List.flatMap_append]; exact hown8
                 obtain ⟨A8, c8, rfl⟩ := own_formT hown8
                 have hb8 : Below W5.heap.size W5 w8 := HB7.out.grown hg8 HB7.out.size (fun k hk => (HO7.out.lt k hk).1)
                 have hbr8 := HBR.out.below hb8 HBR.out.lt
                 have hbq8 := HBQ5.out.below hb8 HBQ5.out.lt
                 have y8 : w8.cell? ⟨gr, 6, none⟩ = some p.cv := hbr8.cell 6
                 have f8 := hbr8.frozen 6
                 obtain ⟨W9, hW9⟩ : ∃ W9, W9 = w8.setCell ⟨gr, 6, none⟩ (.slice A8 (m + 1) c8) := ⟨_, rfl⟩
                 obtain ⟨pr, hpr⟩ : ∃ pr : Pr, pr = { p with cv := .slice A8 (m + 1) c8 } := ⟨_, rfl⟩
                 have HBR9 := hide (show Blk W9 gr 53 pr.arr by rw [hW9, hpr]; exact hbr8.set_ 6 _)
                 have HBQ9 := hide (show Blk W9 gq 53 pq.arr by rw [hW9]; exact hbq8.far (p := ⟨gr, 6, none⟩) HNE.out _)
                 have HO9 := hide (show W9.ownsRow W5.heap.size 39 22 (.slice A8 (m + 1) c8) (m + 1) ((code ++ [(⟨iNop, .slice none 0 0, .slice none 0 0⟩ : IV)]).flatMap IV.enc) by rw [hW9]; exact ownsRow_setCell_other (a := ⟨gr, 6, none⟩) hown8 (own_blk_ne hown8 hbr8 (by decide)) _)
                 have HB9 := hide (show Below W1.heap.size W1 W9 by rw [hW9]; exact (HB5.out.trans (hb8.mono HB5.out.size)).setCell (p := ⟨gr, 6, none⟩) HGW2.out _)
                 have HPR := hide hpr
                 have HW9 := hide hW9
                 clear hown8 hg8 hat8 hb8 hbr8 hbq8 hpr hW9))
            rw [← HW9.out]
            have hok9 := HOK.out.below HB9.out (Nat.le_refl _)
            have hokq : PrOk W9 pq hs code ns := by rw [HPQ.out]; exact ⟨hok9.hv, hok9.cv, hok9.ok, hok9.sv⟩
            have HOKR := hide (show PrOk W9 pr hs (code ++ [(⟨iNop, .slice none 0 0, .slice none 0 0⟩ : IV)]) ns by
              rw [HPR.out]
              refine ⟨hok9.hv, RowAt.own IV.enc_length (by rw [List.length_append, ← HM.out.1]; exact HO9.out), fun x hx => ?_, hok9.sv⟩
              rcases List.mem_append.1 hx with hx | hx
              · exact hok9.ok x hx
              · rw [List.mem_singleton.1 hx]
                exact ok_nil W9 iNop rfl rfl)
            have HGQ9 := hide (good_any pq hs code ns W9 hokq (by have := HM.out; have := HMB.out; omega) (fun x hx => by have := HL.out x hx; omega))
            have hfq : goodP pq hs code ns = false := by
              rcases HTO.out.2 with hk0 | ⟨x, hx, hm⟩
              · exact good_neg (by rw [HPQ.out]; show kr < 0; rw [HKR.out]; omega)
              · refine good_not_regs hx ?_
                rw [HPQ.out]
                show registersB kr x.i = false
                rw [HKR.out]
                exact use_cut (HGD.out.2.1 x hx) (head_regs HGD.out.1) hm
            rw [hfq] at HGQ9
            have HGR9 := hide (fun W (hW : Below W9.heap.size W9 W) => good_any pr hs (code ++ [(⟨iNop, .slice none 0 0, .slice none 0 0⟩ : IV)]) ns W (HOKR.out.below hW (Nat.le_refl _)) (by rw [List.length_append, ← HM.out.1]; have := HMB.out; show m + 1 ≤ 1000; omega) (fun x hx => by
              rcases List.mem_append.1 hx with hx | hx
              · have := HL.out x hx; omega
              · rw [List.mem_singleton.1 hx]
                exact ⟨by decide, by decide⟩))
            have hfr : goodP pr hs (code ++ [(⟨iNop, .slice none 0 0, .slice none 0 0⟩ : IV)]) ns = false := good_last _ ends_nop
            rw [hfr] at HGR9
            obtain ⟨VQ, hVQ⟩ : ∃ VQ, VQ = pq.val := ⟨_, rfl⟩
            obtain ⟨VR, hVR⟩ : ∃ VR, VR = pr.val := ⟨_, rfl⟩
            have HVQ := hide hVQ
            have HVR := hide hVR
            rw [← hVQ] at HGQ9
            rw [← hVR] at HGR9
            clear hok9 hokq hfq hfr hVQ hVR y8 f8
            go_wp2_with (first
              | (refine wpList_load_blk (.tmp 8) HBQ9.out HVQ.out Try.underlying53 rfl pr_size rfl (by kernel_rfl) rfl ?_)
              | (refine wp_load_blk (.tmp 8) HBQ9.out HVQ.out Try.underlying53 rfl pr_size rfl rfl ?_))
            refine HGQ9.out.mono ?_
            rintro e w10 ⟨rfl, hb10⟩
            have HB10 := hide hb10
            have HBR10 := hide (HBR9.out.below hb10 HBR9.out.lt)
            have HGR10 := hide (HGR9.out w10 hb10)
            have y5 : w10.cell? ⟨gq, 5, none⟩ = some (.int .i64 kr) := by
              have h := (HBQ9.out.below hb10 HBQ9.out.lt).cell 5
              rw [HPQ.out] at h
              exact h
            clear hb10
            by_cases hk0 : (0 : Int) < (k : Int)
            · have hd0 : decide ((0 : Int) < (k : Int)) = true := decide_eq_true hk0
              go_wp2_with (first
                | (refine wpList_load_blk (.tmp 9) HBR10.out HVR.out Try.underlying53 rfl pr_size rfl (wanted_of 11 117 true rfl rfl rfl (by first | rfl | simp)) rfl ?_))
              refine HGR10.out.mono ?_
              rintro e w11 ⟨rfl, hb11⟩
              go_wp2_with fail
              go_ret
              exact ⟨rfl, HB1.out.trans ((HB9.out.trans ((HB10.out.trans (hb11.mono HB10.out.size)).mono HB9.out.size)).mono HB1.out.size)⟩
            · have hd0 : decide ((0 : Int) < (k : Int)) = false := decide_eq_false hk0
              have hkr0 : kr < 0 := by have := HKR.out; omega
              have hd1 : decide (kr < 0) = true := decide_eq_true hkr0
              go_wp2_with (first
                | (refine wpList_load_blk (.tmp 9) HBR10.out HVR.out Try.underlying53 rfl pr_size rfl (wanted_of 11 117 true rfl rfl rfl (by first | rfl | simp)) rfl ?_))
              refine HGR10.out.mono ?_
              rintro e w11 ⟨rfl, hb11⟩
              go_wp2_with fail
              go_ret
              exact ⟨rfl, HB1.out.trans ((HB9.out.trans ((HB10.out.trans (hb11.mono HB10.out.size)).mono HB9.out.size)).mono HB1.out.size)⟩
end Go.Proofs.Ytfdjomkkagommaa
