/- The truth that a register holds (the reference's truth); conditions: the func is in memory, its registers its own. -/
import Derived.Test.YtaaadbaakhjkcaaRxI
namespace Go.Proofs.Ytaaadbaakhjkcaa
open Go.RowKit Go.WideShapes Go.ChangeShapes
set_option linter.unusedVariables false
set_option linter.unusedSimpArgs false
set_option maxRecDepth 100000

theorem part_one {d regs : Int} (h : badSp regs ⟨d, 1⟩ = false) (hr : 0 ≤ regs ∧ regs ≤ 65536) : partS ⟨d, 1⟩ 1 = [d] := by
  have hw : IntKind.i64.wrap (regs - 1) = regs - 1 := IntWalk.i64_in _ (by omega)
  unfold badSp at h
  simp only [hw] at h
  simp at h
  have hd : IntKind.i64.wrap (d + 0) = d := by rw [Int.add_zero]; exact IntWalk.i64_in _ (by omega)
  unfold partS
  simpa using hd
theorem regsL_one (s : Sp) : regsL [s] = partS s s.n.toNat := by unfold regsL; simp
theorem regsL_run (d n : Int) : regsL [⟨d, runN n⟩] = runL d n := by rw [regsL_one]; rfl
theorem regsL_arms (l : List Arm) : regsL (armsW l) = l.flatMap armWr := by
  induction l with
  | nil => rfl
  | cons x l ih =>
    have h1 : armsW (x :: l) = armW x ++ armsW l := rfl
    have h2 : regsL (armW x ++ armsW l) = regsL (armW x) ++ regsL (armsW l) := by unfold regsL; rw [List.flatMap_append]
    rw [h1, h2, ih, List.flatMap_cons]
    congr 1
    unfold armW armWr
    split
    · exact regsL_run _ _
    · rfl
theorem wrot_one {i : Ins} (h : i.op = 1 ∨ i.op = 3 ∨ i.op = 6 ∨ i.op = 9 ∨ i.op = 10 ∨ i.op = 14 ∨ i.op = 15 ∨ i.op = 16 ∨ i.op = 17 ∨ i.op = 18 ∨ i.op = 27 ∨ i.op = 28 ∨ i.op = 29 ∨ i.op = 30 ∨ i.op = 31 ∨ i.op = 32 ∨ i.op = 33 ∨ i.op = 39) : wrotL i = [i.d] := by
  rcases h with h | h | h | h | h | h | h | h | h | h | h | h | h | h | h | h | h | h <;> simp [wrotL, rowR, h, lettersL, letL]
theorem wrot_run {i : Ins} (h : i.op = 2 ∨ i.op = 11 ∨ i.op = 21 ∨ i.op = 35) : wrotL i = runL i.d i.n := by
  rcases h with h | h | h | h <;> simp [wrotL, rowR, h, lettersL, letL]
theorem wrot_proc {i : Ins} (h : i.op = 22) : wrotL i = runL i.d i.m := by simp [wrotL, rowR, h, lettersL, letL]
theorem wrot_none {i : Ins} (h : 1 ≤ i.op ∧ i.op ≤ 41) (h1 : ¬ (i.op = 1 ∨ i.op = 3 ∨ i.op = 6 ∨ i.op = 9 ∨ i.op = 10 ∨ i.op = 14 ∨ i.op = 15 ∨ i.op = 16 ∨ i.op = 17 ∨ i.op = 18 ∨ i.op = 27 ∨ i.op = 28 ∨ i.op = 29 ∨ i.op = 30 ∨ i.op = 31 ∨ i.op = 32 ∨ i.op = 33 ∨ i.op = 39)) (h2 : ¬ (i.op = 2 ∨ i.op = 11 ∨ i.op = 21 ∨ i.op = 35)) (h3 : ¬ i.op = 22) (h4 : ¬ i.op = 37) : wrotL i = [] := by
  have hc : i.op = 4 ∨ i.op = 5 ∨ i.op = 7 ∨ i.op = 8 ∨ i.op = 12 ∨ i.op = 13 ∨ i.op = 19 ∨ i.op = 20 ∨ i.op = 23 ∨ i.op = 24 ∨ i.op = 25 ∨ i.op = 26 ∨ i.op = 34 ∨ i.op = 36 ∨ i.op = 38 ∨ i.op = 40 ∨ i.op = 41 := by omega
  clear h h1 h2 h3 h4
  rcases hc with h | h | h | h | h | h | h | h | h | h | h | h | h | h | h | h | h <;> simp [wrotL, rowR, h, lettersL, letL]
theorem wrot_eq {i : Ins} {regs : Int} (h : 1 ≤ i.op ∧ i.op ≤ 41) (hb : registersB regs i = true) (hr : 0 ≤ regs ∧ regs ≤ 65536) : wrotL i = writesL i := by
  unfold writesL
  unfold registersB at hb
  rw [Bool.not_eq_true', List.any_append, Bool.or_eq_false_iff] at hb
  have hb := hb.2
  unfold writtenS at hb ⊢
  by_cases h1 : i.op = 1 ∨ i.op = 3 ∨ i.op = 6 ∨ i.op = 9 ∨ i.op = 10 ∨ i.op = 14 ∨ i.op = 15 ∨ i.op = 16 ∨ i.op = 17 ∨ i.op = 18 ∨ i.op = 27 ∨ i.op = 28 ∨ i.op = 29 ∨ i.op = 30 ∨ i.op = 31 ∨ i.op = 32 ∨ i.op = 33 ∨ i.op = 39
  · rw [if_pos h1] at hb ⊢
    rw [wrot_one h1, regsL_one]
    exact (part_one (by simpa using hb) hr).symm
  rw [if_neg h1] at hb ⊢
  by_cases h2 : i.op = 2 ∨ i.op = 11 ∨ i.op = 21 ∨ i.op = 35
  · rw [if_pos h2, wrot_run h2, regsL_run]
  rw [if_neg h2] at hb ⊢
  by_cases h3 : i.op = 22
  · rw [if_pos h3, wrot_proc h3, regsL_run]
  rw [if_neg h3] at hb ⊢
  by_cases h4 : i.op = 37
  · rw [if_pos h4, regsL_arms]
    unfold wrotL
    rw [if_pos h4]
  rw [if_neg h4, wrot_none h h1 h2 h3 h4]
  rfl
set_option maxHeartbeats 16000000 in
theorem truth_any (p : Pr) (hs : List Bool) (code : List IV) (ns : Nat) (fr pc : Nat) (a : Int) (w : World) (h : PrOk w p hs code ns) (hl : ∀ x ∈ code, x.i.arms.length ≤ 100 ∧ x.i.args.length ≤ 100) (hn : code.length ≤ 1000) (hw : ∀ x ∈ code, (1 ≤ x.i.op ∧ x.i.op ≤ 41) ∧ wrotL x.i = writesL x.i) (hpc : pc ≤ code.length) (hfr : fr ≤ pc) :
    Calls Try.prog 75 #[p.val, .int .i64 (fr : Int), .int .i64 (pc : Int), .int .i64 a] w (TstP w (tstB (lastW code a fr pc))) := by
  obtain ⟨gp, hgp⟩ : ∃ gp, gp = w.heap.size := ⟨_, rfl⟩
  obtain ⟨W1, hW1⟩ : ∃ W1, W1 = w.alloc (.cells p.arr 29) := ⟨_, rfl⟩
  have hb1 : Below w.heap.size w W1 := by rw [hW1]; exact (Below.refl _ _).alloc (Nat.le_refl _) _
  have HBP := hide (show Blk W1 gp 29 p.arr by rw [hW1, hgp]; exact Blk.new _ _ _)
  have HOK := hide (h.below hb1 (Nat.le_refl _))
  obtain ⟨Ac, cc, hcv⟩ := h.cv.form
  obtain ⟨n, hnn⟩ : ∃ n, n = code.length := ⟨_, rfl⟩
  rw [← hnn] at hcv hn hpc
  have HY6 := hide (show ∀ wr, Below W1.heap.size W1 wr → wr.cell? ⟨gp, 6, none⟩ = some (.slice Ac n cc) from fun wr hw => by
    have h := (HBP.out.below hw HBP.out.lt).cell 6
    rw [h, ← hcv]
    rfl)
  have HIC := hide (show ∀ wr, Below W1.heap.size W1 wr → InssAt wr (.slice Ac n cc) code from fun wr hw => by
    have h := HOK.out.cv
    rw [hcv] at h
    exact h.below hw (Nat.le_refl _))
  have HIO := hide (show ∀ wr, Below W1.heap.size W1 wr → ∀ x ∈ code, InsOk wr x.i x.av x.rv from fun wr hw x hx => (HOK.out.ok x hx).below hw (Nat.le_refl _))
  have HSM := hide hl
  have HWE := hide hw
  have HNN := hide (And.intro hnn (And.intro hn (And.intro hpc hfr)))
  have HGP := hide hgp
  have HW1 := hide hW1
  have HB1 := hide hb1
  obtain ⟨PV, hPV⟩ : ∃ PV, PV = p.val := ⟨_, rfl⟩
  have HPV := hide (show PV = .agg p.arr from hPV)
  have q1 : IntKind.i64.wrap ((pc : Int) - 1) = (pc : Int) - 1 := IntWalk.i64_in _ (by omega)
  have HWY := hide (show Below W1.heap.size W1 W1 from Below.refl _ _)
  rw [← hPV]
  clear h hl hw hn hnn hgp hW1 hb1 hcv hpc hfr hPV
  go_enter Try.func75, Try.ntmps75
  go_upto_region 1 with (fail)
  rw [HPV.out, ← HW1.out, ← HGP.out, ← HPV.out]
  go_upto_region 2 with (fail)
  clear q1
  go_loopw [10] (fun kk wr => ∃ (v : Int) (j : Nat), kk = .int .i64 v ∧ Hid (v = (j : Int) - 1) ∧ fr ≤ j ∧ j ≤ pc ∧ Hid (lastW code a fr pc = lastW code a fr j) ∧ Hid (Below W1.heap.size W1 wr)) (fun kk _ => (intOf kk + 1).toNat)
  case atStart => exact ⟨_, pc, rfl, hide rfl, HNN.out.2.2.2, Nat.le_refl _, hide rfl, HWY⟩
  case round =>
    clear HWY
    obtain ⟨v, j, rfl, HV, hj1, hj2, HLW, HWR⟩ := hrel
    by_cases hfj : fr < j
    · obtain ⟨j', hj'⟩ : ∃ j', j = j' + 1 := ⟨j - 1, by omega⟩
      obtain rfl : v = (j' : Int) := by rw [HV.out, hj']; omega
      have i1 : (fr : Int) ≤ (j' : Int) := by omega
      have i2 : (0 : Int) ≤ (j' : Int) := by omega
      have i3 : (j' : Int) < (n : Int) := by have := HNN.out; omega
      have q5 : IntKind.i64.wrap ((j' : Int) - 1) = (j' : Int) - 1 := IntWalk.i64_in _ (by have := HNN.out; omega)
      obtain ⟨b0, of, y, hAc, hbl, hy, hcells⟩ := RowAt.at_ (HIC.out wr HWR.out) (i := j') (by have := HNN.out; omega)
      subst hAc
      have HCE := hide (show wr.rangeAt b0 (of + j' * 22) (IV.enc y) from hcells)
      obtain ⟨V, hV⟩ : ∃ V, V = Ins.val y.i y.av y.rv := ⟨_, rfl⟩
      have HVI := hide hV
      have hym := List.mem_of_getElem? hy
      have hiy := HIO.out wr HWR.out y hym
      have HON := hide (ins_one hiy)
      have HLX := hide (HSM.out y hym)
      have HLJ := hide (show lastW code a fr pc = if a ∈ writesL y.i then some y else lastW code a fr j' by rw [HLW.out, hj', lastW_at (by omega) hy])
      have y6 := HY6.out wr HWR.out
      have HJ := hide (show fr ≤ j' ∧ j' < pc by omega)
      have HYJ := hide hy
      obtain ⟨L, hL⟩ : ∃ L, L = writesL y.i := ⟨_, rfl⟩
      have hwy := HWE.out y hym
      have HWC := hide (rwrites_any y.i y.av y.rv wr hiy hwy.1 HLX.out)
      rw [hwy.2, ← hL, ← (show V = Ins.val y.i y.av y.rv from HVI.out)] at HWC
      have HLL := hide (show L.length ≤ 1000000000 by rw [hL]; exact writesL_len y.i HLX.out.1)
      rw [← hL] at HLJ
      clear hfj hj' hj1 hj2 hbl hy hcells hV hiy HV HLW hym hwy hL
      go_wp2_with (first
        | (refine wpList_load_midW 45 (.tmp 24) b0 (of + j' * 22) (IV.enc y) V HCE.out HVI.out Try.underlying45 rfl ins_size rfl (by kernel_rfl) rfl ?_))
      refine HWC.out.mono ?_
      rintro e w3 ⟨v3, rfl, hown3, hb3⟩
      obtain ⟨ml, hml⟩ : ∃ ml, ml = L.length := ⟨_, rfl⟩
      rw [← hml] at hown3
      obtain ⟨A3, c3, rfl⟩ := own_formT hown3
      have HI3 := hide (show IntsAt w3 (.slice A3 ml c3) L from IntsAt.own (by rw [← hml]; exact hown3))
      have HB3 := hide (HWR.out.trans (hb3.mono HWR.out.size))
      have HBR := hide (show Below w3.heap.size w3 w3 from Below.refl _ _)
      have HML := hide hml
      clear hown3 hb3 hml y6
      go_upto_region 6 with (fail)
      go_loopw [12] (fun tt wq => ∃ t : Nat, t ≤ ml ∧ tt = .int .i64 (t : Int) ∧ Hid (a ∉ L.take t) ∧ Hid (Below w3.heap.size w3 wq)) (fun tt _ => ml - (intOf tt).toNat)
      case atStart => exact ⟨0, Nat.zero_le _, rfl, hide (by simp), HBR⟩
      case round =>
        obtain ⟨t, ht, rfl, HNT, HWQ⟩ := hrel
        by_cases htn : t < ml
        · have t1 : (t : Int) < (ml : Int) := by omega
          have t2 : (0 : Int) ≤ (t : Int) := by omega
          have q6 : IntKind.i64.wrap ((t : Int) + 1) = (t : Int) + 1 := IntWalk.i64_in _ (by have := HML.out; have := HLL.out; omega)
          obtain ⟨b3, o3, z, hA3, hl3, hz, y3⟩ := (HI3.out.below HWQ.out (Nat.le_refl _)).at_ (k := t) (by rw [← HML.out]; exact htn)
          subst hA3
          by_cases hza : z = a
          · have HTR := hide (show tstB (lastW code a fr pc) = (decide (y.i.vn ≠ 0), decide (y.i.op = 1) && decide (y.i.vk = 2)) by
              rw [HLJ.out, if_pos (by rw [← hza]; exact List.mem_of_getElem? hz)]
              rfl)
            have bz : (z == a) = true := by simp [hza]
            have HWW := hide (HB3.out.trans (HWQ.out.mono HB3.out.size))
            have y6 := HY6.out wr HWW.out
            obtain ⟨b5, of5, y', hA5, hbl5, hy5, hcells5⟩ := RowAt.at_ (HIC.out wr HWW.out) (i := j') (by have := HNN.out; have := HJ.out; omega)
            obtain rfl : y = y' := by
              have h1 := HYJ.out
              rw [hy5] at h1
              injection h1 with h1
              exact h1.symm
            injection hA5 with hA5
            injection hA5 with e1 e2
            subst e1 e2
            have HCE5 := hide (show wr.rangeAt b0 (of + j' * 22) (IV.enc y) from hcells5)
            obtain ⟨gi, hgi⟩ : ∃ gi, gi = wr.heap.size := ⟨_, rfl⟩
            have HGI := hide hgi
            clear hbl5 hy5 hcells5 hgi hza hz hl3 ht htn
            go_upto_region 10 with (first
              | (refine wpList_load_midW 45 (.tmp 42) b0 (of + j' * 22) (IV.enc y) V HCE5.out HVI.out Try.underlying45 rfl ins_size rfl (by kernel_rfl) rfl ?_)
              | (refine wpList_store_new 45 (.tmp 13) (.tmp 43) (y.i.arr y.av y.rv) V HVI.out ins_size HON.out rfl rfl rfl rfl rfl rfl ?_
                 intro W2 hbg hb2
                 rw [← HGI.out] at hbg
                 have HBI := hide hbg
                 have HB2 := hide hb2
                 clear hbg hb2))
            rw [← HGI.out]
            obtain ⟨fo, hfo⟩ : ∃ fo, fo = y.i.op := ⟨_, rfl⟩
            obtain ⟨fk, hfk⟩ : ∃ fk, fk = y.i.vk := ⟨_, rfl⟩
            obtain ⟨fn, hfn⟩ : ∃ fn, fn = y.i.vn := ⟨_, rfl⟩
            have o0 : W2.cell? ⟨gi, 0, none⟩ = some (.int .i64 fo) := by rw [hfo]; exact HBI.out.cell 0
            have o7 : W2.cell? ⟨gi, 7, none⟩ = some (.int .i64 fk) := by rw [hfk]; exact HBI.out.cell 7
            have o8 : W2.cell? ⟨gi, 8, none⟩ = some (.int .i64 fn) := by rw [hfn]; exact HBI.out.cell 8
            rw [← hfo, ← hfk, ← hfn] at HTR
            have HBF := hide (HB1.out.trans ((HWW.out.trans (HB2.out.mono HWW.out.size)).mono HB1.out.size))
            clear hfo hfk hfn i2 i3 q5 q6 y6 y3 i1
            by_cases a1 : fn = 0
            · have H1 := hide a1
              have b1 : (fn == 0) = true := by simp [a1]
              by_cases a2 : fo = 1
              · have H2 := hide a2
                have b2 : (fo == 1) = true := by simp [a2]
                by_cases a3 : fk = 2
                · have H3 := hide a3
                  have b3 : (fk == 2) = true := by simp [a3]
                  go_wp2_with fail
                  go_quiet (fail)
                  go_wp2_with fail
                  go_ret2
                  refine ⟨?_, below_drewL HBF.out _⟩
                  rw [HTR.out]
                  simp [H1.out, H2.out, H3.out]
                · have H3 := hide a3
                  have b3 : (fk == 2) = false := by simp [a3]
                  go_wp2_with fail
                  go_quiet (fail)
                  go_wp2_with fail
                  go_ret2
                  refine ⟨?_, below_drewL HBF.out _⟩
                  rw [HTR.out]
                  simp [H1.out, H2.out, H3.out]
              · have H2 := hide a2
                have b2 : (fo == 1) = false := by simp [a2]
                by_cases a3 : fk = 2
                · have H3 := hide a3
                  have b3 : (fk == 2) = true := by simp [a3]
                  go_wp2_with fail
                  go_quiet (fail)
                  go_wp2_with fail
                  go_ret2
                  refine ⟨?_, below_drewL HBF.out _⟩
                  rw [HTR.out]
                  simp [H1.out, H2.out, H3.out]
                · have H3 := hide a3
                  have b3 : (fk == 2) = false := by simp [a3]
                  go_wp2_with fail
                  go_quiet (fail)
                  go_wp2_with fail
                  go_ret2
                  refine ⟨?_, below_drewL HBF.out _⟩
                  rw [HTR.out]
                  simp [H1.out, H2.out, H3.out]
            · have H1 := hide a1
              have b1 : (fn == 0) = false := by simp [a1]
              by_cases a2 : fo = 1
              · have H2 := hide a2
                have b2 : (fo == 1) = true := by simp [a2]
                by_cases a3 : fk = 2
                · have H3 := hide a3
                  have b3 : (fk == 2) = true := by simp [a3]
                  go_wp2_with fail
                  go_quiet (fail)
                  go_wp2_with fail
                  go_ret2
                  refine ⟨?_, below_drewL HBF.out _⟩
                  rw [HTR.out]
                  simp [H1.out, H2.out, H3.out]
                · have H3 := hide a3
                  have b3 : (fk == 2) = false := by simp [a3]
                  go_wp2_with fail
                  go_quiet (fail)
                  go_wp2_with fail
                  go_ret2
                  refine ⟨?_, below_drewL HBF.out _⟩
                  rw [HTR.out]
                  simp [H1.out, H2.out, H3.out]
              · have H2 := hide a2
                have b2 : (fo == 1) = false := by simp [a2]
                by_cases a3 : fk = 2
                · have H3 := hide a3
                  have b3 : (fk == 2) = true := by simp [a3]
                  go_wp2_with fail
                  go_quiet (fail)
                  go_wp2_with fail
                  go_ret2
                  refine ⟨?_, below_drewL HBF.out _⟩
                  rw [HTR.out]
                  simp [H1.out, H2.out, H3.out]
                · have H3 := hide a3
                  have b3 : (fk == 2) = false := by simp [a3]
                  go_wp2_with fail
                  go_quiet (fail)
                  go_wp2_with fail
                  go_ret2
                  refine ⟨?_, below_drewL HBF.out _⟩
                  rw [HTR.out]
                  simp [H1.out, H2.out, H3.out]
          · have HNN2 := hide (show a ∉ L.take (t + 1) by
              rw [List.take_add_one, hz]
              intro hm
              rcases List.mem_append.1 hm with h1 | h1
              · exact HNT.out h1
              · have h2 : z = a := by
                  have h3 := List.mem_singleton.1 (show a ∈ [z] from h1)
                  exact h3.symm
                exact hza h2)
            have bz : (z == a) = false := by simp [hza]
            clear hz hl3
            go_wp2_with fail
            go_roundw
            case rel => exact ⟨t + 1, by omega, by simp, HNN2, HWQ⟩
            case measure => simp [intOf]; omega
        · have t1 : ¬ (t : Int) < (ml : Int) := by omega
          have hnm : a ∉ L := by
            have h := HNT.out
            rw [List.take_of_length_le (by rw [← HML.out]; omega)] at h
            exact h
          have HLN := hide (show lastW code a fr pc = lastW code a fr j' by rw [HLJ.out, if_neg hnm])
          have HBW3 := hide (HB3.out.trans (HWQ.out.mono HB3.out.size))
          clear hnm htn ht
          go_wp2_with fail
          go_roundw
          case rel => exact ⟨_, j', rfl, hide rfl, HJ.out.1, by have := HJ.out; omega, HLN, HBW3⟩
          case measure => simp [intOf]
    · have HLZ := hide (show tstB (lastW code a fr pc) = (false, false) by rw [HLW.out, lastW_low (by omega)]; rfl)
      have i1 : ¬ (fr : Int) ≤ v := by have := HV.out; omega
      clear hfj hj1 hj2 HV HLW
      go_wp2_with fail
      go_ret2
      refine ⟨?_, HB1.out.trans (HWR.out.mono HB1.out.size)⟩
      rw [HLZ.out]
      rfl
end Go.Proofs.Ytaaadbaakhjkcaa
