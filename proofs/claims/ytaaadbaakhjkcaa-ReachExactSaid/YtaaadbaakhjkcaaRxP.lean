/- The code that can be (the reference's Good); conditions: the func is in memory, its raw numbers are int64's. -/
import Derived.Test.YtaaadbaakhjkcaaRxMO
namespace Go.Proofs.Ytaaadbaakhjkcaa
open Go.RowKit Go.WideShapes Go.ChangeShapes
set_option linter.unusedVariables false
set_option linter.unusedSimpArgs false
set_option maxRecDepth 100000

theorem readL_len {i : Ins} (h : i.arms.length ≤ 100 ∧ i.args.length ≤ 100) : (readL i).length ≤ 65537000 := by
  unfold readL
  split
  · have h1 := arms_lenR armRd_len i.arms
    have h2 : i.arms.length * 65537 ≤ 100 * 65537 := Nat.mul_le_mul_right _ h.1
    omega
  · have h1 := lettersL_len i h.2 (rowR i.op).1.data.toList
    have h3 : (rowR i.op).1.data.toList.length * 6553700 ≤ 10 * 6553700 := Nat.mul_le_mul_right _ (by rw [Array.length_toList]; exact (rowR_size i.op).1)
    omega
theorem wrotL_len {i : Ins} (h : i.arms.length ≤ 100 ∧ i.args.length ≤ 100) : (wrotL i).length ≤ 65537000 := by
  unfold wrotL
  split
  · have h1 := arms_lenR armWr_len i.arms
    have h2 : i.arms.length * 65537 ≤ 100 * 65537 := Nat.mul_le_mul_right _ h.1
    omega
  · have h1 := lettersL_len i h.2 (rowR i.op).2.data.toList
    have h3 : (rowR i.op).2.data.toList.length * 6553700 ≤ 10 * 6553700 := Nat.mul_le_mul_right _ (by rw [Array.length_toList]; exact (rowR_size i.op).2)
    omega
set_option maxHeartbeats 40000000 in
theorem rgood_any (p : Pr) (hs : List Bool) (code : List IV) (ns : Nat) (w : World) (h : PrOk w p hs code ns) (hn : code.length ≤ 1000) (hl : ∀ x ∈ code, x.i.arms.length ≤ 100 ∧ x.i.args.length ≤ 100) (hr : ∀ x ∈ code, InsR x.i) :
    Calls Try.prog 20 #[p.val] w (BoolP w (goodP p hs code ns)) := by
  obtain ⟨i0, hi0, hz0, hz1, hz2⟩ := info_parts intInfoT
  obtain ⟨gp, hgp⟩ : ∃ gp, gp = w.heap.size := ⟨_, rfl⟩
  obtain ⟨W1, hW1⟩ : ∃ W1, W1 = w.alloc (.cells p.arr 29) := ⟨_, rfl⟩
  have hb1 : Below w.heap.size w W1 := by rw [hW1]; exact (Below.refl _ _).alloc (Nat.le_refl _) _
  have HBP := hide (show Blk W1 gp 29 p.arr by rw [hW1, hgp]; exact Blk.new _ _ _)
  have HOK := hide (h.below hb1 (Nat.le_refl _))
  obtain ⟨Ac, cc, hcv⟩ := h.cv.form
  obtain ⟨Av, cvv, hvv, _⟩ := h.hv
  obtain ⟨As, cs, hsv⟩ := h.sv
  obtain ⟨n, hnn⟩ : ∃ n, n = code.length := ⟨_, rfl⟩
  obtain ⟨nh, hnh⟩ : ∃ nh, nh = hs.length := ⟨_, rfl⟩
  rw [← hnn] at hcv
  rw [← hnh] at hvv
  obtain ⟨fp, hfp⟩ : ∃ fp, fp = p.params := ⟨_, rfl⟩
  obtain ⟨fr, hfr⟩ : ∃ fr, fr = p.regs := ⟨_, rfl⟩
  obtain ⟨fc, hfc⟩ : ∃ fc, fc = p.caps := ⟨_, rfl⟩
  have HY := hide (show ∀ wr, Below W1.heap.size W1 wr → wr.cell? ⟨gp, 2, none⟩ = some (.int .i64 fp) ∧ wr.cell? ⟨gp, 3, none⟩ = some (.slice Av nh cvv) ∧ wr.cell? ⟨gp, 5, none⟩ = some (.int .i64 fr) ∧ wr.cell? ⟨gp, 6, none⟩ = some (.slice Ac n cc) ∧ wr.cell? ⟨gp, 7, none⟩ = some (.int .i64 fc) ∧ wr.cell? ⟨gp, 8, none⟩ = some (.slice As ns cs) from fun wr hw => by
    have hb := HBP.out.below hw HBP.out.lt
    exact ⟨by rw [hfp]; exact hb.cell 2, by rw [← hvv]; exact hb.cell 3, by rw [hfr]; exact hb.cell 5, by rw [← hcv]; exact hb.cell 6, by rw [hfc]; exact hb.cell 7, by rw [← hsv]; exact hb.cell 8⟩)
  have HIC := hide (show ∀ wr, Below W1.heap.size W1 wr → InssAt wr (.slice Ac n cc) code from fun wr hw => by
    have h := HOK.out.cv
    rw [hcv] at h
    exact h.below hw (Nat.le_refl _))
  have HIO := hide (show ∀ wr, Below W1.heap.size W1 wr → ∀ x ∈ code, InsOk wr x.i x.av x.rv from fun wr hw x hx => (HOK.out.ok x hx).below hw (Nat.le_refl _))
  have HHV := hide (show ∀ wr, Below W1.heap.size W1 wr → HeapsAt wr (.slice Av nh cvv) hs from fun wr hw => by
    have h := HOK.out.hv
    rw [hvv] at h
    exact h.below hw (Nat.le_refl _))
  have HG := hide (show goodP p hs code ns = (!(headB p hs) && (allFrom (insB p hs n ns) 0 code && lastB code)) by rw [hnn]; rfl)
  have HHB := hide (show headB p hs = decide (fp < 0 ∨ (nh : Int) < fp ∨ fr < 0 ∨ 65536 < fr ∨ fc < 0) by unfold headB; rw [hfp, hfr, hfc, hnh])
  have HBADH := hide (show (fp < 0 ∨ (nh : Int) < fp ∨ fr < 0 ∨ 65536 < fr ∨ fc < 0) → goodP p hs code ns = false from fun hh => by rw [HG.out, HHB.out, decide_eq_true hh]; rfl)
  have HBADL := hide (show lastB code = false → goodP p hs code ns = false from fun hh => by rw [HG.out, hh, Bool.and_false, Bool.and_false])
  have HBADI := hide (show ∀ (q : Nat) (x : IV), code[q]? = some x → insB p hs n ns q x = false → goodP p hs code ns = false from fun q x hx hh => by
    cases hall : allFrom (insB p hs n ns) 0 code with
    | false => rw [HG.out, hall]; simp
    | true =>
      have h2 := allFrom_iff.1 hall q x hx
      rw [Nat.zero_add, hh] at h2
      cases h2)
  have HSM := hide hl
  have HRG := hide hr
  have HNN := hide (And.intro hnn (And.intro hn hnh))
  have HRC := hide (And.intro hfr hfc)
  have HGP := hide hgp
  have HW1 := hide hW1
  have HB1 := hide hb1
  have HWY := hide (show Below W1.heap.size W1 W1 from Below.refl _ _)
  obtain ⟨PV, hPV⟩ : ∃ PV, PV = p.val := ⟨_, rfl⟩
  have HPV := hide (show PV = .agg p.arr from hPV)
  obtain ⟨y2, y3, y5, y6, y7, y8⟩ := HY.out W1 (Below.refl _ _)
  rw [← hPV]
  clear h hl hr hn hnn hnh hgp hW1 hb1 hcv hvv hsv hfp hfr hfc hPV
  go_enter Try.func20, Try.ntmps20
  go_upto_region 1 with (fail)
  rw [HPV.out, ← HW1.out, ← HGP.out, ← HPV.out]
  by_cases c0 : fp < 0
  · have HF := hide (HBADH.out (.inl c0))
    have d0 : decide (fp < 0) = true := decide_eq_true c0
    go_wp2_with fail
    go_ret
    exact ⟨ret_bS HF.out.symm, HB1.out⟩
  have d0 : decide (fp < 0) = false := decide_eq_false c0
  by_cases c1 : (nh : Int) < fp
  · have HF := hide (HBADH.out (.inr (.inl c1)))
    have d1 : decide ((nh : Int) < fp) = true := decide_eq_true c1
    go_wp2_with fail
    go_ret
    exact ⟨ret_bS HF.out.symm, HB1.out⟩
  have d1 : decide ((nh : Int) < fp) = false := decide_eq_false c1
  by_cases c2 : fr < 0
  · have HF := hide (HBADH.out (.inr (.inr (.inl c2))))
    have d2 : decide (fr < 0) = true := decide_eq_true c2
    go_wp2_with fail
    go_ret
    exact ⟨ret_bS HF.out.symm, HB1.out⟩
  have d2 : decide (fr < 0) = false := decide_eq_false c2
  by_cases c3 : 65536 < fr
  · have HF := hide (HBADH.out (.inr (.inr (.inr (.inl c3)))))
    have d3 : decide (65536 < fr) = true := decide_eq_true c3
    go_wp2_with fail
    go_ret
    exact ⟨ret_bS HF.out.symm, HB1.out⟩
  have d3 : decide (65536 < fr) = false := decide_eq_false c3
  by_cases c4 : fc < 0
  · have HF := hide (HBADH.out (.inr (.inr (.inr (.inr c4)))))
    have d4 : decide (fc < 0) = true := decide_eq_true c4
    go_wp2_with fail
    go_ret
    exact ⟨ret_bS HF.out.symm, HB1.out⟩
  have d4 : decide (fc < 0) = false := decide_eq_false c4
  by_cases c5 : n = 0
  · have HF := hide (HBADL.out (by
      have h0 : code = [] := List.eq_nil_of_length_eq_zero (by rw [← HNN.out.1]; exact c5)
      rw [h0]
      rfl))
    have d5 : ((n : Int) == 0) = true := by simp [c5]
    go_wp2_with fail
    go_ret
    exact ⟨ret_bS HF.out.symm, HB1.out⟩
  have d5 : ((n : Int) == 0) = false := by simp; omega
  obtain ⟨m, hm⟩ : ∃ m, n = m + 1 := ⟨n - 1, by omega⟩
  have q1 : IntKind.i64.wrap ((n : Int) - 1) = (m : Int) := by rw [show (n : Int) - 1 = (m : Int) by omega]; exact IntWalk.i64_in _ (by have := HNN.out; omega)
  have i1 : (m : Int) < (n : Int) := by omega
  have i2 : (0 : Int) ≤ (m : Int) := by omega
  obtain ⟨b0, of, xl, hAc, hbl, hxl, hcells⟩ := RowAt.at_ (HIC.out W1 HWY.out) (i := m) (by have := HNN.out; omega)
  subst hAc
  have HCE := hide (show W1.rangeAt b0 (of + m * 22) (IV.enc xl) from hcells)
  obtain ⟨V, hV⟩ : ∃ V, V = Ins.val xl.i xl.av xl.rv := ⟨_, rfl⟩
  have HVI := hide hV
  have HEC := hide (rends_any xl.i xl.av xl.rv W1)
  obtain ⟨eb, heb⟩ : ∃ eb, eb = endsB xl.i.op := ⟨_, rfl⟩
  rw [← (show V = Ins.val xl.i xl.av xl.rv from HVI.out), ← heb] at HEC
  have HLB := hide (show lastB code = eb by
    have h1 : code.getLast? = some xl := by rw [List.getLast?_eq_getElem?, ← HNN.out.1, hm]; exact hxl
    unfold lastB
    rw [h1, heb])
  have HHD := hide (show headB p hs = false ∧ 0 ≤ fr ∧ fr ≤ 65536 from ⟨by rw [HHB.out]; exact decide_eq_false (fun h => by rcases h with h | h | h | h | h; exact c0 h; exact c1 h; exact c2 h; exact c3 h; exact c4 h), by omega, by omega⟩)
  clear hbl hxl hcells hV heb hm
  go_wp2_with (first
    | (refine wpList_load_midW 45 (.tmp 51) b0 (of + m * 22) (IV.enc xl) V HCE.out HVI.out Try.underlying45 rfl ins_size rfl (by kernel_rfl) rfl ?_))
  refine HEC.out.mono ?_
  rintro e w3 ⟨rfl, hb3⟩
  have HB3 := hide hb3
  have HBF := hide (HB1.out.trans (hb3.mono HB1.out.size))
  clear hb3
  cases he : eb with
  | false =>
    have HF := hide (HBADL.out (by rw [HLB.out, he]))
    subst he
    go_wp2_with fail
    go_ret
    exact ⟨ret_bS HF.out.symm, HBF.out⟩
  | true =>
    have HLT := hide (show lastB code = true by rw [HLB.out, he])
    subst he
    clear y2 y3 y5 y6 y7 y8 d0 d1 d2 d3 d4 d5 c0 c1 c2 c3 c4 c5 q1 i1 i2 HLB
    have HN0 := hide (show ∀ (q : Nat) (x : IV), q < 0 → code[q]? = some x → insB p hs n ns q x = true from fun q x h => absurd h (Nat.not_lt_zero _))
    go_upto_region 4 with (fail)
    go_loopg [3] n (fun gk kk wr => ∃ k : Nat, k ≤ n ∧ kk = .int .i64 (k : Int) ∧ Hid (gk = n - k) ∧ Hid (∀ (q : Nat) (x : IV), q < k → code[q]? = some x → insB p hs n ns q x = true) ∧ Hid (Below W1.heap.size W1 wr))
    case atStart => exact ⟨0, Nat.zero_le _, rfl, hide rfl, HN0, HB3⟩
    case round =>
      clear HN0 HB3 HBF HEC HVI HCE
      obtain ⟨k, hk, rfl, HGK, HALL, HWR⟩ := hrel
      obtain ⟨y2, y3, y5, y6, y7, y8⟩ := HY.out wr HWR.out
      have HBF := hide (HB1.out.trans (HWR.out.mono HB1.out.size))
      by_cases hlt : k < n
      · have k1 : (k : Int) < (n : Int) := by omega
        have k2 : (0 : Int) ≤ (k : Int) := by omega
        obtain ⟨kn, hkn⟩ : ∃ kn, kn = k + 1 := ⟨_, rfl⟩
        have q5 : IntKind.i64.wrap ((k : Int) + 1) = (kn : Int) := by rw [IntWalk.i64_in _ (by have := HNN.out; omega)]; omega
        obtain ⟨b, of, x, hAc, hbl, hx, hcells⟩ := RowAt.at_ (HIC.out wr HWR.out) (i := k) (by have := HNN.out; omega)
        injection hAc with hAc
        injection hAc with e1 e2
        subst e1 e2
        have HX := hide hx
        have hxm := List.mem_of_getElem? hx
        have hix := HIO.out wr HWR.out x hxm
        have HLX := hide (HSM.out x hxm)
        have HRX := hide (HRG.out x hxm)
        have HXM := hide hxm
        have HCE := hide (show wr.rangeAt b0 (of + k * 22) (IV.enc x) from hcells)
        obtain ⟨V, hV⟩ : ∃ V, V = Ins.val x.i x.av x.rv := ⟨_, rfl⟩
        have HVI := hide hV
        have HON := hide (ins_one hix)
        obtain ⟨gi, hgi⟩ : ∃ gi, gi = wr.heap.size := ⟨_, rfl⟩
        have HGI := hide hgi
        have HKN := hide hkn
        have HLT2 := hide hlt
        clear hx hcells hV hix hgi hxm hkn hlt hk hbl y2 y3 y5 y7 y8
        go_upto_region 7 with (first
          | (refine wpList_load_midW 45 (.tmp 66) b0 (of + k * 22) (IV.enc x) V HCE.out HVI.out Try.underlying45 rfl ins_size rfl (by kernel_rfl) rfl ?_)
          | (refine wpList_store_new 45 (.tmp 4) (.tmp 67) (x.i.arr x.av x.rv) V HVI.out ins_size HON.out rfl rfl rfl rfl rfl rfl ?_
             intro W3 hbg hb3
             rw [← HGI.out] at hbg
             have HBI := hide hbg
             have HB3 := hide (HWR.out.trans (hb3.mono HWR.out.size))
             clear hbg hb3))
        rw [← HGI.out]
        clear y6
        have HBF3 := hide (HB1.out.trans (HB3.out.mono HB1.out.size))
        obtain ⟨y2, y3, y5, y6, y7, y8⟩ := HY.out W3 HB3.out
        obtain ⟨fo, hfo⟩ : ∃ fo, fo = x.i.op := ⟨_, rfl⟩
        obtain ⟨fs, hfs⟩ : ∃ fs, fs = x.i.st := ⟨_, rfl⟩
        have o0 : W3.cell? ⟨gi, 0, none⟩ = some (.int .i64 fo) := by rw [hfo]; exact HBI.out.cell 0
        have o16 : W3.cell? ⟨gi, 16, none⟩ = some (.int .i64 fs) := by rw [hfs]; exact HBI.out.cell 16
        have HI := hide (show insB p hs n ns k x = (!((nextI x.i (k : Int)).any (badTo n)) && (decide (1 ≤ fo) && (decide (fo ≤ 41) && (decide (-1 ≤ fs) && (decide (fs < (ns : Int)) && (numbersB x.i && (registersB p.regs x.i && varB hs p.caps x.i))))))) by rw [hfo, hfs]; rfl)
        have HFO := hide hfo
        clear hfo hfs
        by_cases a0 : fo < 1
        · have HF := hide (HBADI.out k x HX.out (by rw [HI.out, decide_eq_false (show ¬ (1 ≤ fo) by omega)]; simp))
          have d0 : decide (fo < 1) = true := decide_eq_true a0
          go_wp2_with fail
          go_ret
          exact ⟨ret_bS HF.out.symm, HBF3.out⟩
        have d0 : decide (fo < 1) = false := decide_eq_false a0
        by_cases a1 : 41 < fo
        · have HF := hide (HBADI.out k x HX.out (by rw [HI.out, decide_eq_false (show ¬ (fo ≤ 41) by omega)]; simp))
          have d1 : decide (41 < fo) = true := decide_eq_true a1
          go_wp2_with fail
          go_ret
          exact ⟨ret_bS HF.out.symm, HBF3.out⟩
        have d1 : decide (41 < fo) = false := decide_eq_false a1
        by_cases a2 : fs < -1
        · have HF := hide (HBADI.out k x HX.out (by rw [HI.out, decide_eq_false (show ¬ (-1 ≤ fs) by omega)]; simp))
          have d2 : decide (fs < -1) = true := decide_eq_true a2
          go_wp2_with fail
          go_ret
          exact ⟨ret_bS HF.out.symm, HBF3.out⟩
        have d2 : decide (fs < -1) = false := decide_eq_false a2
        by_cases a3 : (ns : Int) ≤ fs
        · have HF := hide (HBADI.out k x HX.out (by rw [HI.out, decide_eq_false (show ¬ (fs < (ns : Int)) by omega)]; simp))
          have d3 : decide ((ns : Int) ≤ fs) = true := decide_eq_true a3
          go_wp2_with fail
          go_ret
          exact ⟨ret_bS HF.out.symm, HBF3.out⟩
        have d3 : decide ((ns : Int) ≤ fs) = false := decide_eq_false a3
        have HOP := hide (show 1 ≤ fo ∧ fo ≤ 41 by omega)
        have HI2 := hide (show insB p hs n ns k x = (!((nextI x.i (k : Int)).any (badTo n)) && (numbersB x.i && (registersB p.regs x.i && varB hs p.caps x.i))) by
          rw [HI.out, decide_eq_true (show 1 ≤ fo by omega), decide_eq_true (show fo ≤ 41 by omega), decide_eq_true (show -1 ≤ fs by omega), decide_eq_true (show fs < (ns : Int) by omega)]
          rfl)
        go_upto_block 2 with (fail)
        clear a0 a1 a2 a3 d0 d1 d2 d3 o16
        go_cut [5, 6, 7] from 56 to 266 (fun s5 s6 s7 wx => Hid (Below W3.heap.size W3 wx) ∧ Hid (numbersB x.i = true ∧ varB hs p.caps x.i = true))
        case first =>
          have HBW3 := hide (show Below W3.heap.size W3 W3 from Below.refl _ _)
          obtain ⟨fn, hfn⟩ : ∃ fn, fn = x.i.n := ⟨_, rfl⟩
          obtain ⟨fm, hfm⟩ : ∃ fm, fm = x.i.m := ⟨_, rfl⟩
          have o4 : W3.cell? ⟨gi, 4, none⟩ = some (.int .i64 fn) := by rw [hfn]; exact HBI.out.cell 4
          have o5 : W3.cell? ⟨gi, 5, none⟩ = some (.int .i64 fm) := by rw [hfm]; exact HBI.out.cell 5
          have HNU := hide (show numbersB x.i = (if fo = 2 ∨ fo = 5 ∨ fo = 9 ∨ fo = 11 ∨ fo = 12 ∨ fo = 14 ∨ fo = 21 ∨ fo = 34 ∨ fo = 35 then countB fn else if fo = 15 then countB fn && countB fm else if fo = 16 ∨ fo = 22 ∨ fo = 30 ∨ fo = 31 ∨ fo = 33 then countB fm else if fo = 37 then !(x.i.arms.any badArm) else true) by unfold numbersB; rw [HFO.out, hfn, hfm])
          have HVA := hide (show varB hs p.caps x.i = (if fo = 10 then decide (0 ≤ fn) && decide (fn < fc) else if fo = 3 ∨ fo = 4 ∨ fo = 6 ∨ fo = 7 ∨ fo = 8 then (if fn < 0 ∨ (nh : Int) ≤ fn then false else if fo = 3 ∨ fo = 4 then !(hs.getD fn.toNat false) else if fo = 6 ∨ fo = 8 then hs.getD fn.toNat false else true) else true) by unfold varB; rw [HFO.out, hfn, HRC.out.2, HNN.out.2.2])
          clear hfn hfm
          by_cases v3 : fo = 3
          · as_aux_lemma =>
              have HNB := hide (show numbersB x.i = true by rw [HNU.out, v3]; simp)
              have HVX := hide (show varB hs p.caps x.i = (if fn < 0 ∨ (nh : Int) ≤ fn then false else !(hs.getD fn.toNat false)) by rw [HVA.out, v3]; simp)
              subst v3
              by_cases c1 : fn < 0
              · have HVB := hide (show varB hs p.caps x.i = false by rw [HVX.out, if_pos (.inl c1)])
                have d1 : decide (fn < 0) = true := decide_eq_true c1
                have HF := hide (HBADI.out k x HX.out (by rw [HI2.out, HVB.out]; simp))
                clear HI2
                go_wp2_with fail
                go_ret
                exact ⟨ret_bS HF.out.symm, HBF3.out⟩
              have d1 : decide (fn < 0) = false := decide_eq_false c1
              by_cases c2 : (nh : Int) ≤ fn
              · have HVB := hide (show varB hs p.caps x.i = false by rw [HVX.out, if_pos (.inr c2)])
                have d2 : decide ((nh : Int) ≤ fn) = true := decide_eq_true c2
                have HF := hide (HBADI.out k x HX.out (by rw [HI2.out, HVB.out]; simp))
                clear HI2
                go_wp2_with fail
                go_ret
                exact ⟨ret_bS HF.out.symm, HBF3.out⟩
              have d2 : decide ((nh : Int) ≤ fn) = false := decide_eq_false c2
              obtain ⟨fk, hfk⟩ : ∃ fk : Nat, fn = (fk : Int) := ⟨fn.toNat, by omega⟩
              obtain ⟨hv, hhv⟩ : ∃ hv, hs[fk]? = some hv := ⟨_, List.getElem?_eq_getElem (by have := HNN.out.2.2; omega)⟩
              obtain ⟨Av2, cv2, hA2, hall2⟩ := HHV.out W3 HB3.out
              obtain ⟨bv, ov, hA3, _, yh⟩ := hall2 fk hv hhv
              have hAv : Av = some ⟨bv, ov, none⟩ := by injection hA2 with e1 e2 e3; rw [e1, hA3]
              have HVY := hide (show varB hs p.caps x.i = !hv by
                rw [HVX.out, if_neg (fun h => h.elim c1 c2)]
                rw [hfk, Int.toNat_natCast, List.getD_eq_getElem?_getD, hhv]
                rfl)
              subst hAv
              subst hfk
              have k3 : (fk : Int) < (nh : Int) := by omega
              have k4 : (0 : Int) ≤ (fk : Int) := by omega
              clear hA2 hall2 hA3 hhv c1 c2
              cases hb : hv with
              | true =>
                have HVB := hide (show varB hs p.caps x.i = false by rw [HVY.out, hb]; rfl)
                subst hb
                have HF := hide (HBADI.out k x HX.out (by rw [HI2.out, HVB.out]; simp))
                clear HI2
                go_wp2_with fail
                go_ret
                exact ⟨ret_bS HF.out.symm, HBF3.out⟩
              | false =>
                have HVB := hide (show varB hs p.caps x.i = true by rw [HVY.out, hb]; rfl)
                subst hb
                have HSW := hide (And.intro HNB.out HVB.out)
                go_wp2_with fail
                go_meet
                exact ⟨HBW3, HSW⟩
          have w3 : (fo == 3) = false := by simp [v3]
          by_cases v4 : fo = 4
          · as_aux_lemma =>
              have HNB := hide (show numbersB x.i = true by rw [HNU.out, v4]; simp)
              have HVX := hide (show varB hs p.caps x.i = (if fn < 0 ∨ (nh : Int) ≤ fn then false else !(hs.getD fn.toNat false)) by rw [HVA.out, v4]; simp)
              subst v4
              by_cases c1 : fn < 0
              · have HVB := hide (show varB hs p.caps x.i = false by rw [HVX.out, if_pos (.inl c1)])
                have d1 : decide (fn < 0) = true := decide_eq_true c1
                have HF := hide (HBADI.out k x HX.out (by rw [HI2.out, HVB.out]; simp))
                clear HI2
                go_wp2_with fail
                go_ret
                exact ⟨ret_bS HF.out.symm, HBF3.out⟩
              have d1 : decide (fn < 0) = false := decide_eq_false c1
              by_cases c2 : (nh : Int) ≤ fn
              · have HVB := hide (show varB hs p.caps x.i = false by rw [HVX.out, if_pos (.inr c2)])
                have d2 : decide ((nh : Int) ≤ fn) = true := decide_eq_true c2
                have HF := hide (HBADI.out k x HX.out (by rw [HI2.out, HVB.out]; simp))
                clear HI2
                go_wp2_with fail
                go_ret
                exact ⟨ret_bS HF.out.symm, HBF3.out⟩
              have d2 : decide ((nh : Int) ≤ fn) = false := decide_eq_false c2
              obtain ⟨fk, hfk⟩ : ∃ fk : Nat, fn = (fk : Int) := ⟨fn.toNat, by omega⟩
              obtain ⟨hv, hhv⟩ : ∃ hv, hs[fk]? = some hv := ⟨_, List.getElem?_eq_getElem (by have := HNN.out.2.2; omega)⟩
              obtain ⟨Av2, cv2, hA2, hall2⟩ := HHV.out W3 HB3.out
              obtain ⟨bv, ov, hA3, _, yh⟩ := hall2 fk hv hhv
              have hAv : Av = some ⟨bv, ov, none⟩ := by injection hA2 with e1 e2 e3; rw [e1, hA3]
              have HVY := hide (show varB hs p.caps x.i = !hv by
                rw [HVX.out, if_neg (fun h => h.elim c1 c2)]
                rw [hfk, Int.toNat_natCast, List.getD_eq_getElem?_getD, hhv]
                rfl)
              subst hAv
              subst hfk
              have k3 : (fk : Int) < (nh : Int) := by omega
              have k4 : (0 : Int) ≤ (fk : Int) := by omega
              clear hA2 hall2 hA3 hhv c1 c2
              cases hb : hv with
              | true =>
                have HVB := hide (show varB hs p.caps x.i = false by rw [HVY.out, hb]; rfl)
                subst hb
                have HF := hide (HBADI.out k x HX.out (by rw [HI2.out, HVB.out]; simp))
                clear HI2
                go_wp2_with fail
                go_ret
                exact ⟨ret_bS HF.out.symm, HBF3.out⟩
              | false =>
                have HVB := hide (show varB hs p.caps x.i = true by rw [HVY.out, hb]; rfl)
                subst hb
                have HSW := hide (And.intro HNB.out HVB.out)
                go_wp2_with fail
                go_meet
                exact ⟨HBW3, HSW⟩
          have w4 : (fo == 4) = false := by simp [v4]
          by_cases v6 : fo = 6
          · as_aux_lemma =>
              have HNB := hide (show numbersB x.i = true by rw [HNU.out, v6]; simp)
              have HVX := hide (show varB hs p.caps x.i = (if fn < 0 ∨ (nh : Int) ≤ fn then false else hs.getD fn.toNat false) by rw [HVA.out, v6]; simp)
              subst v6
              by_cases c1 : fn < 0
              · have HVB := hide (show varB hs p.caps x.i = false by rw [HVX.out, if_pos (.inl c1)])
                have d1 : decide (fn < 0) = true := decide_eq_true c1
                have HF := hide (HBADI.out k x HX.out (by rw [HI2.out, HVB.out]; simp))
                clear HI2
                go_wp2_with fail
                go_ret
                exact ⟨ret_bS HF.out.symm, HBF3.out⟩
              have d1 : decide (fn < 0) = false := decide_eq_false c1
              by_cases c2 : (nh : Int) ≤ fn
              · have HVB := hide (show varB hs p.caps x.i = false by rw [HVX.out, if_pos (.inr c2)])
                have d2 : decide ((nh : Int) ≤ fn) = true := decide_eq_true c2
                have HF := hide (HBADI.out k x HX.out (by rw [HI2.out, HVB.out]; simp))
                clear HI2
                go_wp2_with fail
                go_ret
                exact ⟨ret_bS HF.out.symm, HBF3.out⟩
              have d2 : decide ((nh : Int) ≤ fn) = false := decide_eq_false c2
              obtain ⟨fk, hfk⟩ : ∃ fk : Nat, fn = (fk : Int) := ⟨fn.toNat, by omega⟩
              obtain ⟨hv, hhv⟩ : ∃ hv, hs[fk]? = some hv := ⟨_, List.getElem?_eq_getElem (by have := HNN.out.2.2; omega)⟩
              obtain ⟨Av2, cv2, hA2, hall2⟩ := HHV.out W3 HB3.out
              obtain ⟨bv, ov, hA3, _, yh⟩ := hall2 fk hv hhv
              have hAv : Av = some ⟨bv, ov, none⟩ := by injection hA2 with e1 e2 e3; rw [e1, hA3]
              have HVY := hide (show varB hs p.caps x.i = hv by
                rw [HVX.out, if_neg (fun h => h.elim c1 c2)]
                rw [hfk, Int.toNat_natCast, List.getD_eq_getElem?_getD, hhv]
                rfl)
              subst hAv
              subst hfk
              have k3 : (fk : Int) < (nh : Int) := by omega
              have k4 : (0 : Int) ≤ (fk : Int) := by omega
              clear hA2 hall2 hA3 hhv c1 c2
              cases hb : hv with
              | true =>
                have HVB := hide (show varB hs p.caps x.i = true by rw [HVY.out, hb])
                subst hb
                have HSW := hide (And.intro HNB.out HVB.out)
                go_wp2_with fail
                go_meet
                exact ⟨HBW3, HSW⟩
              | false =>
                have HVB := hide (show varB hs p.caps x.i = false by rw [HVY.out, hb])
                subst hb
                have HF := hide (HBADI.out k x HX.out (by rw [HI2.out, HVB.out]; simp))
                clear HI2
                go_wp2_with fail
                go_ret
                exact ⟨ret_bS HF.out.symm, HBF3.out⟩
          have w6 : (fo == 6) = false := by simp [v6]
          by_cases v7 : fo = 7
          · as_aux_lemma =>
              have HNB := hide (show numbersB x.i = true by rw [HNU.out, v7]; simp)
              have HVX := hide (show varB hs p.caps x.i = (if fn < 0 ∨ (nh : Int) ≤ fn then false else true) by rw [HVA.out, v7]; simp)
              subst v7
              by_cases c1 : fn < 0
              · have HVB := hide (show varB hs p.caps x.i = false by rw [HVX.out, if_pos (.inl c1)])
                have d1 : decide (fn < 0) = true := decide_eq_true c1
                have HF := hide (HBADI.out k x HX.out (by rw [HI2.out, HVB.out]; simp))
                clear HI2
                go_wp2_with fail
                go_ret
                exact ⟨ret_bS HF.out.symm, HBF3.out⟩
              have d1 : decide (fn < 0) = false := decide_eq_false c1
              by_cases c2 : (nh : Int) ≤ fn
              · have HVB := hide (show varB hs p.caps x.i = false by rw [HVX.out, if_pos (.inr c2)])
                have d2 : decide ((nh : Int) ≤ fn) = true := decide_eq_true c2
                have HF := hide (HBADI.out k x HX.out (by rw [HI2.out, HVB.out]; simp))
                clear HI2
                go_wp2_with fail
                go_ret
                exact ⟨ret_bS HF.out.symm, HBF3.out⟩
              have d2 : decide ((nh : Int) ≤ fn) = false := decide_eq_false c2
              obtain ⟨fk, hfk⟩ : ∃ fk : Nat, fn = (fk : Int) := ⟨fn.toNat, by omega⟩
              obtain ⟨hv, hhv⟩ : ∃ hv, hs[fk]? = some hv := ⟨_, List.getElem?_eq_getElem (by have := HNN.out.2.2; omega)⟩
              obtain ⟨Av2, cv2, hA2, hall2⟩ := HHV.out W3 HB3.out
              obtain ⟨bv, ov, hA3, _, yh⟩ := hall2 fk hv hhv
              have hAv : Av = some ⟨bv, ov, none⟩ := by injection hA2 with e1 e2 e3; rw [e1, hA3]
              have HVY := hide (show varB hs p.caps x.i = true by
                rw [HVX.out, if_neg (fun h => h.elim c1 c2)]
                )
              subst hAv
              subst hfk
              have k3 : (fk : Int) < (nh : Int) := by omega
              have k4 : (0 : Int) ≤ (fk : Int) := by omega
              clear hA2 hall2 hA3 hhv c1 c2
              cases hb : hv with
              | true =>
                have HVB := hide (show varB hs p.caps x.i = true by rw [HVY.out])
                subst hb
                have HSW := hide (And.intro HNB.out HVB.out)
                go_wp2_with fail
                go_meet
                exact ⟨HBW3, HSW⟩
              | false =>
                have HVB := hide (show varB hs p.caps x.i = true by rw [HVY.out])
                subst hb
                have HSW := hide (And.intro HNB.out HVB.out)
                go_wp2_with fail
                go_meet
                exact ⟨HBW3, HSW⟩
          have w7 : (fo == 7) = false := by simp [v7]
          by_cases v8 : fo = 8
          · as_aux_lemma =>
              have HNB := hide (show numbersB x.i = true by rw [HNU.out, v8]; simp)
              have HVX := hide (show varB hs p.caps x.i = (if fn < 0 ∨ (nh : Int) ≤ fn then false else hs.getD fn.toNat false) by rw [HVA.out, v8]; simp)
              subst v8
              by_cases c1 : fn < 0
              · have HVB := hide (show varB hs p.caps x.i = false by rw [HVX.out, if_pos (.inl c1)])
                have d1 : decide (fn < 0) = true := decide_eq_true c1
                have HF := hide (HBADI.out k x HX.out (by rw [HI2.out, HVB.out]; simp))
                clear HI2
                go_wp2_with fail
                go_ret
                exact ⟨ret_bS HF.out.symm, HBF3.out⟩
              have d1 : decide (fn < 0) = false := decide_eq_false c1
              by_cases c2 : (nh : Int) ≤ fn
              · have HVB := hide (show varB hs p.caps x.i = false by rw [HVX.out, if_pos (.inr c2)])
                have d2 : decide ((nh : Int) ≤ fn) = true := decide_eq_true c2
                have HF := hide (HBADI.out k x HX.out (by rw [HI2.out, HVB.out]; simp))
                clear HI2
                go_wp2_with fail
                go_ret
                exact ⟨ret_bS HF.out.symm, HBF3.out⟩
              have d2 : decide ((nh : Int) ≤ fn) = false := decide_eq_false c2
              obtain ⟨fk, hfk⟩ : ∃ fk : Nat, fn = (fk : Int) := ⟨fn.toNat, by omega⟩
              obtain ⟨hv, hhv⟩ : ∃ hv, hs[fk]? = some hv := ⟨_, List.getElem?_eq_getElem (by have := HNN.out.2.2; omega)⟩
              obtain ⟨Av2, cv2, hA2, hall2⟩ := HHV.out W3 HB3.out
              obtain ⟨bv, ov, hA3, _, yh⟩ := hall2 fk hv hhv
              have hAv : Av = some ⟨bv, ov, none⟩ := by injection hA2 with e1 e2 e3; rw [e1, hA3]
              have HVY := hide (show varB hs p.caps x.i = hv by
                rw [HVX.out, if_neg (fun h => h.elim c1 c2)]
                rw [hfk, Int.toNat_natCast, List.getD_eq_getElem?_getD, hhv]
                rfl)
              subst hAv
              subst hfk
              have k3 : (fk : Int) < (nh : Int) := by omega
              have k4 : (0 : Int) ≤ (fk : Int) := by omega
              clear hA2 hall2 hA3 hhv c1 c2
              cases hb : hv with
              | true =>
                have HVB := hide (show varB hs p.caps x.i = true by rw [HVY.out, hb])
                subst hb
                have HSW := hide (And.intro HNB.out HVB.out)
                go_wp2_with fail
                go_meet
                exact ⟨HBW3, HSW⟩
              | false =>
                have HVB := hide (show varB hs p.caps x.i = false by rw [HVY.out, hb])
                subst hb
                have HF := hide (HBADI.out k x HX.out (by rw [HI2.out, HVB.out]; simp))
                clear HI2
                go_wp2_with fail
                go_ret
                exact ⟨ret_bS HF.out.symm, HBF3.out⟩
          have w8 : (fo == 8) = false := by simp [v8]
          by_cases v10 : fo = 10
          · as_aux_lemma =>
              have HNB := hide (show numbersB x.i = true by rw [HNU.out, v10]; simp)
              have HVX := hide (show varB hs p.caps x.i = (decide (0 ≤ fn) && decide (fn < fc)) by rw [HVA.out, v10]; simp)
              subst v10
              by_cases c1 : fn < 0
              · have HVB := hide (show varB hs p.caps x.i = false by rw [HVX.out, decide_eq_false (show ¬ 0 ≤ fn by omega)]; rfl)
                have d1 : decide (fn < 0) = true := decide_eq_true c1
                have HF := hide (HBADI.out k x HX.out (by rw [HI2.out, HVB.out]; simp))
                clear HI2
                go_wp2_with fail
                go_ret
                exact ⟨ret_bS HF.out.symm, HBF3.out⟩
              have d1 : decide (fn < 0) = false := decide_eq_false c1
              by_cases c2 : fc ≤ fn
              · have HVB := hide (show varB hs p.caps x.i = false by rw [HVX.out, decide_eq_false (show ¬ fn < fc by omega), Bool.and_false])
                have d2 : decide (fc ≤ fn) = true := decide_eq_true c2
                have HF := hide (HBADI.out k x HX.out (by rw [HI2.out, HVB.out]; simp))
                clear HI2
                go_wp2_with fail
                go_ret
                exact ⟨ret_bS HF.out.symm, HBF3.out⟩
              have d2 : decide (fc ≤ fn) = false := decide_eq_false c2
              have HVB := hide (show varB hs p.caps x.i = true by rw [HVX.out, decide_eq_true (show 0 ≤ fn by omega), decide_eq_true (show fn < fc by omega)]; rfl)
              have HSW := hide (And.intro HNB.out HVB.out)
              go_wp2_with fail
              go_meet
              exact ⟨HBW3, HSW⟩
          have w10 : (fo == 10) = false := by simp [v10]
          have HVB := hide (show varB hs p.caps x.i = true by rw [HVA.out, if_neg v10, if_neg (fun h => by omega)])
          by_cases v2 : fo = 2
          · as_aux_lemma =>
              have HNX := hide (show numbersB x.i = countB fn by rw [HNU.out, v2]; simp)
              subst v2
              have HC1 := hide (rcount_any fn W3)
              obtain ⟨cb1, hcb1⟩ : ∃ cb, cb = countB fn := ⟨_, rfl⟩
              rw [← hcb1] at HC1
              have HCB1 := hide hcb1
              clear hcb1
              go_wp2_with fail
              refine HC1.out.mono ?_
              rintro e w4 ⟨rfl, h4⟩
              obtain rfl : W3 = w4 := h4.symm
              cases hc : cb1 with
              | false =>
                have HNB := hide (show numbersB x.i = false by rw [HNX.out, ← HCB1.out, hc])
                subst hc
                have HF := hide (HBADI.out k x HX.out (by rw [HI2.out, HNB.out]; simp))
                clear HI2
                go_wp2_with fail
                go_ret
                exact ⟨ret_bS HF.out.symm, HBF3.out⟩
              | true =>
                have HNB := hide (show numbersB x.i = true by rw [HNX.out, ← HCB1.out, hc])
                subst hc
                have HSW := hide (And.intro HNB.out HVB.out)
                go_wp2_with fail
                go_meet
                exact ⟨HBW3, HSW⟩
          have w2 : (fo == 2) = false := by simp [v2]
          by_cases v5 : fo = 5
          · as_aux_lemma =>
              have HNX := hide (show numbersB x.i = countB fn by rw [HNU.out, v5]; simp)
              subst v5
              have HC1 := hide (rcount_any fn W3)
              obtain ⟨cb1, hcb1⟩ : ∃ cb, cb = countB fn := ⟨_, rfl⟩
              rw [← hcb1] at HC1
              have HCB1 := hide hcb1
              clear hcb1
              go_wp2_with fail
              refine HC1.out.mono ?_
              rintro e w4 ⟨rfl, h4⟩
              obtain rfl : W3 = w4 := h4.symm
              cases hc : cb1 with
              | false =>
                have HNB := hide (show numbersB x.i = false by rw [HNX.out, ← HCB1.out, hc])
                subst hc
                have HF := hide (HBADI.out k x HX.out (by rw [HI2.out, HNB.out]; simp))
                clear HI2
                go_wp2_with fail
                go_ret
                exact ⟨ret_bS HF.out.symm, HBF3.out⟩
              | true =>
                have HNB := hide (show numbersB x.i = true by rw [HNX.out, ← HCB1.out, hc])
                subst hc
                have HSW := hide (And.intro HNB.out HVB.out)
                go_wp2_with fail
                go_meet
                exact ⟨HBW3, HSW⟩
          have w5 : (fo == 5) = false := by simp [v5]
          by_cases v11 : fo = 11
          · as_aux_lemma =>
              have HNX := hide (show numbersB x.i = countB fn by rw [HNU.out, v11]; simp)
              subst v11
              have HC1 := hide (rcount_any fn W3)
              obtain ⟨cb1, hcb1⟩ : ∃ cb, cb = countB fn := ⟨_, rfl⟩
              rw [← hcb1] at HC1
              have HCB1 := hide hcb1
              clear hcb1
              go_wp2_with fail
              refine HC1.out.mono ?_
              rintro e w4 ⟨rfl, h4⟩
              obtain rfl : W3 = w4 := h4.symm
              cases hc : cb1 with
              | false =>
                have HNB := hide (show numbersB x.i = false by rw [HNX.out, ← HCB1.out, hc])
                subst hc
                have HF := hide (HBADI.out k x HX.out (by rw [HI2.out, HNB.out]; simp))
                clear HI2
                go_wp2_with fail
                go_ret
                exact ⟨ret_bS HF.out.symm, HBF3.out⟩
              | true =>
                have HNB := hide (show numbersB x.i = true by rw [HNX.out, ← HCB1.out, hc])
                subst hc
                have HSW := hide (And.intro HNB.out HVB.out)
                go_wp2_with fail
                go_meet
                exact ⟨HBW3, HSW⟩
          have w11 : (fo == 11) = false := by simp [v11]
          by_cases v12 : fo = 12
          · as_aux_lemma =>
              have HNX := hide (show numbersB x.i = countB fn by rw [HNU.out, v12]; simp)
              subst v12
              have HC1 := hide (rcount_any fn W3)
              obtain ⟨cb1, hcb1⟩ : ∃ cb, cb = countB fn := ⟨_, rfl⟩
              rw [← hcb1] at HC1
              have HCB1 := hide hcb1
              clear hcb1
              go_wp2_with fail
              refine HC1.out.mono ?_
              rintro e w4 ⟨rfl, h4⟩
              obtain rfl : W3 = w4 := h4.symm
              cases hc : cb1 with
              | false =>
                have HNB := hide (show numbersB x.i = false by rw [HNX.out, ← HCB1.out, hc])
                subst hc
                have HF := hide (HBADI.out k x HX.out (by rw [HI2.out, HNB.out]; simp))
                clear HI2
                go_wp2_with fail
                go_ret
                exact ⟨ret_bS HF.out.symm, HBF3.out⟩
              | true =>
                have HNB := hide (show numbersB x.i = true by rw [HNX.out, ← HCB1.out, hc])
                subst hc
                have HSW := hide (And.intro HNB.out HVB.out)
                go_wp2_with fail
                go_meet
                exact ⟨HBW3, HSW⟩
          have w12 : (fo == 12) = false := by simp [v12]
          by_cases v21 : fo = 21
          · as_aux_lemma =>
              have HNX := hide (show numbersB x.i = countB fn by rw [HNU.out, v21]; simp)
              subst v21
              have HC1 := hide (rcount_any fn W3)
              obtain ⟨cb1, hcb1⟩ : ∃ cb, cb = countB fn := ⟨_, rfl⟩
              rw [← hcb1] at HC1
              have HCB1 := hide hcb1
              clear hcb1
              go_wp2_with fail
              refine HC1.out.mono ?_
              rintro e w4 ⟨rfl, h4⟩
              obtain rfl : W3 = w4 := h4.symm
              cases hc : cb1 with
              | false =>
                have HNB := hide (show numbersB x.i = false by rw [HNX.out, ← HCB1.out, hc])
                subst hc
                have HF := hide (HBADI.out k x HX.out (by rw [HI2.out, HNB.out]; simp))
                clear HI2
                go_wp2_with fail
                go_ret
                exact ⟨ret_bS HF.out.symm, HBF3.out⟩
              | true =>
                have HNB := hide (show numbersB x.i = true by rw [HNX.out, ← HCB1.out, hc])
                subst hc
                have HSW := hide (And.intro HNB.out HVB.out)
                go_wp2_with fail
                go_meet
                exact ⟨HBW3, HSW⟩
          have w21 : (fo == 21) = false := by simp [v21]
          by_cases v34 : fo = 34
          · as_aux_lemma =>
              have HNX := hide (show numbersB x.i = countB fn by rw [HNU.out, v34]; simp)
              subst v34
              have HC1 := hide (rcount_any fn W3)
              obtain ⟨cb1, hcb1⟩ : ∃ cb, cb = countB fn := ⟨_, rfl⟩
              rw [← hcb1] at HC1
              have HCB1 := hide hcb1
              clear hcb1
              go_wp2_with fail
              refine HC1.out.mono ?_
              rintro e w4 ⟨rfl, h4⟩
              obtain rfl : W3 = w4 := h4.symm
              cases hc : cb1 with
              | false =>
                have HNB := hide (show numbersB x.i = false by rw [HNX.out, ← HCB1.out, hc])
                subst hc
                have HF := hide (HBADI.out k x HX.out (by rw [HI2.out, HNB.out]; simp))
                clear HI2
                go_wp2_with fail
                go_ret
                exact ⟨ret_bS HF.out.symm, HBF3.out⟩
              | true =>
                have HNB := hide (show numbersB x.i = true by rw [HNX.out, ← HCB1.out, hc])
                subst hc
                have HSW := hide (And.intro HNB.out HVB.out)
                go_wp2_with fail
                go_meet
                exact ⟨HBW3, HSW⟩
          have w34 : (fo == 34) = false := by simp [v34]
          by_cases v35 : fo = 35
          · as_aux_lemma =>
              have HNX := hide (show numbersB x.i = countB fn by rw [HNU.out, v35]; simp)
              subst v35
              have HC1 := hide (rcount_any fn W3)
              obtain ⟨cb1, hcb1⟩ : ∃ cb, cb = countB fn := ⟨_, rfl⟩
              rw [← hcb1] at HC1
              have HCB1 := hide hcb1
              clear hcb1
              go_wp2_with fail
              refine HC1.out.mono ?_
              rintro e w4 ⟨rfl, h4⟩
              obtain rfl : W3 = w4 := h4.symm
              cases hc : cb1 with
              | false =>
                have HNB := hide (show numbersB x.i = false by rw [HNX.out, ← HCB1.out, hc])
                subst hc
                have HF := hide (HBADI.out k x HX.out (by rw [HI2.out, HNB.out]; simp))
                clear HI2
                go_wp2_with fail
                go_ret
                exact ⟨ret_bS HF.out.symm, HBF3.out⟩
              | true =>
                have HNB := hide (show numbersB x.i = true by rw [HNX.out, ← HCB1.out, hc])
                subst hc
                have HSW := hide (And.intro HNB.out HVB.out)
                go_wp2_with fail
                go_meet
                exact ⟨HBW3, HSW⟩
          have w35 : (fo == 35) = false := by simp [v35]
          by_cases v9 : fo = 9
          · as_aux_lemma =>
              have HNX := hide (show numbersB x.i = countB fn by rw [HNU.out, v9]; simp)
              subst v9
              have HC1 := hide (rcount_any fn W3)
              obtain ⟨cb1, hcb1⟩ : ∃ cb, cb = countB fn := ⟨_, rfl⟩
              rw [← hcb1] at HC1
              have HCB1 := hide hcb1
              clear hcb1
              go_wp2_with fail
              refine HC1.out.mono ?_
              rintro e w4 ⟨rfl, h4⟩
              obtain rfl : W3 = w4 := h4.symm
              cases hc : cb1 with
              | false =>
                have HNB := hide (show numbersB x.i = false by rw [HNX.out, ← HCB1.out, hc])
                subst hc
                have HF := hide (HBADI.out k x HX.out (by rw [HI2.out, HNB.out]; simp))
                clear HI2
                go_wp2_with fail
                go_ret
                exact ⟨ret_bS HF.out.symm, HBF3.out⟩
              | true =>
                have HNB := hide (show numbersB x.i = true by rw [HNX.out, ← HCB1.out, hc])
                subst hc
                have HSW := hide (And.intro HNB.out HVB.out)
                go_wp2_with fail
                go_meet
                exact ⟨HBW3, HSW⟩
          have w9 : (fo == 9) = false := by simp [v9]
          by_cases v14 : fo = 14
          · as_aux_lemma =>
              have HNX := hide (show numbersB x.i = countB fn by rw [HNU.out, v14]; simp)
              subst v14
              have HC1 := hide (rcount_any fn W3)
              obtain ⟨cb1, hcb1⟩ : ∃ cb, cb = countB fn := ⟨_, rfl⟩
              rw [← hcb1] at HC1
              have HCB1 := hide hcb1
              clear hcb1
              go_wp2_with fail
              refine HC1.out.mono ?_
              rintro e w4 ⟨rfl, h4⟩
              obtain rfl : W3 = w4 := h4.symm
              cases hc : cb1 with
              | false =>
                have HNB := hide (show numbersB x.i = false by rw [HNX.out, ← HCB1.out, hc])
                subst hc
                have HF := hide (HBADI.out k x HX.out (by rw [HI2.out, HNB.out]; simp))
                clear HI2
                go_wp2_with fail
                go_ret
                exact ⟨ret_bS HF.out.symm, HBF3.out⟩
              | true =>
                have HNB := hide (show numbersB x.i = true by rw [HNX.out, ← HCB1.out, hc])
                subst hc
                have HSW := hide (And.intro HNB.out HVB.out)
                go_wp2_with fail
                go_meet
                exact ⟨HBW3, HSW⟩
          have w14 : (fo == 14) = false := by simp [v14]
          by_cases v15 : fo = 15
          · as_aux_lemma =>
              have HNX := hide (show numbersB x.i = (countB fn && countB fm) by rw [HNU.out, v15]; simp)
              subst v15
              have HC1 := hide (rcount_any fn W3)
              obtain ⟨cb1, hcb1⟩ : ∃ cb, cb = countB fn := ⟨_, rfl⟩
              rw [← hcb1] at HC1
              have HCB1 := hide hcb1
              clear hcb1
              go_wp2_with fail
              refine HC1.out.mono ?_
              rintro e w4 ⟨rfl, h4⟩
              obtain rfl : W3 = w4 := h4.symm
              cases hc : cb1 with
              | false =>
                have HNB := hide (show numbersB x.i = false by rw [HNX.out, ← HCB1.out, hc]; rfl)
                subst hc
                have HF := hide (HBADI.out k x HX.out (by rw [HI2.out, HNB.out]; simp))
                clear HI2
                go_wp2_with fail
                go_ret
                exact ⟨ret_bS HF.out.symm, HBF3.out⟩
              | true =>
                have HNX := hide (show numbersB x.i = countB fm by rw [HNX.out, ← HCB1.out, hc]; rfl)
                subst hc
                have HC2 := hide (rcount_any fm W3)
                obtain ⟨cb2, hcb2⟩ : ∃ cb, cb = countB fm := ⟨_, rfl⟩
                rw [← hcb2] at HC2
                have HCB2 := hide hcb2
                clear hcb2
                go_wp2_with fail
                refine HC2.out.mono ?_
                rintro e w4 ⟨rfl, h4⟩
                obtain rfl : W3 = w4 := h4.symm
                cases hc : cb2 with
                | false =>
                  have HNB := hide (show numbersB x.i = false by rw [HNX.out, ← HCB2.out, hc])
                  subst hc
                  have HF := hide (HBADI.out k x HX.out (by rw [HI2.out, HNB.out]; simp))
                  clear HI2
                  go_wp2_with fail
                  go_ret
                  exact ⟨ret_bS HF.out.symm, HBF3.out⟩
                | true =>
                  have HNB := hide (show numbersB x.i = true by rw [HNX.out, ← HCB2.out, hc])
                  subst hc
                  have HSW := hide (And.intro HNB.out HVB.out)
                  go_wp2_with fail
                  go_meet
                  exact ⟨HBW3, HSW⟩
          have w15 : (fo == 15) = false := by simp [v15]
          by_cases v16 : fo = 16
          · as_aux_lemma =>
              have HNX := hide (show numbersB x.i = countB fm by rw [HNU.out, v16]; simp)
              subst v16
              have HC1 := hide (rcount_any fm W3)
              obtain ⟨cb1, hcb1⟩ : ∃ cb, cb = countB fm := ⟨_, rfl⟩
              rw [← hcb1] at HC1
              have HCB1 := hide hcb1
              clear hcb1
              go_wp2_with fail
              refine HC1.out.mono ?_
              rintro e w4 ⟨rfl, h4⟩
              obtain rfl : W3 = w4 := h4.symm
              cases hc : cb1 with
              | false =>
                have HNB := hide (show numbersB x.i = false by rw [HNX.out, ← HCB1.out, hc])
                subst hc
                have HF := hide (HBADI.out k x HX.out (by rw [HI2.out, HNB.out]; simp))
                clear HI2
                go_wp2_with fail
                go_ret
                exact ⟨ret_bS HF.out.symm, HBF3.out⟩
              | true =>
                have HNB := hide (show numbersB x.i = true by rw [HNX.out, ← HCB1.out, hc])
                subst hc
                have HSW := hide (And.intro HNB.out HVB.out)
                go_wp2_with fail
                go_meet
                exact ⟨HBW3, HSW⟩
          have w16 : (fo == 16) = false := by simp [v16]
          by_cases v22 : fo = 22
          · as_aux_lemma =>
              have HNX := hide (show numbersB x.i = countB fm by rw [HNU.out, v22]; simp)
              subst v22
              have HC1 := hide (rcount_any fm W3)
              obtain ⟨cb1, hcb1⟩ : ∃ cb, cb = countB fm := ⟨_, rfl⟩
              rw [← hcb1] at HC1
              have HCB1 := hide hcb1
              clear hcb1
              go_wp2_with fail
              refine HC1.out.mono ?_
              rintro e w4 ⟨rfl, h4⟩
              obtain rfl : W3 = w4 := h4.symm
              cases hc : cb1 with
              | false =>
                have HNB := hide (show numbersB x.i = false by rw [HNX.out, ← HCB1.out, hc])
                subst hc
                have HF := hide (HBADI.out k x HX.out (by rw [HI2.out, HNB.out]; simp))
                clear HI2
                go_wp2_with fail
                go_ret
                exact ⟨ret_bS HF.out.symm, HBF3.out⟩
              | true =>
                have HNB := hide (show numbersB x.i = true by rw [HNX.out, ← HCB1.out, hc])
                subst hc
                have HSW := hide (And.intro HNB.out HVB.out)
                go_wp2_with fail
                go_meet
                exact ⟨HBW3, HSW⟩
          have w22 : (fo == 22) = false := by simp [v22]
          by_cases v30 : fo = 30
          · as_aux_lemma =>
              have HNX := hide (show numbersB x.i = countB fm by rw [HNU.out, v30]; simp)
              subst v30
              have HC1 := hide (rcount_any fm W3)
              obtain ⟨cb1, hcb1⟩ : ∃ cb, cb = countB fm := ⟨_, rfl⟩
              rw [← hcb1] at HC1
              have HCB1 := hide hcb1
              clear hcb1
              go_wp2_with fail
              refine HC1.out.mono ?_
              rintro e w4 ⟨rfl, h4⟩
              obtain rfl : W3 = w4 := h4.symm
              cases hc : cb1 with
              | false =>
                have HNB := hide (show numbersB x.i = false by rw [HNX.out, ← HCB1.out, hc])
                subst hc
                have HF := hide (HBADI.out k x HX.out (by rw [HI2.out, HNB.out]; simp))
                clear HI2
                go_wp2_with fail
                go_ret
                exact ⟨ret_bS HF.out.symm, HBF3.out⟩
              | true =>
                have HNB := hide (show numbersB x.i = true by rw [HNX.out, ← HCB1.out, hc])
                subst hc
                have HSW := hide (And.intro HNB.out HVB.out)
                go_wp2_with fail
                go_meet
                exact ⟨HBW3, HSW⟩
          have w30 : (fo == 30) = false := by simp [v30]
          by_cases v31 : fo = 31
          · as_aux_lemma =>
              have HNX := hide (show numbersB x.i = countB fm by rw [HNU.out, v31]; simp)
              subst v31
              have HC1 := hide (rcount_any fm W3)
              obtain ⟨cb1, hcb1⟩ : ∃ cb, cb = countB fm := ⟨_, rfl⟩
              rw [← hcb1] at HC1
              have HCB1 := hide hcb1
              clear hcb1
              go_wp2_with fail
              refine HC1.out.mono ?_
              rintro e w4 ⟨rfl, h4⟩
              obtain rfl : W3 = w4 := h4.symm
              cases hc : cb1 with
              | false =>
                have HNB := hide (show numbersB x.i = false by rw [HNX.out, ← HCB1.out, hc])
                subst hc
                have HF := hide (HBADI.out k x HX.out (by rw [HI2.out, HNB.out]; simp))
                clear HI2
                go_wp2_with fail
                go_ret
                exact ⟨ret_bS HF.out.symm, HBF3.out⟩
              | true =>
                have HNB := hide (show numbersB x.i = true by rw [HNX.out, ← HCB1.out, hc])
                subst hc
                have HSW := hide (And.intro HNB.out HVB.out)
                go_wp2_with fail
                go_meet
                exact ⟨HBW3, HSW⟩
          have w31 : (fo == 31) = false := by simp [v31]
          by_cases v33 : fo = 33
          · as_aux_lemma =>
              have HNX := hide (show numbersB x.i = countB fm by rw [HNU.out, v33]; simp)
              subst v33
              have HC1 := hide (rcount_any fm W3)
              obtain ⟨cb1, hcb1⟩ : ∃ cb, cb = countB fm := ⟨_, rfl⟩
              rw [← hcb1] at HC1
              have HCB1 := hide hcb1
              clear hcb1
              go_wp2_with fail
              refine HC1.out.mono ?_
              rintro e w4 ⟨rfl, h4⟩
              obtain rfl : W3 = w4 := h4.symm
              cases hc : cb1 with
              | false =>
                have HNB := hide (show numbersB x.i = false by rw [HNX.out, ← HCB1.out, hc])
                subst hc
                have HF := hide (HBADI.out k x HX.out (by rw [HI2.out, HNB.out]; simp))
                clear HI2
                go_wp2_with fail
                go_ret
                exact ⟨ret_bS HF.out.symm, HBF3.out⟩
              | true =>
                have HNB := hide (show numbersB x.i = true by rw [HNX.out, ← HCB1.out, hc])
                subst hc
                have HSW := hide (And.intro HNB.out HVB.out)
                go_wp2_with fail
                go_meet
                exact ⟨HBW3, HSW⟩
          have w33 : (fo == 33) = false := by simp [v33]
          by_cases v37 : fo = 37
          · as_aux_lemma =>
              have HNX := hide (show numbersB x.i = !(x.i.arms.any badArm) by rw [HNU.out, v37]; simp)
              subst v37
              obtain ⟨Ar, cr, hrv⟩ := (HIO.out W3 HB3.out x HXM.out).rm.form
              obtain ⟨mr, hmr⟩ : ∃ mr, mr = x.i.arms.length := ⟨_, rfl⟩
              rw [← hmr] at hrv
              have HRM := hide (show ∀ wr, Below W3.heap.size W3 wr → ArmsAt wr (.slice Ar mr cr) x.i.arms from fun wr hw => by
                have h := (HIO.out wr (HB3.out.trans (hw.mono HB3.out.size)) x HXM.out).rm
                rw [hrv] at h
                exact h)
              have HC15 := hide (show ∀ wr, Below W3.heap.size W3 wr → wr.cell? ⟨gi, 15, none⟩ = some (.slice Ar mr cr) from fun wr hw => by
                have h := (HBI.out.below hw HBI.out.lt).cell 15
                rw [h, ← hrv]
                rfl)
              have HMR := hide (show mr = x.i.arms.length ∧ mr ≤ 100 from ⟨hmr, by have := HLX.out.1; omega⟩)
              clear hmr hrv o0 o4 o5
              go_upto_region 46 with (fail)
              go_loopw [6] (fun kk wr => ∃ j : Nat, j ≤ mr ∧ kk = .int .i64 (j : Int) ∧ Hid (∀ (q : Nat) (y : Arm), q < j → x.i.arms[q]? = some y → badArm y = false) ∧ Hid (Below W3.heap.size W3 wr)) (fun kk _ => mr - (intOf kk).toNat)
              case atStart => exact ⟨0, Nat.zero_le _, rfl, hide (fun q y h => absurd h (Nat.not_lt_zero _)), HBW3⟩
              case round =>
                obtain ⟨j, hj, rfl, HJA, HWJ⟩ := hrel
                have c15 := HC15.out wr HWJ.out
                by_cases hlt2 : j < mr
                · have j1 : (j : Int) < (mr : Int) := by omega
                  have j2 : (0 : Int) ≤ (j : Int) := by omega
                  obtain ⟨jn, hjn⟩ : ∃ jn, jn = j + 1 := ⟨_, rfl⟩
                  have q6 : IntKind.i64.wrap ((j : Int) + 1) = (jn : Int) := by rw [IntWalk.i64_in _ (by have := HMR.out; omega)]; omega
                  have HJN := hide hjn
                  have HLTJ := hide hlt2
                  obtain ⟨b3, o3, y, hA3, hl3, hy, v0, v1, v2, v3, v4, v5⟩ := ArmsAt.at_ (HRM.out wr HWJ.out) (i := j) (by rw [← HMR.out.1]; exact hlt2)
                  subst hA3
                  have HYX := hide hy
                  obtain ⟨xk, hxk⟩ : ∃ xk, xk = y.k := ⟨_, rfl⟩
                  obtain ⟨xn, hxn⟩ : ∃ xn, xn = y.n := ⟨_, rfl⟩
                  rw [← hxk] at v0
                  rw [← hxn] at v3
                  have HBA := hide (show badArm y = (decide (xk < 1) || decide (3 < xk) || !(countB xn)) by rw [hxk, hxn]; rfl)
                  obtain ⟨gx, hgx⟩ : ∃ gx, gx = wr.heap.size := ⟨_, rfl⟩
                  obtain ⟨W6, hW6⟩ : ∃ W6, W6 = wr.alloc (.cells #[.int .i64 xk, .int .i64 y.a, .int .i64 y.b, .int .i64 xn, .int .i64 y.t, .int .i64 y.to_] 62) := ⟨_, rfl⟩
                  have hb6 : Below wr.heap.size wr W6 := by rw [hW6]; exact (Below.refl _ _).alloc (Nat.le_refl _) _
                  have HBX := hide (show Blk W6 gx 62 #[.int .i64 xk, .int .i64 y.a, .int .i64 y.b, .int .i64 xn, .int .i64 y.t, .int .i64 y.to_] by rw [hW6, hgx]; exact Blk.new _ _ _)
                  have HB6 := hide (HWJ.out.trans (hb6.mono HWJ.out.size))
                  have HBE := hide (HBF3.out.trans (HB6.out.mono HBF3.out.size))
                  have HGX := hide hgx
                  have HW6 := hide hW6
                  clear hgx hW6 hb6 hjn hxk hxn hlt2 hj hl3 hy
                  go_upto_region 49 with (fail)
                  rw [← HGX.out, ← HW6.out]
                  clear c15 v0 v1 v2 v3 v4 v5
                  have z0 : W6.cell? ⟨gx, 0, none⟩ = some (.int .i64 xk) := HBX.out.cell 0
                  have z3 : W6.cell? ⟨gx, 3, none⟩ = some (.int .i64 xn) := HBX.out.cell 3
                  by_cases x1 : xk < 1
                  · have e1 : decide (xk < 1) = true := decide_eq_true x1
                    have HNB := hide (show numbersB x.i = false by rw [HNX.out, List.any_eq_true.2 ⟨y, List.mem_of_getElem? HYX.out, by rw [HBA.out, decide_eq_true x1]; rfl⟩]; rfl)
                    have HF := hide (HBADI.out k x HX.out (by rw [HI2.out, HNB.out]; simp))
                    clear HI2
                    go_wp2_with fail
                    go_ret
                    exact ⟨ret_bS HF.out.symm, HBE.out⟩
                  have e1 : decide (xk < 1) = false := decide_eq_false x1
                  by_cases x3 : 3 < xk
                  · have e3 : decide (3 < xk) = true := decide_eq_true x3
                    have HNB := hide (show numbersB x.i = false by rw [HNX.out, List.any_eq_true.2 ⟨y, List.mem_of_getElem? HYX.out, by rw [HBA.out, decide_eq_true x3, Bool.or_true]; rfl⟩]; rfl)
                    have HF := hide (HBADI.out k x HX.out (by rw [HI2.out, HNB.out]; simp))
                    clear HI2
                    go_wp2_with fail
                    go_ret
                    exact ⟨ret_bS HF.out.symm, HBE.out⟩
                  have e3 : decide (3 < xk) = false := decide_eq_false x3
                  have HC1 := hide (rcount_any xn W6)
                  obtain ⟨cb, hcb⟩ : ∃ cb, cb = countB xn := ⟨_, rfl⟩
                  rw [← hcb] at HC1
                  have HCB := hide hcb
                  have HBA2 := hide (show badArm y = !cb by rw [HBA.out, e1, e3, hcb]; rfl)
                  clear hcb
                  go_wp2_with fail
                  refine HC1.out.mono ?_
                  rintro e w4 ⟨rfl, h4⟩
                  obtain rfl : W6 = w4 := h4.symm
                  cases hc : cb with
                  | false =>
                    have HBA3 := hide (show badArm y = true by rw [HBA2.out, hc]; rfl)
                    subst hc
                    have HNB := hide (show numbersB x.i = false by rw [HNX.out, List.any_eq_true.2 ⟨y, List.mem_of_getElem? HYX.out, HBA3.out⟩]; rfl)
                    have HF := hide (HBADI.out k x HX.out (by rw [HI2.out, HNB.out]; simp))
                    clear HI2
                    go_wp2_with fail
                    go_ret
                    exact ⟨ret_bS HF.out.symm, HBE.out⟩
                  | true =>
                    have HBA3 := hide (show badArm y = false by rw [HBA2.out, hc]; rfl)
                    subst hc
                    go_wp2_with fail
                    go_roundw
                    case rel => exact ⟨j + 1, by have := HLTJ.out; omega, by rw [HJN.out], hide (fun q z hq hz => by
                      rcases Nat.lt_or_ge q j with h | h
                      · exact HJA.out q z h hz
                      · have e : q = j := by omega
                        subst e
                        have e2 : some z = some y := hz.symm.trans HYX.out
                        injection e2 with e2
                        rw [e2]
                        exact HBA3.out), HB6⟩
                    case measure => rw [HJN.out]; simp [intOf]; have := HLTJ.out; omega
                · have j1 : ¬ (j : Int) < (mr : Int) := by omega
                  have HNB := hide (show numbersB x.i = true by
                    rw [HNX.out]
                    cases ha : x.i.arms.any badArm with
                    | false => rfl
                    | true =>
                      obtain ⟨y, hy, hb⟩ := List.any_eq_true.1 ha
                      obtain ⟨q, hq⟩ := List.getElem?_of_mem hy
                      rw [HJA.out q y (by have := (List.getElem?_eq_some_iff.1 hq).1; have := HMR.out.1; omega) hq] at hb
                      cases hb)
                  have HSW := hide (And.intro HNB.out HVB.out)
                  clear hlt2 hj
                  go_wp2_with fail
                  go_meet
                  exact ⟨HWJ, HSW⟩
          have w37 : (fo == 37) = false := by simp [v37]
          have HNB := hide (show numbersB x.i = true by rw [HNU.out, if_neg (fun h => by omega), if_neg v15, if_neg (fun h => by omega), if_neg v37])
          as_aux_lemma =>
            have HSW := hide (And.intro HNB.out HVB.out)
            go_wp2_with fail
            go_meet
            exact ⟨HBW3, HSW⟩
        case rest =>
          obtain ⟨HW5, HSW⟩ := hcut
          obtain ⟨W5, rfl⟩ : ∃ W, W = wc := ⟨_, rfl⟩
          have HBI5 := hide (HBI.out.below HW5.out HBI.out.lt)
          have HB5 := hide (HB3.out.trans (HW5.out.mono HB3.out.size))
          have HRD := hide (fun W (hW : Below W5.heap.size W5 W) => rreads_any x.i x.av x.rv W ((HIO.out W5 HB5.out x HXM.out).below hW (Nat.le_refl _)) (by rw [← HFO.out]; exact HOP.out) HLX.out)
          have HWT := hide (fun W (hW : Below W5.heap.size W5 W) => rwrites_any x.i x.av x.rv W ((HIO.out W5 HB5.out x HXM.out).below hW (Nat.le_refl _)) (by rw [← HFO.out]; exact HOP.out) HLX.out)
          rw [← (show V = x.i.val x.av x.rv from HVI.out)] at HRD HWT
          obtain ⟨nr, hnr⟩ : ∃ nr, nr = (readL x.i).length := ⟨_, rfl⟩
          obtain ⟨nw, hnw⟩ : ∃ nw, nw = (wrotL x.i).length := ⟨_, rfl⟩
          obtain ⟨LL, hLL⟩ : ∃ LL, LL = readL x.i ++ wrotL x.i := ⟨_, rfl⟩
          have HLE := hide (show nr = (readL x.i).length ∧ nw = (wrotL x.i).length ∧ nr + nw ≤ 131074000 from ⟨hnr, hnw, by have := readL_len HLX.out; have := wrotL_len HLX.out; omega⟩)
          have HLL := hide hLL
          clear hnr hnw hLL y2 y3 y5 y6 y7 y8 o0
          go_upto_region 51 with (fail)
          go_cut [8] from 56 to 266 (fun s8 wx => ∃ (A8 : Option Addr) (c8 : Nat), s8 = .slice A8 (nr + nw) c8 ∧ Hid (IntsAt wx (.slice A8 (nr + nw) c8) LL) ∧ Hid (Below W5.heap.size W5 wx))
          case first =>
            as_aux_lemma =>
              have hh0 : Blk W5 gi 45 (x.i.arr x.av x.rv) := HBI5.out
              have HAL := hide hh0.lt
              go_wp2_with fail
              refine wp_region_tail 99 (fun w' => Blk w' gi 45 (x.i.arr x.av x.rv)) (by kernel_rfl) hh0 (fun hHeld => ?_)
              try simp only [Act.put, List.setIfInBounds_toArray, List.set_cons_zero, List.set_cons_succ]
              refine' wpTail_take (i := 1) (oi := _) ?hi5001 ?hs5001 ?hf5001 ?hr5001 ?hz5001 ?hQ5001 (v := V) ?hy5001 (by assumption) ?_
              case hi5001 => (simp only [List.getElem?_toArray, List.getElem?_cons_succ, List.getElem?_cons_zero]; exact rfl)
              case hs5001 => kernel_rfl
              case hf5001 => kernel_rfl
              case hr5001 => kernel_rfl
              case hz5001 => kernel_rfl
              case hQ5001 => exact fun _ _ _ h => h
              case hy5001 => (rw [HVI.out]; exact yieldsIf_load_mid rfl 45 (.tmp 4) rfl gi 0 rfl (x.i.arr x.av x.rv).toList _ (fun W0 hSw j v hv => by rw [Nat.zero_add, Blk.cell hSw]; simpa using hv) Try.underlying45 rfl ins_size)
              try simp only [Act.put, List.setIfInBounds_toArray, List.set_cons_zero, List.set_cons_succ]
              refine' wpTail_take (i := 4) (oi := _) ?hi5002 ?hs5002 ?hf5002 ?hr5002 ?hz5002 ?hQ5002 (v := V) ?hy5002 (by assumption) ?_
              case hi5002 => (simp only [List.getElem?_toArray, List.getElem?_cons_succ, List.getElem?_cons_zero]; exact rfl)
              case hs5002 => kernel_rfl
              case hf5002 => kernel_rfl
              case hr5002 => kernel_rfl
              case hz5002 => kernel_rfl
              case hQ5002 => exact fun _ _ _ h => h
              case hy5002 => (rw [HVI.out]; exact yieldsIf_load_mid rfl 45 (.tmp 4) rfl gi 0 rfl (x.i.arr x.av x.rv).toList _ (fun W0 hSw j v hv => by rw [Nat.zero_add, Blk.cell hSw]; simpa using hv) Try.underlying45 rfl ins_size)
              try simp only [Act.put, List.setIfInBounds_toArray, List.set_cons_zero, List.set_cons_succ]
              refine' wpTail_two (i := 0) (j := 2) (o := _) (p := _) (by kernel_rfl) ?hi5003 ?hj5003 ?wi5003 ?wj5003 ?si5003 ?sj5003
              case hi5003 => (simp only [List.getElem?_toArray, List.getElem?_cons_zero]; exact rfl)
              case hj5003 => (simp only [List.getElem?_toArray, List.getElem?_cons_succ, List.getElem?_cons_zero]; exact rfl)
              case wi5003 => rfl
              case wj5003 => rfl
              case si5003 =>
                intro K hK
                go_simp
                obtain ⟨W4, hW4⟩ : ∃ W4, W4 = (W5.alloc (.cells #[] 3)).drew := ⟨_, rfl⟩
                have hd4 : Below W5.heap.size W5 W4 := by rw [hW4]; exact ((Below.refl _ _).alloc (Nat.le_refl _) _).drew
                have hlit : W4.ownsRow W5.heap.size 3 1 (.slice (some ⟨W5.heap.size, 0, none⟩) 0 0) 0 [] := by rw [hW4]; exact own_belowT (own_litI (W := W5) (B := W5.heap.size) (n := 0) (cs := #[]) (Nat.le_refl _) rfl (by decide)) (Below.refl _ _).drew
                have hh4 : Blk W4 gi 45 (x.i.arr x.av x.rv) := hh0.below hd4 HAL.out
                rw [← hW4]
                clear hW4
                refine hK.out _ _ (fun _ => hh4) ?_
                clear hK K
                try simp only [Act.put, List.setIfInBounds_toArray, List.set_cons_zero, List.set_cons_succ]
                refine' wpTail_one (i := 2) (o := _) (by kernel_rfl) ?ho5004 ?hw5004 (fun K hK => ?_)
                case ho5004 => (simp only [List.getElem?_toArray, List.getElem?_cons_succ, List.getElem?_cons_zero]; exact rfl)
                case hw5004 => rfl
                go_simp
                (with_reducible refine (HRD.out W4 hd4).mono ?_)
                rintro e w3 ⟨v3, rfl, hown3, hb3⟩
                rw [← HLE.out.1] at hown3
                obtain ⟨A3, c3, rfl⟩ := own_formT hown3
                have hd3 : Below W5.heap.size W5 w3 := (hd4).trans (hb3.mono (hd4).size)
                have hh3 := hh0.below hd3 HAL.out
                refine hK.out _ _ (fun _ => hh3) ?_
                clear hK K
                have hlit3 := own_belowT hlit hb3
                try simp only [Act.put, List.setIfInBounds_toArray, List.set_cons_zero, List.set_cons_succ]
                refine' wpTail_one (i := 3) (o := _) (by kernel_rfl) ?ho5005 ?hw5005 (fun K hK => ?_)
                case ho5005 => (simp only [List.getElem?_toArray, List.getElem?_cons_succ, List.getElem?_cons_zero]; exact rfl)
                case hw5005 => rfl
                refine wp_append_any _ (.tmp 216) (.tmp 218) _ rfl W5.heap.size 3 i0 _ 1 8 Try.underlying23 hi0 hz0 hz1 hz2 rfl (by omega) _ 0 [] rfl hlit3 (w3).heap.size A3 nr c3 _ rfl (Reads.of_own hown3) (ints_oneT _) (by have := HLE.out.2.2; simp only [maxLen]; omega) (by have := HLE.out.2.2; omega) (hd3).size ?_
                intro v6 w6 hown6 hg6 hat6
                simp only [Nat.zero_add, List.nil_append] at hown6
                have hd6 : Below W5.heap.size W5 w6 := (hd3).grown hg6 (hd3).size (fun k hk => (Go.World.ownsRow.lt hlit3 k hk).1)
                have hh6 := hh0.below hd6 HAL.out
                obtain ⟨A6, c6, rfl⟩ := own_formT hown6
                refine hK.out _ _ (fun _ => hh6) ?_
                clear hK K
                try simp only [Act.put, List.setIfInBounds_toArray, List.set_cons_zero, List.set_cons_succ]
                refine' wpTail_one (i := 5) (o := _) (by kernel_rfl) ?ho5006 ?hw5006 (fun K hK => ?_)
                case ho5006 => (simp only [List.getElem?_toArray, List.getElem?_cons_succ, List.getElem?_cons_zero]; exact rfl)
                case hw5006 => rfl
                go_simp
                (with_reducible refine (HWT.out w6 hd6).mono ?_)
                rintro e w7 ⟨v7, rfl, hown7, hb7⟩
                rw [← HLE.out.2.1] at hown7
                obtain ⟨A7, c7, rfl⟩ := own_formT hown7
                have hd7 : Below W5.heap.size W5 w7 := hd6.trans (hb7.mono hd6.size)
                have hh7 := hh0.below hd7 HAL.out
                have hown67 := own_belowT hown6 hb7
                refine hK.out _ _ (fun _ => hh7) ?_
                clear hK K
                try simp only [Act.put, List.setIfInBounds_toArray, List.set_cons_zero, List.set_cons_succ]
                refine' wpTail_one (i := 6) (o := _) (by kernel_rfl) ?ho5007 ?hw5007 (fun K hK => ?_)
                case ho5007 => (simp only [List.getElem?_toArray, List.getElem?_cons_succ, List.getElem?_cons_zero]; exact rfl)
                case hw5007 => rfl
                refine wp_append_any _ (.tmp 219) (.tmp 221) _ rfl W5.heap.size 3 i0 _ 1 8 Try.underlying23 hi0 hz0 hz1 hz2 rfl (by omega) (.slice A6 nr c6) nr _ rfl hown67 w7.heap.size A7 nw c7 _ rfl (Reads.of_own hown7) (ints_oneT _) (by have := HLE.out.2.2; simp only [maxLen]; omega) (by have := HLE.out.2.2; omega) hd7.size ?_
                intro v8 w8 hown8 hg8 hat8
                have hd8 : Below W5.heap.size W5 w8 := hd7.grown hg8 hd7.size (fun k hk => (hown67.lt k hk).1)
                have hh8 := hh0.below hd8 HAL.out
                obtain ⟨A8, c8, rfl⟩ := own_formT hown8
                refine hK.out _ _ (fun _ => hh8) ?_
                clear hK K
                have HI8 := hide (show IntsAt w8 (.slice A8 (nr + nw) c8) LL from IntsAt.own (B := W5.heap.size) (by
                  rw [HLL.out, List.length_append, ← HLE.out.1, ← HLE.out.2.1, List.map_append]
                  exact hown8))
                have HB8 := hide hd8
                clear hown8 hg8 hat8 hown67 hown7 hown6
                try simp only [Act.put, List.setIfInBounds_toArray, List.set_cons_zero, List.set_cons_succ]
                refine' wpTail_one (i := 7) (o := _) (by kernel_rfl) ?ho5008 ?hw5008 (fun K hK => ?_)
                case ho5008 => (simp only [List.getElem?_toArray, List.getElem?_cons_succ, List.getElem?_cons_zero]; exact rfl)
                case hw5008 => rfl
                go_simp
                refine hK.out _ _ (fun _ => hh8) ?_
                clear hK K
                refine wpTail_done (by kernel_rfl) ?_ _
                try simp only [Act.put, List.setIfInBounds_toArray, List.set_cons_zero, List.set_cons_succ]
                clear hHeld
                go_wp2_with fail
                go_meet
                exact ⟨A8, c8, rfl, HI8, HB8⟩
              case sj5003 =>
                intro K hK
                go_simp
                (with_reducible refine (HRD.out W5.drew (Below.refl W5.heap.size W5).drew).mono ?_)
                rintro e w2 ⟨v3, rfl, hown2, hb2⟩
                rw [← HLE.out.1] at hown2
                obtain ⟨A3, c3, rfl⟩ := own_formT hown2
                have hd2 : Below W5.heap.size W5 w2 := (below_drewL (Below.refl W5.heap.size W5) 1).trans hb2
                have hh2 := hh0.below hd2 HAL.out
                refine hK.out _ _ (fun _ => hh2) ?_
                clear hK K
                try simp only [Act.put, List.setIfInBounds_toArray, List.set_cons_zero, List.set_cons_succ]
                refine' wpTail_one (i := 0) (o := _) (by kernel_rfl) ?ho5009 ?hw5009 (fun K hK => ?_)
                case ho5009 => (simp only [List.getElem?_toArray, List.getElem?_cons_zero]; exact rfl)
                case hw5009 => rfl
                go_simp
                obtain ⟨w3, hw3⟩ : ∃ w3, w3 = w2.alloc (.cells #[] 3) := ⟨_, rfl⟩
                have hb3 : Below w2.heap.size w2 w3 := by rw [hw3]; exact (Below.refl _ _).alloc (Nat.le_refl _) _
                have hlit3 : w3.ownsRow W5.heap.size 3 1 (.slice (some ⟨w2.heap.size, 0, none⟩) 0 0) 0 [] := by rw [hw3]; exact own_litI (W := w2) (B := W5.heap.size) (n := 0) (cs := #[]) hd2.size rfl (by decide)
                have hd3 : Below W5.heap.size W5 w3 := hd2.trans (hb3.mono hd2.size)
                have hh3 : Blk w3 gi 45 (x.i.arr x.av x.rv) := hh0.below hd3 HAL.out
                have hown3 := own_belowT hown2 hb3
                rw [← hw3]
                clear hw3
                refine hK.out _ _ (fun _ => hh3) ?_
                clear hK K
                try simp only [Act.put, List.setIfInBounds_toArray, List.set_cons_zero, List.set_cons_succ]
                refine' wpTail_one (i := 3) (o := _) (by kernel_rfl) ?ho5010 ?hw5010 (fun K hK => ?_)
                case ho5010 => (simp only [List.getElem?_toArray, List.getElem?_cons_succ, List.getElem?_cons_zero]; exact rfl)
                case hw5010 => rfl
                refine wp_append_any _ (.tmp 216) (.tmp 218) _ rfl W5.heap.size 3 i0 _ 1 8 Try.underlying23 hi0 hz0 hz1 hz2 rfl (by omega) _ 0 [] rfl hlit3 (w3).heap.size A3 nr c3 _ rfl (Reads.of_own hown3) (ints_oneT _) (by have := HLE.out.2.2; simp only [maxLen]; omega) (by have := HLE.out.2.2; omega) (hd3).size ?_
                intro v6 w6 hown6 hg6 hat6
                simp only [Nat.zero_add, List.nil_append] at hown6
                have hd6 : Below W5.heap.size W5 w6 := (hd3).grown hg6 (hd3).size (fun k hk => (Go.World.ownsRow.lt hlit3 k hk).1)
                have hh6 := hh0.below hd6 HAL.out
                obtain ⟨A6, c6, rfl⟩ := own_formT hown6
                refine hK.out _ _ (fun _ => hh6) ?_
                clear hK K
                try simp only [Act.put, List.setIfInBounds_toArray, List.set_cons_zero, List.set_cons_succ]
                refine' wpTail_one (i := 5) (o := _) (by kernel_rfl) ?ho5011 ?hw5011 (fun K hK => ?_)
                case ho5011 => (simp only [List.getElem?_toArray, List.getElem?_cons_succ, List.getElem?_cons_zero]; exact rfl)
                case hw5011 => rfl
                go_simp
                (with_reducible refine (HWT.out w6 hd6).mono ?_)
                rintro e w7 ⟨v7, rfl, hown7, hb7⟩
                rw [← HLE.out.2.1] at hown7
                obtain ⟨A7, c7, rfl⟩ := own_formT hown7
                have hd7 : Below W5.heap.size W5 w7 := hd6.trans (hb7.mono hd6.size)
                have hh7 := hh0.below hd7 HAL.out
                have hown67 := own_belowT hown6 hb7
                refine hK.out _ _ (fun _ => hh7) ?_
                clear hK K
                try simp only [Act.put, List.setIfInBounds_toArray, List.set_cons_zero, List.set_cons_succ]
                refine' wpTail_one (i := 6) (o := _) (by kernel_rfl) ?ho5012 ?hw5012 (fun K hK => ?_)
                case ho5012 => (simp only [List.getElem?_toArray, List.getElem?_cons_succ, List.getElem?_cons_zero]; exact rfl)
                case hw5012 => rfl
                refine wp_append_any _ (.tmp 219) (.tmp 221) _ rfl W5.heap.size 3 i0 _ 1 8 Try.underlying23 hi0 hz0 hz1 hz2 rfl (by omega) (.slice A6 nr c6) nr _ rfl hown67 w7.heap.size A7 nw c7 _ rfl (Reads.of_own hown7) (ints_oneT _) (by have := HLE.out.2.2; simp only [maxLen]; omega) (by have := HLE.out.2.2; omega) hd7.size ?_
                intro v8 w8 hown8 hg8 hat8
                have hd8 : Below W5.heap.size W5 w8 := hd7.grown hg8 hd7.size (fun k hk => (hown67.lt k hk).1)
                have hh8 := hh0.below hd8 HAL.out
                obtain ⟨A8, c8, rfl⟩ := own_formT hown8
                refine hK.out _ _ (fun _ => hh8) ?_
                clear hK K
                have HI8 := hide (show IntsAt w8 (.slice A8 (nr + nw) c8) LL from IntsAt.own (B := W5.heap.size) (by
                  rw [HLL.out, List.length_append, ← HLE.out.1, ← HLE.out.2.1, List.map_append]
                  exact hown8))
                have HB8 := hide hd8
                clear hown8 hg8 hat8 hown67 hown7 hown6
                try simp only [Act.put, List.setIfInBounds_toArray, List.set_cons_zero, List.set_cons_succ]
                refine' wpTail_one (i := 7) (o := _) (by kernel_rfl) ?ho5013 ?hw5013 (fun K hK => ?_)
                case ho5013 => (simp only [List.getElem?_toArray, List.getElem?_cons_succ, List.getElem?_cons_zero]; exact rfl)
                case hw5013 => rfl
                go_simp
                refine hK.out _ _ (fun _ => hh8) ?_
                clear hK K
                refine wpTail_done (by kernel_rfl) ?_ _
                try simp only [Act.put, List.setIfInBounds_toArray, List.set_cons_zero, List.set_cons_succ]
                clear hHeld
                go_wp2_with fail
                go_meet
                exact ⟨A8, c8, rfl, HI8, HB8⟩
          case rest =>
            obtain ⟨A8, c8, rfl, HI8, HB8⟩ := hcut
            obtain ⟨W8, rfl⟩ : ∃ W, W = wc := ⟨_, rfl⟩
            obtain ⟨nl, hnl⟩ : ∃ nl, nl = nr + nw := ⟨_, rfl⟩
            rw [← hnl] at HI8 ⊢
            have HNL := hide (show nl = LL.length ∧ nl ≤ 131074000 from ⟨by rw [HLL.out, List.length_append, ← HLE.out.1, ← HLE.out.2.1]; exact hnl, by have := HLE.out.2.2; omega⟩)
            have HB9 := hide (HB5.out.trans (HB8.out.mono HB5.out.size))
            have HRI := hide (show okL fr LL ↔ registersB p.regs x.i = true by rw [HLL.out, HRC.out.1]; exact regs_iff (by rw [← HFO.out]; exact HOP.out) (by rw [← HRC.out.1]; exact HHD.out.2) HRX.out)
            have HBADR := hide (show ∀ z ∈ LL, (z < 0 ∨ fr ≤ z) → goodP p hs code ns = false from fun z hz hb => HBADI.out k x HX.out (by
              have h : registersB p.regs x.i = false := by
                cases h : registersB p.regs x.i with
                | false => rfl
                | true => have := HRI.out.2 h z hz; omega
              rw [HI2.out, h]
              simp))
            clear hnl HRD HWT
            go_upto_region 53 with (fail)
            go_loopw [9] (fun kk wr => ∃ j : Nat, j ≤ nl ∧ kk = .int .i64 (j : Int) ∧ Hid (∀ (q : Nat) (z : Int), q < j → LL[q]? = some z → 0 ≤ z ∧ z < fr) ∧ Hid (Below W8.heap.size W8 wr)) (fun kk _ => nl - (intOf kk).toNat)
            case atStart => exact ⟨0, Nat.zero_le _, rfl, hide (fun q z h => absurd h (Nat.not_lt_zero _)), hide (Below.refl _ _)⟩
            case round =>
              obtain ⟨j, hj, rfl, HJA, HWJ⟩ := hrel
              have y5 := (HY.out wr (HB9.out.trans (HWJ.out.mono HB9.out.size))).2.2.1
              by_cases hlt2 : j < nl
              · have j1 : (j : Int) < (nl : Int) := by omega
                have j2 : (0 : Int) ≤ (j : Int) := by omega
                obtain ⟨jn, hjn⟩ : ∃ jn, jn = j + 1 := ⟨_, rfl⟩
                have q6 : IntKind.i64.wrap ((j : Int) + 1) = (jn : Int) := by rw [IntWalk.i64_in _ (by have := HNL.out; omega)]; omega
                have HJN := hide hjn
                have HLTJ := hide hlt2
                obtain ⟨b3, o3, z, hA3, hb3, hz, y3⟩ := IntsAt.at_ (HI8.out.below HWJ.out (Nat.le_refl _)) (k := j) (by have := HNL.out; omega)
                subst hA3
                have HZ := hide hz
                have HZM := hide (List.mem_of_getElem? hz)
                clear hjn hlt2 hj hb3 hz
                by_cases z0 : z < 0
                · have e0 : decide (z < 0) = true := decide_eq_true z0
                  have HF := hide (HBADR.out z HZM.out (.inl z0))
                  go_wp2_with fail
                  go_quiet (fail)
                  obtain ⟨wz, hwz⟩ : ∃ wz, wz = wr.drewN nq := ⟨_, rfl⟩
                  have HWZ := hide (show Below W8.heap.size W8 wz from HWJ.out.trans (by rw [hwz]; exact (below_drewL (Below.refl _ _) _).mono HWJ.out.size))
                  have HBE := hide (show Below w.heap.size w wz from HB1.out.trans ((HB9.out.trans (HWZ.out.mono HB9.out.size)).mono HB1.out.size))
                  rw [← hwz]
                  clear hwz y3 y5
                  go_wp2_with fail
                  go_ret
                  exact ⟨ret_bS HF.out.symm, HBE.out⟩
                have e0 : decide (z < 0) = false := decide_eq_false z0
                by_cases z1 : fr ≤ z
                · have e1 : decide (fr ≤ z) = true := decide_eq_true z1
                  have HF := hide (HBADR.out z HZM.out (.inr z1))
                  go_wp2_with fail
                  go_quiet (fail)
                  obtain ⟨wz, hwz⟩ : ∃ wz, wz = wr.drewN nq := ⟨_, rfl⟩
                  have HWZ := hide (show Below W8.heap.size W8 wz from HWJ.out.trans (by rw [hwz]; exact (below_drewL (Below.refl _ _) _).mono HWJ.out.size))
                  have HBE := hide (show Below w.heap.size w wz from HB1.out.trans ((HB9.out.trans (HWZ.out.mono HB9.out.size)).mono HB1.out.size))
                  rw [← hwz]
                  clear hwz y3 y5
                  go_wp2_with fail
                  go_ret
                  exact ⟨ret_bS HF.out.symm, HBE.out⟩
                have e1 : decide (fr ≤ z) = false := decide_eq_false z1
                have HZB := hide (show 0 ≤ z ∧ z < fr by omega)
                go_wp2_with fail
                go_quiet (fail)
                obtain ⟨wz, hwz⟩ : ∃ wz, wz = wr.drewN nq := ⟨_, rfl⟩
                have HWZ := hide (show Below W8.heap.size W8 wz from HWJ.out.trans (by rw [hwz]; exact (below_drewL (Below.refl _ _) _).mono HWJ.out.size))
                have HBE := hide (show Below w.heap.size w wz from HB1.out.trans ((HB9.out.trans (HWZ.out.mono HB9.out.size)).mono HB1.out.size))
                rw [← hwz]
                clear hwz y3 y5
                go_wp2_with fail
                go_roundw
                case rel => exact ⟨j + 1, by have := HLTJ.out; omega, by rw [HJN.out], hide (fun q v hq hv => by
                  rcases Nat.lt_or_ge q j with h | h
                  · exact HJA.out q v h hv
                  · have e : q = j := by omega
                    subst e
                    have e2 : some v = some z := hv.symm.trans HZ.out
                    injection e2 with e2
                    rw [e2]
                    exact HZB.out), HWZ⟩
                case measure => rw [HJN.out]; simp [intOf]; have := HLTJ.out; omega
              · have j1 : ¬ (j : Int) < (nl : Int) := by omega
                have HJE := hide (show j = nl by omega)
                clear hlt2 hj
                have HREG := hide (show registersB p.regs x.i = true from HRI.out.1 (fun r hr => by
                  obtain ⟨q, hq⟩ := List.getElem?_of_mem hr
                  exact HJA.out q r (by have := (List.getElem?_eq_some_iff.1 hq).1; have := HNL.out.1; have := HJE.out; omega) hq))
                obtain ⟨W10, rfl⟩ : ∃ W, W = wr := ⟨_, rfl⟩
                have HB10 := hide (HB9.out.trans (HWJ.out.mono HB9.out.size))
                have HBI10 := hide (HBI5.out.below (HB8.out.trans (HWJ.out.mono HB8.out.size)) HBI5.out.lt)
                have HVB := hide (show V = .agg (x.i.arr x.av x.rv) from HVI.out)
                have HNX := hide (rnext_any x.i x.av x.rv (k : Int) W10 (HIO.out W10 HB10.out x HXM.out) HLX.out.1)
                rw [← (show V = x.i.val x.av x.rv from HVI.out)] at HNX
                clear y5 HI8 HB8 HWJ HJA HRI HBADR
                go_wp2_with (first
                  | (refine wpList_load_blk (.tmp 4) HBI10.out HVB.out Try.underlying45 rfl ins_size rfl rfl rfl ?_)
                  | (refine wp_load_blk (.tmp 4) HBI10.out HVB.out Try.underlying45 rfl ins_size rfl rfl ?_))
                refine HNX.out.mono ?_
                rintro e w11 ⟨v11, L, rfl, hown11, hb11, hmem, hlen⟩
                obtain ⟨ml, hml⟩ : ∃ ml, ml = L.length := ⟨_, rfl⟩
                have HI11 := hide (IntsAt.own hown11)
                obtain ⟨A11, c11, rfl⟩ := own_formT hown11
                rw [← hml] at HI11 ⊢
                have HML := hide (show ml = L.length ∧ ml ≤ 1000 from ⟨hml, by omega⟩)
                have HB11 := hide (HB10.out.trans (hb11.mono HB10.out.size))
                have HBADT := hide (show ∀ z ∈ L, (z < 0 ∨ (n : Int) ≤ z) → goodP p hs code ns = false from fun z hz hb => HBADI.out k x HX.out (by
                  rw [HI2.out, List.any_eq_true.2 ⟨z, nextI_mem.2 ((hmem z).1 hz), by unfold badTo; simpa using hb⟩]
                  rfl))
                have HMEM := hide hmem
                clear hml hown11 hb11 hmem hlen
                go_upto_region 59 with (fail)
                go_loopw [11] (fun kk wr => ∃ j : Nat, j ≤ ml ∧ kk = .int .i64 (j : Int) ∧ Hid (∀ (q : Nat) (z : Int), q < j → L[q]? = some z → 0 ≤ z ∧ z < (n : Int)) ∧ Hid (Below w11.heap.size w11 wr)) (fun kk _ => ml - (intOf kk).toNat)
                case atStart => exact ⟨0, Nat.zero_le _, rfl, hide (fun q z h => absurd h (Nat.not_lt_zero _)), hide (Below.refl _ _)⟩
                case round =>
                  clear HJE
                  obtain ⟨j, hj, rfl, HJA, HWJ⟩ := hrel
                  have y6 := (HY.out wr (HB11.out.trans (HWJ.out.mono HB11.out.size))).2.2.2.1
                  by_cases hlt2 : j < ml
                  · have j1 : (j : Int) < (ml : Int) := by omega
                    have j2 : (0 : Int) ≤ (j : Int) := by omega
                    obtain ⟨jn, hjn⟩ : ∃ jn, jn = j + 1 := ⟨_, rfl⟩
                    have q6 : IntKind.i64.wrap ((j : Int) + 1) = (jn : Int) := by rw [IntWalk.i64_in _ (by have := HML.out; omega)]; omega
                    have HJN := hide hjn
                    have HLTJ := hide hlt2
                    obtain ⟨b3, o3, z, hA3, hb3, hz, y3⟩ := IntsAt.at_ (HI11.out.below HWJ.out (Nat.le_refl _)) (k := j) (by have := HML.out; omega)
                    subst hA3
                    have HZ := hide hz
                    have HZM := hide (List.mem_of_getElem? hz)
                    clear hjn hlt2 hj hb3 hz
                    by_cases z0 : z < 0
                    · have e0 : decide (z < 0) = true := decide_eq_true z0
                      have HF := hide (HBADT.out z HZM.out (.inl z0))
                      go_wp2_with fail
                      go_quiet (fail)
                      obtain ⟨wz, hwz⟩ : ∃ wz, wz = wr.drewN nq := ⟨_, rfl⟩
                      have HWZ := hide (show Below w11.heap.size w11 wz from HWJ.out.trans (by rw [hwz]; exact (below_drewL (Below.refl _ _) _).mono HWJ.out.size))
                      have HBE := hide (show Below w.heap.size w wz from HB1.out.trans ((HB11.out.trans (HWZ.out.mono HB11.out.size)).mono HB1.out.size))
                      rw [← hwz]
                      clear hwz y3 y6
                      go_wp2_with fail
                      go_ret
                      exact ⟨ret_bS HF.out.symm, HBE.out⟩
                    have e0 : decide (z < 0) = false := decide_eq_false z0
                    by_cases z1 : (n : Int) ≤ z
                    · have e1 : decide ((n : Int) ≤ z) = true := decide_eq_true z1
                      have HF := hide (HBADT.out z HZM.out (.inr z1))
                      go_wp2_with fail
                      go_quiet (fail)
                      obtain ⟨wz, hwz⟩ : ∃ wz, wz = wr.drewN nq := ⟨_, rfl⟩
                      have HWZ := hide (show Below w11.heap.size w11 wz from HWJ.out.trans (by rw [hwz]; exact (below_drewL (Below.refl _ _) _).mono HWJ.out.size))
                      have HBE := hide (show Below w.heap.size w wz from HB1.out.trans ((HB11.out.trans (HWZ.out.mono HB11.out.size)).mono HB1.out.size))
                      rw [← hwz]
                      clear hwz y3 y6
                      go_wp2_with fail
                      go_ret
                      exact ⟨ret_bS HF.out.symm, HBE.out⟩
                    have e1 : decide ((n : Int) ≤ z) = false := decide_eq_false z1
                    have HZB := hide (show 0 ≤ z ∧ z < (n : Int) by omega)
                    go_wp2_with fail
                    go_quiet (fail)
                    obtain ⟨wz, hwz⟩ : ∃ wz, wz = wr.drewN nq := ⟨_, rfl⟩
                    have HWZ := hide (show Below w11.heap.size w11 wz from HWJ.out.trans (by rw [hwz]; exact (below_drewL (Below.refl _ _) _).mono HWJ.out.size))
                    have HBE := hide (show Below w.heap.size w wz from HB1.out.trans ((HB11.out.trans (HWZ.out.mono HB11.out.size)).mono HB1.out.size))
                    rw [← hwz]
                    clear hwz y3 y6
                    go_wp2_with fail
                    go_roundw
                    case rel => exact ⟨j + 1, by have := HLTJ.out; omega, by rw [HJN.out], hide (fun q v hq hv => by
                      rcases Nat.lt_or_ge q j with h | h
                      · exact HJA.out q v h hv
                      · have e : q = j := by omega
                        subst e
                        have e2 : some v = some z := hv.symm.trans HZ.out
                        injection e2 with e2
                        rw [e2]
                        exact HZB.out), HWZ⟩
                    case measure => rw [HJN.out]; simp [intOf]; have := HLTJ.out; omega
                  · have j1 : ¬ (j : Int) < (ml : Int) := by omega
                    have HJE := hide (show j = ml by omega)
                    clear hlt2 hj
                    have HINS := hide (show insB p hs n ns k x = true by
                      have h : (nextI x.i (k : Int)).any (badTo n) = false := by
                        cases h : (nextI x.i (k : Int)).any (badTo n) with
                        | false => rfl
                        | true =>
                          obtain ⟨z, hz, hb⟩ := List.any_eq_true.1 h
                          obtain ⟨q, hq⟩ := List.getElem?_of_mem ((HMEM.out z).2 (nextI_mem.1 hz))
                          have h2 := HJA.out q z (by have := (List.getElem?_eq_some_iff.1 hq).1; have := HML.out.1; have := HJE.out; omega) hq
                          unfold badTo at hb
                          simp at hb
                          omega
                      rw [HI2.out, h, HSW.out.1, HSW.out.2, HREG.out]
                      rfl)
                    have HBN := hide (HB11.out.trans (HWJ.out.mono HB11.out.size))
                    clear y6
                    go_wp2_with fail
                    go_roundg (n - kn)
                    case rel => exact ⟨kn, by have := HLT2.out; have := HKN.out; omega, rfl, hide rfl, hide (fun q y hq hy => by
                      have hkn := HKN.out
                      rcases Nat.lt_or_ge q k with h | h
                      · exact HALL.out q y h hy
                      · have e : q = k := by omega
                        subst e
                        have e2 : some y = some x := hy.symm.trans HX.out
                        injection e2 with e2
                        rw [e2]
                        exact HINS.out), HBN⟩
                    case measure => rw [HGK.out]; have := HLT2.out; have := HKN.out; omega
      · have k1 : ¬ (k : Int) < (n : Int) := by omega
        have HF := hide (show goodP p hs code ns = true by
          rw [HG.out, HHD.out.1, HLT.out, allFrom_iff.2 (fun q x hx => by rw [Nat.zero_add]; exact HALL.out q x (by have := code_lt hx; have := HNN.out.1; omega) hx)]
          rfl)
        clear hlt hk
        go_wp2_with fail
        go_ret
        exact ⟨ret_bS HF.out.symm, HBF.out⟩
end Go.Proofs.Ytaaadbaakhjkcaa
