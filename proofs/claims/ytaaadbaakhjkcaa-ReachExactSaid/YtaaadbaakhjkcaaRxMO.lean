/- Rows of numbers, and of truths, that are the same (the reference's Ints and Bools); conditions: they are in memory. -/
import Derived.Test.YtaaadbaakhjkcaaRxL
namespace Go.Proofs.Ytaaadbaakhjkcaa
open Go.RowKit Go.WideShapes Go.ChangeShapes
set_option linter.unusedVariables false
set_option linter.unusedSimpArgs false
set_option maxRecDepth 100000

set_option maxHeartbeats 4000000 in
theorem ints_same (l : List Int) (v v' : Value) (w : World) (h : IntsAt w v l) (h' : IntsAt w v' l) (hn : l.length ≤ 1000000) :
    Calls Try.prog 16 #[v, v'] w (BoolP w true) := by
  obtain ⟨Ak, ck, rfl⟩ := h.form
  obtain ⟨Al, cl, rfl⟩ := h'.form
  obtain ⟨m, hm⟩ : ∃ m, m = l.length := ⟨_, rfl⟩
  rw [← hm] at h h' ⊢
  have HH := hide h
  have HH' := hide h'
  have HM := hide (And.intro hm hn)
  clear h h' hm hn
  go_enter Try.func16, Try.ntmps16
  go_wp2_with fail
  go_loopw [5] (fun i wr => ∃ k q : Nat, k ≤ m ∧ i = .int .i64 k ∧ wr = w.drewN q) (fun i _ => m - (intOf i).toNat)
  case atStart => exact ⟨0, 0, by omega, rfl, rfl⟩
  case round =>
    obtain ⟨k, q, hk, rfl, rfl⟩ := hrel
    by_cases hlt : k < m
    · have j1 : (k : Int) < (m : Int) := by omega
      obtain ⟨b, off, x, rfl, _, hxx, cx⟩ := HH.out.at_ (k := k) (by have := HM.out.1; omega)
      obtain ⟨b', off', y, rfl, _, hyy, cy⟩ := HH'.out.at_ (k := k) (by have := HM.out.1; omega)
      rw [hxx] at hyy
      injection hyy with hyy
      subst hyy
      have q5 : IntKind.i64.wrap ((k : Int) + 1) = (k : Int) + 1 := IntWalk.i64_in _ (by have := HM.out; omega)
      clear hxx
      go_wp2_with fail
      go_quiet (fail)
      go_wp2_with fail
      go_roundw
      case rel => exact ⟨k + 1, _, by omega, by simp, by first | rfl | exact World.drewN_drewN _ _ _⟩
      case measure => simp [intOf]; omega
    · have hkm : k = m := by omega
      subst hkm
      go_wp2_with fail
      go_ret
      exact ⟨rfl, below_drewL (Below.refl _ _) _⟩
set_option maxHeartbeats 4000000 in
theorem bools_same (l : List Bool) (v v' : Value) (w : World) (h : BoolsAt w v l) (h' : BoolsAt w v' l) (hn : l.length ≤ 1000000) :
    Calls Try.prog 21 #[v, v'] w (BoolP w true) := by
  obtain ⟨Ak, ck, rfl⟩ := h.form
  obtain ⟨Al, cl, rfl⟩ := h'.form
  obtain ⟨m, hm⟩ : ∃ m, m = l.length := ⟨_, rfl⟩
  rw [← hm] at h h' ⊢
  have HH := hide h
  have HH' := hide h'
  have HM := hide (And.intro hm hn)
  clear h h' hm hn
  go_enter Try.func21, Try.ntmps21
  go_wp2_with fail
  go_loopw [5] (fun i wr => ∃ k q : Nat, k ≤ m ∧ i = .int .i64 k ∧ wr = w.drewN q) (fun i _ => m - (intOf i).toNat)
  case atStart => exact ⟨0, 0, by omega, rfl, rfl⟩
  case round =>
    obtain ⟨k, q, hk, rfl, rfl⟩ := hrel
    by_cases hlt : k < m
    · have j1 : (k : Int) < (m : Int) := by omega
      have j2 : (0 : Int) ≤ (k : Int) := by omega
      obtain ⟨b, off, x, rfl, _, hxx, cx⟩ := BoolsAt.at_ HH.out (i := k) (by have := HM.out.1; omega)
      obtain ⟨b', off', y, rfl, _, hyy, cy⟩ := BoolsAt.at_ HH'.out (i := k) (by have := HM.out.1; omega)
      rw [hxx] at hyy
      injection hyy with hyy
      subst hyy
      have q5 : IntKind.i64.wrap ((k : Int) + 1) = (k : Int) + 1 := IntWalk.i64_in _ (by have := HM.out; omega)
      clear hxx
      cases hx : x with
      | true =>
        subst hx
        go_wp2_with fail
        go_quiet (fail)
        go_wp2_with fail
        go_roundw
        case rel => exact ⟨k + 1, _, by omega, by simp, by first | rfl | exact World.drewN_drewN _ _ _⟩
        case measure => simp [intOf]; omega
      | false =>
        subst hx
        go_wp2_with fail
        go_quiet (fail)
        go_wp2_with fail
        go_roundw
        case rel => exact ⟨k + 1, _, by omega, by simp, by first | rfl | exact World.drewN_drewN _ _ _⟩
        case measure => simp [intOf]; omega
    · have hkm : k = m := by omega
      subst hkm
      go_wp2_with fail
      go_ret
      exact ⟨rfl, below_drewL (Below.refl _ _) _⟩
end Go.Proofs.Ytaaadbaakhjkcaa

namespace Go.Proofs.Ytaaadbaakhjkcaa
open Go.RowKit Go.WideShapes Go.ChangeShapes
set_option linter.unusedVariables false
set_option linter.unusedSimpArgs false
set_option maxRecDepth 100000

theorem seenS_le (code : List IV) (ns : Nat) (rl : List Bool) (s : Nat) : ∀ j, seenS code ns rl j s ≤ 2
  | 0 => by simp [seenS]
  | j + 1 => by
    have ih := seenS_le code ns rl s j
    cases hx : code[j]? with
    | none =>
      rw [seenS, hx]
      exact ih
    | some x =>
      cases hv : stV x.i ns with
      | false => rw [seenS_no hx hv]; exact ih
      | true =>
        obtain ⟨sn, hsn⟩ : ∃ sn : Nat, x.i.st = (sn : Int) := ⟨x.i.st.toNat, by simp [stV] at hv; omega⟩
        rw [seenS_yes hx hv hsn]
        by_cases e : s = sn
        · subst e
          rw [upd_at]
          split
          · exact Nat.le_refl _
          · omega
        · rw [upd_ne _ _ e]
          exact ih
theorem seenS_other {code : List IV} {ns : Nat} {rl : List Bool} {j s : Nat} {x : IV} (hx : code[j]? = some x) (h : ¬ (x.i.st = (s : Int) ∧ ¬ x.i.op = 40 ∧ ¬ x.i.op = 41)) : seenS code ns rl (j + 1) s = seenS code ns rl j s := by
  cases hv : stV x.i ns with
  | false => rw [seenS_no hx hv]
  | true =>
    have hv2 := hv
    simp [stV] at hv2
    obtain ⟨sn, hsn⟩ : ∃ sn : Nat, x.i.st = (sn : Int) := ⟨x.i.st.toNat, by omega⟩
    rw [seenS_yes hx hv hsn]
    by_cases e : s = sn
    · exact absurd ⟨by rw [hsn, e], hv2.2.2.1, hv2.2.2.2⟩ h
    · rw [upd_ne _ _ e]
theorem seenS_this {code : List IV} {ns : Nat} {rl : List Bool} {j s : Nat} {x : IV} (hx : code[j]? = some x) (hs : s < ns) (h : x.i.st = (s : Int) ∧ ¬ x.i.op = 40 ∧ ¬ x.i.op = 41) : seenS code ns rl (j + 1) s = if inB rl (j : Int) = true then 2 else max (seenS code ns rl j s) 1 := by
  have hv : stV x.i ns = true := by
    simp [stV]
    omega
  rw [seenS_yes hx hv h.1, upd_at]
def hasS (v : Nat) : Bool := decide (v ≠ 0)
def comS (v : Nat) : Bool := decide (v = 2)
theorem hasS_this (v : Nat) (b : Bool) : hasS (if b = true then 2 else max v 1) = true := by
  unfold hasS
  cases b <;> simp <;> omega
theorem comS_this (v : Nat) (b : Bool) : comS (if b = true then 2 else max v 1) = (comS v || b) := by
  unfold comS
  cases b
  · simp
    by_cases h : v = 2
    · subst h; rfl
    · simp [h]; omega
  · simp
theorem one_iff {v : Nat} (h : v ≤ 2) : (v = 1) ↔ (hasS v = true ∧ comS v = false) := by
  unfold hasS comS
  simp
  omega
set_option maxHeartbeats 16000000 in
theorem rstmts_any (p : Pr) (hs : List Bool) (code : List IV) (ns : Nat) (rl : List Bool) (rv : Value) (w : World) (h : PrOk w p hs code ns) (hn : code.length ≤ 1000) (hns : ns ≤ 1000) (hr : BoolsAt w rv rl) :
    Calls Try.prog 24 #[p.val, rv] w (RowP w (stmtsL code ns rl ns)) := by
  obtain ⟨i0, hi0, hz0, hz1, hz2⟩ := info_parts intInfoT
  obtain ⟨gp, hgp⟩ : ∃ gp, gp = w.heap.size := ⟨_, rfl⟩
  obtain ⟨W1, hW1⟩ : ∃ W1, W1 = w.alloc (.cells p.arr 29) := ⟨_, rfl⟩
  have hb1 : Below w.heap.size w W1 := by rw [hW1]; exact (Below.refl _ _).alloc (Nat.le_refl _) _
  have HBP := hide (show Blk W1 gp 29 p.arr by rw [hW1, hgp]; exact Blk.new _ _ _)
  have HOK := hide (h.below hb1 (Nat.le_refl _))
  obtain ⟨Ar, cr, rfl⟩ := hr.form
  obtain ⟨nr, hnr⟩ : ∃ nr, nr = rl.length := ⟨_, rfl⟩
  rw [← hnr] at hr ⊢
  have HRL := hide (show BoolsAt W1 (.slice Ar nr cr) rl from hr.below hb1 (Nat.le_refl _))
  have HNR := hide hnr
  obtain ⟨Ac, cc, hcv⟩ := h.cv.form
  obtain ⟨As, cs, hsv⟩ := h.sv
  obtain ⟨n, hnn⟩ : ∃ n, n = code.length := ⟨_, rfl⟩
  rw [← hnn] at hcv
  have HCV := hide (show InssAt W1 (.slice Ac n cc) code by
    have h := HOK.out.cv
    rw [hcv] at h
    exact h)
  have HY := hide (show ∀ wr, Below W1.heap.size W1 wr → wr.cell? ⟨gp, 6, none⟩ = some (.slice Ac n cc) ∧ wr.cell? ⟨gp, 8, none⟩ = some (.slice As ns cs) from fun wr hw => by
    have hb := HBP.out.below hw HBP.out.lt
    exact ⟨by rw [← hcv]; exact hb.cell 6, by rw [← hsv]; exact hb.cell 8⟩)
  have HN := hide (show n = code.length ∧ n ≤ 1000 ∧ ns ≤ 1000 from ⟨hnn, by omega, hns⟩)
  obtain ⟨B, hB⟩ : ∃ B, B = W1.heap.size := ⟨_, rfl⟩
  obtain ⟨W2, hW2⟩ : ∃ W2, W2 = W1.alloc (.cells #[] 3) := ⟨_, rfl⟩
  have HO2 := hide (show W2.ownsRow B 3 1 (.slice (some ⟨B, 0, none⟩) 0 0) 0 ((stmtsL code ns rl 0).map iI) from ⟨rfl, .inr ⟨B, 0, #[], rfl, Nat.le_refl _, by rw [hW2, hB]; exact Blk.new _ _ _, Nat.le_refl _, by simp only [maxLen]; omega, rfl, rfl⟩⟩)
  have HB2 := hide (show Below B W1 W2 by rw [hW2, hB]; exact (Below.refl _ _).alloc (Nat.le_refl _) _)
  have HB := hide (show B ≤ W1.heap.size from Nat.le_of_eq hB)
  have HBE := hide hB
  have HW2 := hide hW2
  have HB1 := hide hb1
  have HW1 := hide hW1
  have HGP := hide hgp
  clear h hn hns hr hb1 hW1 hgp hcv hsv hnn hB hW2 hnr
  go_enter Try.func24, Try.ntmps24
  go_upto_region 1 with (fail)
  rw [← HW1.out, ← HGP.out]
  go_upto_region 3 with (fail)
  rw [← HBE.out, ← HW2.out]
  go_loopw [5, 6] (fun ov sv wr => ∃ (s lo : Nat) (A : Option Addr) (c : Nat), s ≤ ns ∧ ov = .slice A lo c ∧ sv = .int .i64 (s : Int) ∧ Hid (lo = (stmtsL code ns rl s).length) ∧ Hid (wr.ownsRow B 3 1 (.slice A lo c) lo ((stmtsL code ns rl s).map iI)) ∧ Hid (Below B W1 wr)) (fun _ sv _ => ns - (intOf sv).toNat)
  case atStart => exact ⟨0, 0, _, 0, Nat.zero_le _, rfl, rfl, hide rfl, HO2, HB2⟩
  case round =>
    clear HO2 HB2
    obtain ⟨s, lo, A, c, hsl, rfl, rfl, HLO, HO, HWR⟩ := hrel
    have hwr1 : Below W1.heap.size W1 wr := by rw [← HBE.out]; exact HWR.out
    have y8 := (HY.out wr hwr1).2
    by_cases hlt : s < ns
    · have s1 : (s : Int) < (ns : Int) := by omega
      obtain ⟨sn, hsn⟩ : ∃ sn, sn = s + 1 := ⟨_, rfl⟩
      have q5 : IntKind.i64.wrap ((s : Int) + 1) = (sn : Int) := by rw [IntWalk.i64_in _ (by have := HN.out; omega)]; omega
      have HSN := hide hsn
      have HLT := hide hlt
      have HLB := hide (show lo ≤ 1000 by have := stmtsL_le code ns rl s; have := HLO.out; have := HN.out; omega)
      clear hsn hlt hsl hwr1
      go_upto_region 8 with (fail)
      clear y8
      obtain ⟨Wi, hWi⟩ : ∃ Wi, Wi = wr := ⟨_, rfl⟩
      have HWI := hide hWi
      have HWD := hide (show Below wr.heap.size wr wr from Below.refl _ _)
      clear hWi
      go_loopw [7, 8, 9] (fun hv cv jv wk => ∃ (j : Nat) (hb cb : Bool), j ≤ n ∧ hv = .bool hb ∧ cv = .bool cb ∧ jv = .int .i64 (j : Int) ∧ Hid (hb = hasS (seenS code ns rl j s)) ∧ Hid (cb = comS (seenS code ns rl j s)) ∧ Hid (Below Wi.heap.size Wi wk)) (fun _ _ jv _ => n - (intOf jv).toNat)
      case atStart => exact ⟨0, false, false, Nat.zero_le _, rfl, rfl, rfl, hide rfl, hide rfl, by rw [HWI.out]; exact HWD⟩
      case round =>
        obtain ⟨j, hb, cb, hj, rfl, rfl, rfl, HHB, HCB, HWK⟩ := hrel
        have hbw : Below B W1 wr := by
          have h1 := HWR.out
          rw [← HWI.out] at h1
          exact h1.trans (HWK.out.mono (Nat.le_trans HB.out h1.size))
        have HBW := hide hbw
        have hbw1 : Below W1.heap.size W1 wr := by rw [← HBE.out]; exact hbw
        have y6 := (HY.out wr hbw1).1
        have ho2 : wr.ownsRow B 3 1 (.slice A lo c) lo ((stmtsL code ns rl s).map iI) := by
          have h1 := HO.out
          rw [← HWI.out] at h1
          exact own_belowT h1 HWK.out
        have HOW := hide ho2
        by_cases hjn : j < n
        · have j1 : (j : Int) < (n : Int) := by omega
          have j2 : (0 : Int) ≤ (j : Int) := by omega
          obtain ⟨jn, hjn2⟩ : ∃ jn, jn = j + 1 := ⟨_, rfl⟩
          have q7 : IntKind.i64.wrap ((j : Int) + 1) = (jn : Int) := by rw [IntWalk.i64_in _ (by have := HN.out; omega)]; omega
          obtain ⟨b, of, x, hAc, hbl, hx, hcells⟩ := RowAt.at_ (HCV.out.below hbw1 (Nat.le_refl _)) (i := j) (by have := HN.out.1; omega)
          subst hAc
          have hix := (HOK.out.ok x (List.mem_of_getElem? hx)).below hbw1 (Nat.le_refl _)
          have HX := hide hx
          have HCE := hide (show wr.rangeAt b (of + j * 22) (IV.enc x) from hcells)
          obtain ⟨V, hV⟩ : ∃ V, V = Ins.val x.i x.av x.rv := ⟨_, rfl⟩
          have HVI := hide hV
          obtain ⟨gi, hgi⟩ : ∃ gi, gi = wr.heap.size := ⟨_, rfl⟩
          have HGI := hide hgi
          have HON := hide (ins_one hix)
          have HJN := hide hjn2
          have HJL := hide hjn
          clear hx hcells hV hgi hix hbl hjn hjn2 hj hbw hbw1 ho2
          go_upto_region 11 with (first
            | (refine wpList_load_midW 45 (.tmp 29) b (of + j * 22) (IV.enc x) V HCE.out HVI.out Try.underlying45 rfl ins_size rfl (by kernel_rfl) rfl ?_)
            | (refine wpList_store_new 45 (.tmp 10) (.tmp 30) (x.i.arr x.av x.rv) V HVI.out ins_size HON.out rfl rfl rfl rfl rfl rfl ?_
               intro W3 hbg hb3
               rw [← HGI.out] at hbg
               have HBI := hide hbg
               have HB3 := hide hb3
               clear hbg hb3))
          rw [← HGI.out]
          clear y6
          have HW3 := hide (HWK.out.trans (HB3.out.mono HWK.out.size))
          obtain ⟨fs, hfs⟩ : ∃ fs, fs = x.i.st := ⟨_, rfl⟩
          obtain ⟨fo, hfo⟩ : ∃ fo, fo = x.i.op := ⟨_, rfl⟩
          have o0 : W3.cell? ⟨gi, 0, none⟩ = some (.int .i64 fo) := by rw [hfo]; exact HBI.out.cell 0
          have o16 : W3.cell? ⟨gi, 16, none⟩ = some (.int .i64 fs) := by rw [hfs]; exact HBI.out.cell 16
          have HSKIP := hide (fun (hv : ¬ (fs = (s : Int) ∧ ¬ fo = 40 ∧ ¬ fo = 41)) => show seenS code ns rl (j + 1) s = seenS code ns rl j s from seenS_other HX.out (by rw [← hfs, ← hfo]; exact hv))
          have HTHIS := hide (fun (hv : fs = (s : Int) ∧ ¬ fo = 40 ∧ ¬ fo = 41) => show seenS code ns rl (j + 1) s = (if inB rl (j : Int) = true then 2 else max (seenS code ns rl j s) 1) from seenS_this HX.out HLT.out (by rw [← hfs, ← hfo]; exact hv))
          clear hfs hfo
          by_cases c1 : fs = (s : Int)
          · have e1 : (fs == (s : Int)) = true := by simp [c1]
            by_cases c2 : fo = 40
            · have e2 : (fo != 40) = false := by simp [c2]
              have e3 : (fo == 40) = true := by simp [c2]
              have HSK := hide (HSKIP.out (fun h => h.2.1 c2))
              go_wp2_with fail
              go_roundw
              case rel => exact ⟨jn, hb, cb, by have := HJL.out; have := HJN.out; omega, rfl, rfl, rfl, by rw [HJN.out, HSK.out]; exact HHB, by rw [HJN.out, HSK.out]; exact HCB, HW3⟩
              case measure => rw [HJN.out]; simp [intOf]; have := HJL.out; omega
            · have e2 : (fo != 40) = true := by simp [c2]
              have e3 : (fo == 40) = false := by simp [c2]
              by_cases c3 : fo = 41
              · have e4 : (fo != 41) = false := by simp [c3]
                have e5 : (fo == 41) = true := by simp [c3]
                have HSK := hide (HSKIP.out (fun h => h.2.2 c3))
                go_wp2_with fail
                go_roundw
                case rel => exact ⟨jn, hb, cb, by have := HJL.out; have := HJN.out; omega, rfl, rfl, rfl, by rw [HJN.out, HSK.out]; exact HHB, by rw [HJN.out, HSK.out]; exact HCB, HW3⟩
                case measure => rw [HJN.out]; simp [intOf]; have := HJL.out; omega
              · have e4 : (fo != 41) = true := by simp [c3]
                have e5 : (fo == 41) = false := by simp [c3]
                have HTH := hide (HTHIS.out ⟨c1, c2, c3⟩)
                have HHN := hide (show true = hasS (seenS code ns rl (j + 1) s) by rw [HTH.out, hasS_this])
                have HCN := hide (show (cb || inB rl (j : Int)) = comS (seenS code ns rl (j + 1) s) by rw [HTH.out, comS_this, HCB.out])
                have HW3B := hide (show Below W1.heap.size W1 W3 by have h := HBW.out; rw [HBE.out] at h; exact h.trans (HB3.out.mono h.size))
                cases hcb : cb with
                | true =>
                  have HCT := hide (show true = comS (seenS code ns rl (j + 1) s) by rw [← HCN.out, hcb]; rfl)
                  subst hcb
                  go_wp2_with fail
                  go_roundw
                  case rel => exact ⟨jn, true, true, by have := HJL.out; have := HJN.out; omega, rfl, rfl, rfl, by rw [HJN.out]; exact HHN, by rw [HJN.out]; exact HCT, HW3⟩
                  case measure => rw [HJN.out]; simp [intOf]; have := HJL.out; omega
                | false =>
                  by_cases c4 : j < nr
                  · have c4' : (j : Int) < (nr : Int) := by omega
                    obtain ⟨b4, o4, vb, e4', hl4, hx4, y4⟩ := BoolsAt.at_ (HRL.out.below HW3B.out (Nat.le_refl _)) (i := j) (by rw [← HNR.out]; exact c4)
                    subst e4'
                    have HCT := hide (show vb = comS (seenS code ns rl (j + 1) s) by rw [← HCN.out, hcb, inB_some hx4]; rfl)
                    clear hl4 hx4
                    subst hcb
                    go_wp2_with fail
                    go_roundw
                    case rel => exact ⟨jn, true, vb, by have := HJL.out; have := HJN.out; omega, rfl, rfl, rfl, by rw [HJN.out]; exact HHN, by rw [HJN.out]; exact HCT, HW3⟩
                    case measure => rw [HJN.out]; simp [intOf]; have := HJL.out; omega
                  · have c4' : ¬ (j : Int) < (nr : Int) := by omega
                    have HCT := hide (show false = comS (seenS code ns rl (j + 1) s) by rw [← HCN.out, hcb, inB_none (by rw [← HNR.out]; omega)]; rfl)
                    subst hcb
                    go_wp2_with fail
                    go_roundw
                    case rel => exact ⟨jn, true, false, by have := HJL.out; have := HJN.out; omega, rfl, rfl, rfl, by rw [HJN.out]; exact HHN, by rw [HJN.out]; exact HCT, HW3⟩
                    case measure => rw [HJN.out]; simp [intOf]; have := HJL.out; omega
          · have e1 : (fs == (s : Int)) = false := by simp [c1]
            have HSK := hide (HSKIP.out (fun h => c1 h.1))
            go_wp2_with fail
            go_roundw
            case rel => exact ⟨jn, hb, cb, by have := HJL.out; have := HJN.out; omega, rfl, rfl, rfl, by rw [HJN.out, HSK.out]; exact HHB, by rw [HJN.out, HSK.out]; exact HCB, HW3⟩
            case measure => rw [HJN.out]; simp [intOf]; have := HJL.out; omega
        · have j1 : ¬ (j : Int) < (n : Int) := by omega
          have HJE := hide (show j = code.length by have := HN.out.1; omega)
          have HLE := hide (seenS_le code ns rl s j)
          have HSX := hide (show stmtsL code ns rl (s + 1) = stmtsL code ns rl s ++ (if seenS code ns rl j s = 1 then [(s : Int)] else []) by rw [HJE.out]; exact stmtsL_succ code ns rl s)
          clear hjn hj hbw hbw1 ho2 HO HWR
          cases hhb : hb with
          | false =>
            have HS1 := hide (show stmtsL code ns rl (s + 1) = stmtsL code ns rl s by rw [HSX.out, if_neg (fun h => by have h2 := ((one_iff HLE.out).1 h).1; rw [← HHB.out, hhb] at h2; cases h2), List.append_nil])
            subst hhb
            go_wp2_with fail
            go_roundw
            case rel => exact ⟨s + 1, lo, A, c, by have := HLT.out; omega, rfl, by rw [HSN.out], by rw [HS1.out]; exact HLO, by rw [HS1.out]; exact HOW, HBW⟩
            case measure => rw [HSN.out]; simp [intOf]; have := HLT.out; omega
          | true =>
            cases hcb : cb with
            | true =>
              have HS1 := hide (show stmtsL code ns rl (s + 1) = stmtsL code ns rl s by rw [HSX.out, if_neg (fun h => by have h2 := ((one_iff HLE.out).1 h).2; rw [← HCB.out, hcb] at h2; cases h2), List.append_nil])
              subst hhb
              subst hcb
              go_wp2_with fail
              go_roundw
              case rel => exact ⟨s + 1, lo, A, c, by have := HLT.out; omega, rfl, by rw [HSN.out], by rw [HS1.out]; exact HLO, by rw [HS1.out]; exact HOW, HBW⟩
              case measure => rw [HSN.out]; simp [intOf]; have := HLT.out; omega
            | false =>
              have HS1 := hide (show stmtsL code ns rl (s + 1) = stmtsL code ns rl s ++ [(s : Int)] by rw [HSX.out, if_pos ((one_iff HLE.out).2 ⟨by rw [← HHB.out, hhb], by rw [← HCB.out, hcb]⟩)])
              subst hhb
              subst hcb
              go_upto_region 15 with (fail)
              clear y6
              obtain ⟨N9W, hN9W⟩ : ∃ W, W = wr.alloc (.cells #[.int .i64 ((s : Int))] 3) := ⟨_, rfl⟩
              have hN9b : Below wr.heap.size wr N9W := by rw [hN9W]; exact (Below.refl _ _).alloc (Nat.le_refl _) _
              have N9O := hide (own_belowT HOW.out hN9b)
              have N9B := hide ((HBW.out).trans (hN9b.mono (Nat.le_trans HB.out (HBW.out).size)))
              have N9 := hide (show N9W = wr.alloc (.cells #[.int .i64 ((s : Int))] 3) ∧ Blk N9W wr.heap.size 3 #[.int .i64 ((s : Int))] ∧ B ≤ N9W.heap.size from ⟨hN9W, by rw [hN9W]; exact Blk.new _ _ _, Nat.le_trans HB.out N9B.out.size⟩)
              clear hN9W hN9b
              go_upto_region 4 with (first
                | (at_builtin
                   rw [← N9.out.1]
                   refine wpList_append_any _ rfl (.tmp 63) (.tmp 65) _ rfl B 3 i0 _ 1 8 Try.underlying23 hi0 hz0 hz1 hz2 rfl (by omega) (.slice A lo c) lo _ rfl N9O.out (wr.heap.size + 1) (some ⟨wr.heap.size, 0, none⟩) 1 1 [.int .i64 ((s : Int))] rfl ?rd ?on ?b1 ?b2 ?sz ?_
                   case rd => exact ⟨rfl, fun _ => ⟨_, rfl, Nat.lt_succ_self _, fun q u hu => by rw [Addr.add_lit, Nat.zero_add, N9.out.2.1.cell q]; simpa using hu⟩⟩
                   case on => (intro u hu; simp at hu; subst hu; rfl)
                   case b1 => (have := HLB.out; simp only [maxLen]; omega)
                   case b2 => (have := HLB.out; omega)
                   case sz => exact N9.out.2.2
                   intro v10 w10 hown10 hg10 hat10
                   have HB10 := hide (N9B.out.grown hg10 (Nat.le_trans HB.out N9B.out.size) (fun q hq => (N9O.out.lt q hq).1))
                   have HO10 := hide (show w10.ownsRow B 3 1 v10 (lo + 1) ((stmtsL code ns rl (s + 1)).map iI) by rw [HS1.out, List.map_append]; exact hown10)
                   obtain ⟨A10, c10, rfl⟩ := own_formT hown10
                   clear hown10 hg10 hat10))
              go_wp2_with fail
              go_roundw
              case rel => exact ⟨s + 1, lo + 1, A10, c10, by have := HLT.out; omega, rfl, by rw [HSN.out], hide (by rw [HS1.out, List.length_append, ← HLO.out]; rfl), HO10, HB10⟩
              case measure => rw [HSN.out]; simp [intOf]; have := HLT.out; omega
    · have s1 : ¬ (s : Int) < (ns : Int) := by omega
      have HKE := hide (show s = ns by omega)
      clear hlt hsl hwr1
      go_wp2_with fail
      go_ret
      refine ⟨_, rfl, ?_, HB1.out.trans (HWR.out.mono (Nat.le_trans HB1.out.size (Nat.le_of_eq HBE.out.symm)))⟩
      have h1 := HLO.out
      have h2 := own_monoT HO.out (B' := w.heap.size) (by have := HBE.out; have := HB1.out.size; omega)
      rw [HKE.out] at h1 h2
      rw [← h1]
      exact h2
end Go.Proofs.Ytaaadbaakhjkcaa

namespace Go.Proofs.Ytaaadbaakhjkcaa
open Go.RowKit Go.WideShapes Go.ChangeShapes
set_option linter.unusedVariables false
set_option linter.unusedSimpArgs false
set_option maxRecDepth 100000

def InR (x : Int) : Prop := -9223372036854775808 ≤ x ∧ x ≤ 9223372036854775807
structure InsR (i : Ins) : Prop where
  a : InR i.a
  b : InR i.b
  d : InR i.d
  ar : ∀ r ∈ i.args, InR r
  rm : ∀ x ∈ i.arms, InR x.b
def okL (regs : Int) (l : List Int) : Prop := ∀ r ∈ l, 0 ≤ r ∧ r < regs
def okS (regs : Int) (l : List Sp) : Prop := ∀ s ∈ l, badSp regs s = false
theorem okL_app {regs : Int} {a b : List Int} : okL regs (a ++ b) ↔ okL regs a ∧ okL regs b :=
  ⟨fun h => ⟨fun r hr => h r (List.mem_append_left _ hr), fun r hr => h r (List.mem_append_right _ hr)⟩, fun h r hr => (List.mem_append.1 hr).elim (h.1 r) (h.2 r)⟩
theorem okS_app {regs : Int} {a b : List Sp} : okS regs (a ++ b) ↔ okS regs a ∧ okS regs b :=
  ⟨fun h => ⟨fun r hr => h r (List.mem_append_left _ hr), fun r hr => h r (List.mem_append_right _ hr)⟩, fun h r hr => (List.mem_append.1 hr).elim (h.1 r) (h.2 r)⟩
theorem okL_nil {regs : Int} : okL regs [] := fun _ h => by cases h
theorem okS_nil {regs : Int} : okS regs [] := fun _ h => by cases h
theorem bad_iff {regs f m : Int} (hr : 0 ≤ regs ∧ regs ≤ 65536) (hm : 0 ≤ m ∧ m ≤ 65536) : badSp regs ⟨f, m⟩ = false ↔ (0 < m → 0 ≤ f ∧ f + m ≤ regs) := by
  have hw : IntKind.i64.wrap (regs - m) = regs - m := IntWalk.i64_in _ (by omega)
  unfold badSp
  simp only [hw]
  by_cases h : 0 < m
  · simp [h]
    omega
  · simp [h]
theorem ok_one {regs d : Int} (hr : 0 ≤ regs ∧ regs ≤ 65536) : okL regs [d] ↔ okS regs [⟨d, 1⟩] := by
  have h := bad_iff (f := d) (m := 1) hr (by omega)
  constructor
  · intro h1 s hs
    rw [List.mem_singleton.1 hs]
    have := h1 d (by simp)
    exact h.2 (fun _ => by omega)
  · intro h1 r hr2
    rw [List.mem_singleton.1 hr2]
    have := h.1 (h1 _ (by simp)) (by omega)
    omega
theorem ok_run {regs b n : Int} (hr : 0 ≤ regs ∧ regs ≤ 65536) (hb : InR b) : okL regs (runL b n) ↔ okS regs [⟨b, runN n⟩] := by
  have hm := runN_le n
  have h := bad_iff (f := b) (m := runN n) hr hm
  obtain ⟨m, hme⟩ : ∃ m : Nat, runN n = (m : Int) := ⟨(runN n).toNat, by omega⟩
  have hL : runL b n = (List.range m).map (fun q : Nat => IntKind.i64.wrap (b + (q : Int))) := by unfold runL partS; rw [hme]; rfl
  rw [hme] at h hm ⊢
  rw [hL]
  constructor
  · intro h1 s hs
    rw [List.mem_singleton.1 hs]
    refine h.2 (fun hp => ?_)
    have h2 : ∀ q : Nat, q < m → 0 ≤ IntKind.i64.wrap (b + (q : Int)) ∧ IntKind.i64.wrap (b + (q : Int)) < regs := fun q hq => h1 _ (List.mem_map.2 ⟨q, List.mem_range.2 hq, rfl⟩)
    have h3 := h2 0 (by omega)
    rw [show b + ((0 : Nat) : Int) = b by omega, IntWalk.i64_in b (by unfold InR at hb; omega)] at h3
    have h4 := h2 (m - 1) (by omega)
    rw [IntWalk.i64_in _ (by omega)] at h4
    omega
  · intro h1 r hr2
    obtain ⟨q, hq, rfl⟩ := List.mem_map.1 hr2
    have hq := List.mem_range.1 hq
    have h2 := h.1 (h1 _ (by simp)) (by omega)
    rw [IntWalk.i64_in _ (by omega)]
    omega
theorem ok_ones {regs : Int} (hr : 0 ≤ regs ∧ regs ≤ 65536) : ∀ l : List Int, okL regs l ↔ okS regs (l.map fun r => (⟨r, 1⟩ : Sp))
  | [] => ⟨fun _ => okS_nil, fun _ => okL_nil⟩
  | x :: l => by
    rw [show x :: l = [x] ++ l from rfl, List.map_append, okL_app, okS_app, ok_ones hr l, ok_one hr]
    rfl
theorem ok_runs {regs m : Int} (hr : 0 ≤ regs ∧ regs ≤ 65536) : ∀ l : List Int, (∀ r ∈ l, InR r) → (okL regs (l.flatMap (fun r => runL r m)) ↔ okS regs (l.map fun r => (⟨r, runN m⟩ : Sp)))
  | [], _ => ⟨fun _ => okS_nil, fun _ => okL_nil⟩
  | x :: l, h => by
    rw [show (x :: l).flatMap (fun r => runL r m) = runL x m ++ l.flatMap (fun r => runL r m) from rfl, show (x :: l).map (fun r => (⟨r, runN m⟩ : Sp)) = [⟨x, runN m⟩] ++ l.map (fun r => (⟨r, runN m⟩ : Sp)) from rfl, okL_app, okS_app, ok_runs hr l (fun r hr => h r (by simp [hr])), ok_run hr (h x (by simp))]
theorem ok_armsW {regs : Int} (hr : 0 ≤ regs ∧ regs ≤ 65536) : ∀ l : List Arm, (∀ x ∈ l, InR x.b) → (okL regs (l.flatMap armWr) ↔ okS regs (armsW l))
  | [], _ => ⟨fun _ => okS_nil, fun _ => okL_nil⟩
  | x :: l, h => by
    rw [show (x :: l).flatMap armWr = armWr x ++ l.flatMap armWr from rfl, show armsW (x :: l) = armW x ++ armsW l from rfl, okL_app, okS_app, ok_armsW hr l (fun r hr => h r (by simp [hr]))]
    unfold armWr armW
    split
    · rw [ok_run hr (h x (by simp))]
    · exact ⟨fun h => ⟨okS_nil, h.2⟩, fun h => ⟨okL_nil, h.2⟩⟩
theorem ok_armsR {regs : Int} (hr : 0 ≤ regs ∧ regs ≤ 65536) : ∀ l : List Arm, (∀ x ∈ l, InR x.b) → (okL regs (l.flatMap armRd) ↔ okS regs (armsR l))
  | [], _ => ⟨fun _ => okS_nil, fun _ => okL_nil⟩
  | x :: l, h => by
    rw [show (x :: l).flatMap armRd = armRd x ++ l.flatMap armRd from rfl, show armsR (x :: l) = armR x ++ armsR l from rfl, okL_app, okS_app, ok_armsR hr l (fun r hr => h r (by simp [hr]))]
    have hx : okL regs (armRd x) ↔ okS regs (armR x) := by
      unfold armRd armR
      by_cases h1 : x.k = 1
      · rw [if_pos (.inl h1), if_pos h1, if_pos h1, okL_app, show [(⟨x.a, 1⟩ : Sp), ⟨x.b, runN x.n⟩] = [⟨x.a, 1⟩] ++ [⟨x.b, runN x.n⟩] from rfl, okS_app, ok_one hr, ok_run hr (h x (by simp))]
      · by_cases h2 : x.k = 2
        · rw [if_pos (.inr h2), if_neg h1, if_neg h1, if_pos h2, List.append_nil, ok_one hr]
        · rw [if_neg (by omega), if_neg h1, if_neg h1, if_neg h2]
          exact ⟨fun _ => okS_nil, fun _ => okL_nil⟩
    rw [hx]
theorem ok_wrote {i : Ins} {regs : Int} (h : 1 ≤ i.op ∧ i.op ≤ 41) (hr : 0 ≤ regs ∧ regs ≤ 65536) (hi : InsR i) : okL regs (wrotL i) ↔ okS regs (writtenS i) := by
  unfold writtenS
  by_cases h1 : i.op = 1 ∨ i.op = 3 ∨ i.op = 6 ∨ i.op = 9 ∨ i.op = 10 ∨ i.op = 14 ∨ i.op = 15 ∨ i.op = 16 ∨ i.op = 17 ∨ i.op = 18 ∨ i.op = 27 ∨ i.op = 28 ∨ i.op = 29 ∨ i.op = 30 ∨ i.op = 31 ∨ i.op = 32 ∨ i.op = 33 ∨ i.op = 39
  · rw [if_pos h1, wrot_one h1, ok_one hr]
  rw [if_neg h1]
  by_cases h2 : i.op = 2 ∨ i.op = 11 ∨ i.op = 21 ∨ i.op = 35
  · rw [if_pos h2, wrot_run h2, ok_run hr hi.d]
  rw [if_neg h2]
  by_cases h3 : i.op = 22
  · rw [if_pos h3, wrot_proc h3, ok_run hr hi.d]
  rw [if_neg h3]
  by_cases h4 : i.op = 37
  · rw [if_pos h4]
    unfold wrotL
    rw [if_pos h4, ok_armsW hr _ hi.rm]
  rw [if_neg h4, wrot_none h h1 h2 h3 h4]
  exact ⟨fun _ => okS_nil, fun _ => okL_nil⟩
theorem ok_read {i : Ins} {regs : Int} (h : 1 ≤ i.op ∧ i.op ≤ 41) (hr : 0 ≤ regs ∧ regs ≤ 65536) (hi : InsR i) : okL regs (readL i) ↔ okS regs (readS i) := by
  unfold readS
  by_cases h1 : i.op = 2 ∨ i.op = 5
  · have e : readL i = runL i.a i.n := by rcases h1 with h | h <;> simp [readL, rowR, h, lettersL, letL]
    rw [if_pos h1, e, ok_run hr hi.a]
  rw [if_neg h1]
  by_cases h2 : i.op = 4 ∨ i.op = 11 ∨ i.op = 13 ∨ i.op = 14 ∨ i.op = 18 ∨ i.op = 20 ∨ i.op = 26 ∨ i.op = 30 ∨ i.op = 32 ∨ i.op = 33 ∨ i.op = 35 ∨ i.op = 36 ∨ i.op = 39
  · have e : readL i = [i.a] := by rcases h2 with h | h | h | h | h | h | h | h | h | h | h | h | h <;> simp [readL, rowR, h, lettersL, letL]
    rw [if_pos h2, e, ok_one hr]
  rw [if_neg h2]
  by_cases h3 : i.op = 12 ∨ i.op = 34
  · have e : readL i = [i.a] ++ runL i.b i.n := by rcases h3 with h | h <;> simp [readL, rowR, h, lettersL, letL]
    rw [if_pos h3, e, okL_app, show [(⟨i.a, 1⟩ : Sp), ⟨i.b, runN i.n⟩] = [⟨i.a, 1⟩] ++ [⟨i.b, runN i.n⟩] from rfl, okS_app, ok_one hr, ok_run hr hi.b]
  rw [if_neg h3]
  by_cases h4 : i.op = 15 ∨ i.op = 16 ∨ i.op = 17
  · have e : readL i = [i.a] ++ [i.b] := by rcases h4 with h | h | h <;> simp [readL, rowR, h, lettersL, letL]
    rw [if_pos h4, e, okL_app, show [(⟨i.a, 1⟩ : Sp), ⟨i.b, 1⟩] = [⟨i.a, 1⟩] ++ [⟨i.b, 1⟩] from rfl, okS_app, ok_one hr, ok_one hr]
  rw [if_neg h4]
  by_cases h5 : i.op = 22 ∨ i.op = 23 ∨ i.op = 28 ∨ i.op = 38
  · have e : readL i = i.args := by rcases h5 with h | h | h | h <;> simp [readL, rowR, h, lettersL, letL]
    rw [if_pos h5, e, ok_ones hr]
  rw [if_neg h5]
  by_cases h6 : i.op = 21
  · have e : readL i = [i.a] ++ i.args := by simp [readL, rowR, h6, lettersL, letL]
    rw [if_pos h6, e, okL_app, show (⟨i.a, 1⟩ : Sp) :: (i.args.map fun r => (⟨r, 1⟩ : Sp)) = [⟨i.a, 1⟩] ++ (i.args.map fun r => (⟨r, 1⟩ : Sp)) from rfl, okS_app, ok_one hr, ok_ones hr]
  rw [if_neg h6]
  by_cases h7 : i.op = 24 ∨ i.op = 25
  · have e : readL i = (if i.a = -1 then [] else [i.a]) ++ i.args := by rcases h7 with h | h <;> simp [readL, rowR, h, lettersL, letL]
    rw [if_pos h7, e, okL_app]
    by_cases ha : i.a = -1
    · rw [if_pos ha, if_pos ha]
      exact ⟨fun h => (ok_ones hr _).1 h.2, fun h => ⟨okL_nil, (ok_ones hr _).2 h⟩⟩
    · rw [if_neg ha, if_neg ha, show (⟨i.a, 1⟩ : Sp) :: (i.args.map fun r => (⟨r, 1⟩ : Sp)) = [⟨i.a, 1⟩] ++ (i.args.map fun r => (⟨r, 1⟩ : Sp)) from rfl, okS_app, ok_one hr, ok_ones hr]
  rw [if_neg h7]
  by_cases h8 : i.op = 31
  · have e : readL i = [i.a] ++ i.args.flatMap (fun r => runL r i.m) := by simp [readL, rowR, h8, lettersL, letL]
    rw [if_pos h8, e, okL_app, show (⟨i.a, 1⟩ : Sp) :: (i.args.map fun r => (⟨r, runN i.m⟩ : Sp)) = [⟨i.a, 1⟩] ++ (i.args.map fun r => (⟨r, runN i.m⟩ : Sp)) from rfl, okS_app, ok_one hr, ok_runs hr _ hi.ar]
  rw [if_neg h8]
  by_cases h9 : i.op = 37
  · rw [if_pos h9]
    unfold readL
    rw [if_pos h9, ok_armsR hr _ hi.rm]
  rw [if_neg h9]
  have hc : i.op = 1 ∨ i.op = 3 ∨ i.op = 6 ∨ i.op = 7 ∨ i.op = 8 ∨ i.op = 9 ∨ i.op = 10 ∨ i.op = 19 ∨ i.op = 27 ∨ i.op = 29 ∨ i.op = 40 ∨ i.op = 41 := by omega
  have e : readL i = [] := by rcases hc with h | h | h | h | h | h | h | h | h | h | h | h <;> simp [readL, rowR, h, lettersL, letL]
  rw [e]
  exact ⟨fun _ => okS_nil, fun _ => okL_nil⟩
/-- What the reference asks of all registers, and what the program asks of all spans. -/
theorem regs_iff {i : Ins} {regs : Int} (h : 1 ≤ i.op ∧ i.op ≤ 41) (hr : 0 ≤ regs ∧ regs ≤ 65536) (hi : InsR i) : okL regs (readL i ++ wrotL i) ↔ registersB regs i = true := by
  rw [okL_app, ok_read h hr hi, ok_wrote h hr hi, ← okS_app]
  unfold registersB okS
  rw [Bool.not_eq_true', List.any_eq_false]
  exact ⟨fun h s hs => by rw [h s hs]; decide, fun h s hs => by
    cases hq : badSp regs s with
    | false => rfl
    | true => exact absurd hq (h s hs)⟩
end Go.Proofs.Ytaaadbaakhjkcaa
