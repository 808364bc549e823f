/- What code comes to (reach.Code); conditions: the func and its graph are in memory. -/
import Derived.Test.YtaaadbaakhjkcaaRcD
namespace Go.Proofs.Ytaaadbaakhjkcaa
open Go.RowKit Go.WideShapes Go.ChangeShapes
set_option linter.unusedVariables false
set_option linter.unusedSimpArgs false
set_option maxRecDepth 100000

def CodP (w : World) (code : List IV) (nx : Nat → List Int) (e : Ending) (w' : World) : Prop := ∃ (gs n : Nat) (f : Nat → Bool), e = .returned (.slice (some ⟨gs, 0, none⟩) n n) ∧ n = code.length ∧ w.heap.size ≤ gs ∧ Blk w' gs 4 (bc n f) ∧ Below w.heap.size w w' ∧ ∀ q, q < n → (f q = true ↔ RchR nx 0 q)
set_option maxHeartbeats 16000000 in
theorem codr_any (p : Pr) (hs : List Bool) (code : List IV) (ns : Nat) (B : Nat → Bool) (Ab Aa Ao : Option Addr) (cb ca co kb n lo : Nat) (R : Nat → Value) (o : List Nat) (nv : List Bool) (vn : Value) (w : World) (h : PrOk w p hs code ns) (hF : GrF w p hs code ns B Ab Aa Ao cb ca co kb n lo R o) (hl : ∀ x ∈ code, x.i.arms.length ≤ 100 ∧ x.i.args.length ≤ 100) (hv : BoolsAt w vn nv) :
    Calls Try.prog 19 #[p.val, .agg #[.slice Ab kb cb, .slice Aa n ca, .slice Ao lo co], vn] w (CodP w code (nextR code B nv)) := by
  obtain ⟨i0, hi0, hz0, hz1, hz2⟩ := info_parts intInfoT
  obtain ⟨gp, hgp⟩ : ∃ gp, gp = w.heap.size := ⟨_, rfl⟩
  obtain ⟨W1, hW1⟩ : ∃ W1, W1 = (w.alloc (.cells p.arr 29)).alloc (.cells #[.slice Ab kb cb, .slice Aa n ca, .slice Ao lo co] 34) := ⟨_, rfl⟩
  obtain ⟨g, hg⟩ : ∃ g, g = gp + 1 := ⟨_, rfl⟩
  have hb1 : Below w.heap.size w W1 := by rw [hW1]; exact ((Below.refl _ _).alloc (Nat.le_refl _) _).alloc (by simp) _
  have HBP := hide (show Blk W1 gp 29 p.arr by rw [hW1, hgp]; exact (Blk.new _ _ _).alloc _)
  have HBG := hide (show Blk W1 g 34 #[.slice Ab kb cb, .slice Aa n ca, .slice Ao lo co] by
    have h := Blk.new (w.alloc (.cells p.arr 29)) 34 #[.slice Ab kb cb, .slice Aa n ca, .slice Ao lo co]
    rw [← hW1] at h
    rw [hg, hgp]
    simpa using h)
  have HOK := hide (h.below hb1 (Nat.le_refl _))
  have HFR := hide (hF.below hb1 (Nat.le_refl _))
  have HNV := hide (show BoolsAt W1 vn nv from hv.below hb1 (Nat.le_refl _))
  have HL := hide hl
  obtain ⟨Ac, cc, hcv⟩ := h.cv.form
  have HCV := hide hcv
  have HN := hide (show n = code.length ∧ n ≤ 1000 from ⟨hF.nl, by rw [hF.nl]; exact hF.g.len⟩)
  have HN0 := hide (show 0 < n by rw [hF.nl]; exact hF.g.pos)
  have HK0 := hide hF.kpos
  have HY6 := hide (show ∀ wr, Below W1.heap.size W1 wr → wr.cell? ⟨gp, 6, none⟩ = some (.slice Ac n cc) from fun wr hw => by
    have h := (HBP.out.below hw HBP.out.lt).cell 6
    rw [h, HN.out.1, ← HCV.out]
    rfl)
  have HB1 := hide hb1
  have HW1 := hide hW1
  have HGP := hide hgp
  have HG := hide hg
  obtain ⟨PV, hPV⟩ : ∃ PV, PV = p.val := ⟨_, rfl⟩
  have HPV := hide (show PV = .agg p.arr from hPV)
  have HPV2 := hide (show PV = p.val from hPV)
  have HED := hide (fun (q y : Nat) (he : EdgeR (nextR code B nv) q y) => show y < n by rw [HN.out.1]; exact HFR.out.g.edge_lt (nextR_edge he))
  have hmk := make_bools n (by have := HN.out; omega)
  obtain ⟨Z, hZ⟩ : ∃ Z, Z = bc n (fun _ => false) := ⟨_, rfl⟩
  rw [← hZ] at hmk
  obtain ⟨gs, hgs⟩ : ∃ gs, gs = W1.heap.size := ⟨_, rfl⟩
  obtain ⟨W4, hW4⟩ : ∃ W4, W4 = W1.alloc (.cells Z 4) := ⟨_, rfl⟩
  have HBL4 := hide (show Blk W4 gs 4 Z by rw [hW4, hgs]; exact Blk.new _ _ _)
  have HB4 := hide (show Below W1.heap.size W1 W4 by rw [hW4]; exact (Below.refl _ _).alloc (Nat.le_refl _) _)
  have HGS := hide (show W1.heap.size ≤ gs by rw [hgs]; exact Nat.le_refl _)
  have HGSE := hide hgs
  have HW4 := hide hW4
  have HZ := hide hZ
  have y6 := HY6.out W1 (Below.refl _ _)
  have g0 : W1.cell? ⟨g, 0, none⟩ = some (.slice Ab kb cb) := HBG.out.cell 0
  have l1 : ¬ (kb : Int) = 0 := by have := HK0.out; omega
  have l2 : ((kb : Int) == 0) = false := by have := HK0.out; simp; omega
  have l3 : ¬ (n : Int) = 0 := by have := HN0.out; omega
  have l4 : ((n : Int) == 0) = false := by have := HN0.out; simp; omega
  have l5 : ¬ kb = 0 := by have := HK0.out; omega
  have l6 : ¬ n = 0 := by have := HN0.out; omega
  clear h hF hl hcv hb1 hW1 hgp hg hPV hv hZ hgs hW4
  go_enter Try.func19, Try.ntmps19
  go_upto_region 1 with (fail)
  rw [← HPV2.out, ← HGP.out]
  rw [HPV.out, ← HG.out, ← HW1.out, ← HPV.out]
  go_upto_region 4 with (fail)
  rw [← HGSE.out, ← HW4.out]
  clear hmk y6 g0 l1 l2 l3 l4 l5 l6
  have k1 : (0 : Int) < (n : Int) := by have := HN0.out; omega
  have y0 : W4.cell? ⟨gs, 0, none⟩ = some (.bool false) := (HBL4.out.cell 0).trans (by rw [HZ.out]; exact bc_at _ HN0.out)
  have f0 := HBL4.out.frozen 0
  obtain ⟨W5, hW5⟩ : ∃ W5, W5 = W4.setCell ⟨gs, 0, none⟩ (.bool true) := ⟨_, rfl⟩
  have HBL5 := hide (show Blk W5 gs 4 (bc n (fun q => q == 0)) by
    have h := HBL4.out.set_ 0 (.bool true)
    rw [HZ.out, bc_set] at h
    rw [hW5]
    rw [bc_congr (f' := fun q => q == 0) (fun q _ => by simp)] at h
    exact h)
  have HB5 := hide (show Below W1.heap.size W1 W5 by rw [hW5]; exact HB4.out.setCell (p := ⟨gs, 0, none⟩) HGS.out _)
  have HW5 := hide hW5
  clear hW5
  go_upto_region 5 with (fail)
  rw [← HW5.out]
  clear y0 f0 k1
  obtain ⟨W6, hW6⟩ : ∃ W6, W6 = W5.alloc (.cells #[.int .i64 0] 3) := ⟨_, rfl⟩
  obtain ⟨gt, hgt⟩ : ∃ gt, gt = W5.heap.size := ⟨_, rfl⟩
  have HBL6 := hide (show Blk W6 gs 4 (bc n (fun q => q == 0)) by rw [hW6]; exact HBL5.out.alloc _)
  have HO6 := hide (show W6.ownsRow W1.heap.size 3 1 (.slice (some ⟨gt, 0, none⟩) 1 1) 1 ([0].map (fun q : Nat => iI (q : Int))) from
    ⟨rfl, .inr ⟨gt, 1, #[.int .i64 0], rfl, by rw [hgt]; exact HB5.out.size, by rw [hW6, hgt]; exact Blk.new _ _ _, Nat.le_refl _, by simp only [maxLen]; omega, rfl, rfl⟩⟩)
  have HB6 := hide (show Below W1.heap.size W1 W6 by rw [hW6]; exact HB5.out.alloc HB5.out.size _)
  have HGT := hide hgt
  have HW6 := hide hW6
  clear hgt hW6
  go_upto_region 6 with (fail)
  rw [← HGT.out, ← HW6.out]
  go_loopg [8] (1 + 2 * cntU n (fun q => q == 0)) (fun gk lv wr => ∃ (k : Nat) (A : Option Addr) (c : Nat) (f : Nat → Bool) (st : List Nat), lv = .slice A k c ∧ Hid (k = st.length) ∧ Hid (gk = st.length + 2 * cntU n f) ∧ Hid (CSR (nextR code B nv) n 0 f st) ∧ Hid (Blk wr gs 4 (bc n f)) ∧ Hid (wr.ownsRow W1.heap.size 3 1 (.slice A k c) k (st.map (fun q : Nat => iI (q : Int)))) ∧ Hid (Below W1.heap.size W1 wr))
  case atStart => exact ⟨1, _, 1, fun q => q == 0, [0], rfl, hide rfl, hide rfl, hide (CSR.first HN0.out), HBL6, HO6, HB6⟩
  case round =>
    obtain ⟨k, A, c, f, st, rfl, HK, HGK, HCS, HBS, HOS, HWR⟩ := hrel
    by_cases hk0 : 0 < k
    · obtain ⟨st', pc, hst⟩ : ∃ st' pc, st = st' ++ [pc] := by
        rcases List.eq_nil_or_concat st with h | ⟨l, x, h⟩
        · rw [h] at HK
          have := HK.out
          simp at this
          omega
        · exact ⟨l, x, by simpa using h⟩
      subst hst
      obtain ⟨k', hk'⟩ : ∃ k', k = k' + 1 := ⟨k - 1, by omega⟩
      subst hk'
      have hkl : k' = st'.length := by have := HK.out; simp at this; omega
      have HKL := hide hkl
      have hos := HOS.out
      rw [List.map_append, List.map_singleton] at hos
      obtain ⟨gv, rfl, hkc, hgvB, cur, hgv⟩ := own_some hos (by omega)
      have hcut := own_cut hos
      have hpcn := HCS.out.stk pc (by simp)
      have ypc : wr.cell? ⟨gv, k', none⟩ = some (.int .i64 (pc : Int)) := by
        have h := hos.cells (g := gv) rfl k' (.int .i64 (pc : Int)) (by rw [hkl, List.getElem?_append_right (by simp)]; simp)
        rw [Addr.add_lit, Nat.zero_add] at h
        exact h
      have q1 : IntKind.i64.wrap (((k' + 1 : Nat) : Int) - 1) = (k' : Int) := by rw [show ((k' + 1 : Nat) : Int) - 1 = (k' : Int) by omega]; exact IntWalk.i64_in _ (by have h1 := HCS.out.cnt; have h2 := HN.out; rw [List.length_append] at h1; omega)
      have q2 : IntKind.i64.wrap ((k' : Int) + 1 - 1) = (k' : Int) := by rw [show (k' : Int) + 1 - 1 = (k' : Int) by omega]; exact IntWalk.i64_in _ (by have h1 := HCS.out.cnt; have h2 := HN.out; rw [List.length_append] at h1; omega)
      have q3 : IntKind.i64.wrap (k' : Int) = (k' : Int) := IntWalk.i64_in _ (by have h1 := HCS.out.cnt; have h2 := HN.out; rw [List.length_append] at h1; omega)
      have k1 : (k' : Int) < ((k' + 1 : Nat) : Int) := by omega
      have k5 : (k' : Int) < (k' : Int) + 1 := by omega
      have k2 : (0 : Int) ≤ (k' : Int) := by omega
      have k3 : (k' : Int) ≤ (c : Int) := by omega
      have k4 : ¬ ((k' + 1 : Nat) : Int) ≤ 0 := by omega
      obtain ⟨x, hx⟩ := code_atN (code := code) (q := pc) (by have := HN.out; omega)
      have hbw : Below W1.heap.size W1 wr := HWR.out
      have HX := hide hx
      have HLX := hide (HL.out x (List.mem_of_getElem? hx))
      have HNC := hide (nextr_any p hs code ns B Ab Aa Ao cb ca co kb n lo R o nv vn pc x wr (HOK.out.below hbw (Nat.le_refl _)) (HFR.out.below hbw (Nat.le_refl _)) HL.out hx (HNV.out.below hbw (Nat.le_refl _)))
      rw [← HPV2.out] at HNC
      obtain ⟨L, hL⟩ : ∃ L, L = nextX code B nv pc x := ⟨_, rfl⟩
      rw [← hL] at HNC
      have HLR := hide (show nextR code B nv pc = L by rw [hL]; unfold nextR; rw [hx])
      have HNY := hide (show ∀ y ∈ L, 0 ≤ y ∧ y < (code.length : Int) by rw [hL]; exact fun y hy => edge_in HFR.out.g.good hx y (nextX_sub hy))
      have HLL := hide (show L.length ≤ 200 by rw [hL]; have := nextX_len (code := code) (B := B) (nv := nv) (pc := pc) (x := x); have := HLX.out; omega)
      have HEG := hide (fun (y : Nat) => show EdgeR (nextR code B nv) pc y ↔ (y : Int) ∈ L by unfold EdgeR; rw [HLR.out])
      have HRC := hide (HCS.out.sound pc hpcn.1 hpcn.2)
      have HPN := hide hpcn.1
      obtain ⟨M, hM⟩ : ∃ M, M = gk := ⟨_, rfl⟩
      have HCM := hide (show CMR (nextR code B nv) n 0 M pc L 0 f st' by rw [hM, HGK.out]; exact HCS.out.pop L)
      have HM := hide hM
      have HCUT := hide hcut
      have HBP2 := hide (HBP.out.below hbw HBP.out.lt)
      have g0 : wr.cell? ⟨g, 0, none⟩ = some (.slice Ab kb cb) := (HBG.out.below hbw HBG.out.lt).cell 0
      have g1 : wr.cell? ⟨g, 1, none⟩ = some (.slice Aa n ca) := (HBG.out.below hbw HBG.out.lt).cell 1
      have g2 : wr.cell? ⟨g, 2, none⟩ = some (.slice Ao lo co) := (HBG.out.below hbw HBG.out.lt).cell 2
      clear hos hcut hgv hx hL hM hpcn hkl hkc hgvB hk0 hbw
      go_wp2_with (first
        | (refine wpList_load_blk (.tmp 3) HBP2.out HPV.out Try.underlying29 rfl pr_size rfl rfl rfl ?_)
        | (refine wp_load_blk (.tmp 3) HBP2.out HPV.out Try.underlying29 rfl pr_size rfl rfl ?_))
      refine HNC.out.mono ?_
      rintro e w7 ⟨v7, rfl, hown7, hb7⟩
      obtain ⟨nl, hnl⟩ : ∃ nl, nl = L.length := ⟨_, rfl⟩
      rw [← hnl] at hown7
      obtain ⟨A7, c7, rfl⟩ := own_formT hown7
      have HNL := hide hnl
      have HO7 := hide (own_monoT hown7 HWR.out.size)
      have HB7 := hide (HWR.out.trans (hb7.mono HWR.out.size))
      have HBS7 := hide (HBS.out.below hb7 HBS.out.lt)
      have HOS7 := hide (own_belowT HCUT.out hb7)
      have HDJ := hide (fun q (hq : (Value.slice (some (⟨gv, 0, none⟩ : Addr)) k' c).ownBlock = some q) => show (Value.slice A7 nl c7).ownBlock ≠ some q from fun e => by
        have h1 := (hown7.lt q e).1
        have h2 := (HCUT.out.lt q hq).2
        omega)
      clear hown7 hb7 hnl ypc q1 q2 q3 k5 k1 k2 k3 k4 g0 g1 g2
      go_wp2_with fail
      go_loopw [8, 49] (fun lv tt wr => ∃ (t k : Nat) (A : Option Addr) (c : Nat) (f : Nat → Bool) (st : List Nat), t ≤ nl ∧ lv = .slice A k c ∧ tt = .int .i64 t ∧ Hid (k = st.length) ∧ Hid (CMR (nextR code B nv) n 0 M pc L t f st) ∧ Hid (Blk wr gs 4 (bc n f)) ∧ Hid (wr.ownsRow W1.heap.size 3 1 (.slice A k c) k (st.map (fun q : Nat => iI (q : Int)))) ∧ Hid (wr.ownsRow W1.heap.size 3 1 (.slice A7 nl c7) nl (L.map iI)) ∧ Hid (∀ q, (Value.slice A k c).ownBlock = some q → (Value.slice A7 nl c7).ownBlock ≠ some q) ∧ Hid (Below W1.heap.size W1 wr)) (fun _ tt _ => nl - (intOf tt).toNat)
      case atStart => exact ⟨0, k', _, c, f, st', Nat.zero_le _, rfl, rfl, HKL, HCM, HBS7, HOS7, HO7, HDJ, HB7⟩
      case round =>
        clear HK HGK HCS HBS HOS HWR HKL HCM HCUT HBS7 HOS7 HO7 HDJ HB7
        obtain ⟨t, k2, A2, c2, f2, st2, ht, rfl, rfl, HK2, HCM2, HBS2, HOS2, HO2, HDJ2, HW2⟩ := hrel
        by_cases htn : t < nl
        · have t1 : (t : Int) < (nl : Int) := by omega
          have t2 : (0 : Int) ≤ (t : Int) := by omega
          have q6 : IntKind.i64.wrap ((t : Int) + 1) = (t : Int) + 1 := IntWalk.i64_in _ (by have := HNL.out; have := HLL.out; omega)
          obtain ⟨b3, o3, y, hA7, hbl3, hy, y3⟩ := (IntsAt.own (l := L) (by rw [← HNL.out]; exact HO2.out) : IntsAt wr (.slice A7 L.length c7) L).at_ (k := t) (by rw [← HNL.out]; exact htn)
          subst hA7
          have hyy := HNY.out y (List.mem_of_getElem? hy)
          obtain ⟨yn, rfl⟩ : ∃ yn : Nat, y = (yn : Int) := ⟨y.toNat, by omega⟩
          have hyn : yn < n := by have := HN.out; omega
          have ys : wr.cell? ⟨gs, yn, none⟩ = some (.bool (f2 yn)) := (HBS2.out.cell yn).trans (bc_at _ hyn)
          have k1 : (yn : Int) < (n : Int) := by omega
          have k3 : (0 : Int) ≤ (yn : Int) := by omega
          cases hf : f2 yn with
          | true =>
            rw [hf] at ys
            have HCN := hide (HCM2.out.skip hy hf)
            clear hf hy hyy hyn hbl3
            go_wp2_with fail
            go_roundw
            case rel => exact ⟨t + 1, k2, A2, c2, f2, st2, by omega, rfl, by simp, HK2, HCN, HBS2, HOS2, HO2, HDJ2, HW2⟩
            case measure => simp [intOf]; omega
          | false =>
            rw [hf] at ys
            have HCN := hide (HCM2.out.push hy hf hyn HRC.out ((HEG.out yn).2 (List.mem_of_getElem? hy)))
            have fs := HBS2.out.frozen yn
            obtain ⟨W8, hW8⟩ : ∃ W8, W8 = wr.setCell ⟨gs, yn, none⟩ (.bool true) := ⟨_, rfl⟩
            have hbs8 : Blk W8 gs 4 (bc n (fun q => f2 q || q == yn)) := by
              have h := HBS2.out.set_ yn (.bool true)
              rw [bc_set] at h
              rw [hW8]
              exact h
            have hos8 : W8.ownsRow W1.heap.size 3 1 (.slice A2 k2 c2) k2 (st2.map (fun q : Nat => iI (q : Int))) := by rw [hW8]; exact ownsRow_setCell_other (a := ⟨gs, yn, none⟩) HOS2.out (own_blk_ne HOS2.out HBS2.out (by decide)) _
            have ho8 : W8.ownsRow W1.heap.size 3 1 (.slice (some ⟨b3, o3, none⟩) nl c7) nl (L.map iI) := by rw [hW8]; exact ownsRow_setCell_other (a := ⟨gs, yn, none⟩) HO2.out (own_blk_ne HO2.out HBS2.out (by decide)) _
            have hw8 : Below W1.heap.size W1 W8 := by rw [hW8]; exact HW2.out.setCell (p := ⟨gs, yn, none⟩) HGS.out _
            have HW8 := hide hW8
            clear hf hy hyy hyn hbl3 hW8
            go_upto_region 14 with (fail)
            rw [← HW8.out]
            clear ys fs k1 k3
            obtain ⟨W9, hW9⟩ : ∃ W9, W9 = W8.alloc (.cells #[.int .i64 (yn : Int)] 3) := ⟨_, rfl⟩
            have hb9 : Below W8.heap.size W8 W9 := by rw [hW9]; exact (Below.refl _ _).alloc (Nat.le_refl _) _
            have HC9 := hide (show Blk W9 W8.heap.size 3 #[.int .i64 (yn : Int)] by rw [hW9]; exact Blk.new _ _ _)
            have HZ9 := hide (show W9.heap.size = W8.heap.size + 1 by rw [hW9]; simp)
            have HS9 := hide (hbs8.below hb9 hbs8.lt)
            have HOS9 := hide (own_belowT hos8 hb9)
            have HO9 := hide (own_belowT ho8 hb9)
            have HWB9 := hide (hw8.trans (hb9.mono hw8.size))
            have HLT9 := hide (fun q (hq : (Value.slice (some (⟨b3, o3, none⟩ : Addr)) nl c7).ownBlock = some q) => (ho8.lt q hq).2)
            have HKN := hide (show k2 ≤ 1000 by have h1 := HCM2.out.cnt; have h2 := HK2.out; have h3 := HN.out; omega)
            have HW9 := hide hW9
            clear hW9 hb9 hbs8 hos8 ho8 hw8
            go_upto_region 15 with (first
              | (at_builtin
                 rw [← HW9.out]
                 refine wpList_append_any _ rfl (.tmp 71) (.tmp 73) _ rfl W1.heap.size 3 i0 _ 1 8 Try.underlying23 hi0 hz0 hz1 hz2 rfl (by omega) (.slice A2 k2 c2) k2 _ rfl HOS9.out (W8.heap.size + 1) (some ⟨W8.heap.size, 0, none⟩) 1 1 [.int .i64 (yn : Int)] rfl ?rd ?on ?b1 ?b2 ?sz ?_
                 case rd => exact ⟨rfl, fun _ => ⟨_, rfl, Nat.lt_succ_self _, fun q u hu => by rw [Addr.add_lit, Nat.zero_add, HC9.out.cell q]; simpa using hu⟩⟩
                 case on => (intro u hu; simp at hu; subst hu; rfl)
                 case b1 => (have := HKN.out; simp only [maxLen]; omega)
                 case b2 => (have := HKN.out; omega)
                 case sz => exact HWB9.out.size
                 intro v10 w10 hown10 hg10 hat10
                 have HS10 := hide (HS9.out.grown hg10 (fun e => own_blk_ne HOS9.out HS9.out (by decide) e.symm))
                 have HO10 := hide (own_grT HO9.out hg10 (fun q hq e => HDJ2.out q e.symm hq))
                 have HWB10 := hide (HWB9.out.grown hg10 HWB9.out.size (fun q hq => (HOS9.out.lt q hq).1))
                 have HOS10 := hide (show w10.ownsRow W1.heap.size 3 1 v10 (k2 + 1) ((st2 ++ [yn]).map (fun q : Nat => iI (q : Int))) by rw [List.map_append]; exact hown10)
                 have HDJ10 := hide (fun q (hq : v10.ownBlock = some q) => show (Value.slice (some (⟨b3, o3, none⟩ : Addr)) nl c7).ownBlock ≠ some q from by
                   rcases hat10 with e | e
                   · exact HDJ2.out q (e.symm.trans hq)
                   · intro e2
                     have e3 : W9.heap.size = q := by injection e.symm.trans hq
                     have := HLT9.out q e2
                     have := HZ9.out
                     omega)
                 obtain ⟨A10, c10, rfl⟩ := own_formT hown10
                 clear hown10 hg10 hat10))
            have HK10 := hide (show k2 + 1 = (st2 ++ [yn]).length by rw [List.length_append, ← HK2.out]; rfl)
            go_wp2_with fail
            go_roundw
            case rel => exact ⟨t + 1, k2 + 1, A10, c10, _, st2 ++ [yn], by omega, rfl, by simp, HK10, HCN, HS10, HOS10, HO10, HDJ10, HWB10⟩
            case measure => simp [intOf]; omega
        · have t1 : ¬ (t : Int) < (nl : Int) := by omega
          have HCN := hide (HCM2.out.done (by have := HNL.out; omega) (fun y hy => (HEG.out y).1 hy))
          have HLS := hide (show st2.length + 2 * cntU n f2 < gk by rw [← HM.out]; exact HCM2.out.less)
          go_wp2_with fail
          go_roundg (st2.length + 2 * cntU n f2)
          case rel => exact ⟨k2, A2, c2, f2, st2, rfl, HK2, hide rfl, HCN, HBS2, HOS2, HW2⟩
          case measure => exact HLS.out
    · have hk : k = 0 := by omega
      subst hk
      have hst : st = [] := List.eq_nil_of_length_eq_zero HK.out.symm
      subst hst
      have HFI := hide (fun q (hq : q < n) => HCS.out.final HN0.out (fun q y he => HED.out q y he) hq)
      go_wp2_with fail
      go_ret
      exact ⟨gs, n, f, rfl, HN.out.1, Nat.le_trans HB1.out.size HGS.out, HBS.out, HB1.out.trans (HWR.out.mono HB1.out.size), HFI.out⟩
end Go.Proofs.Ytaaadbaakhjkcaa
