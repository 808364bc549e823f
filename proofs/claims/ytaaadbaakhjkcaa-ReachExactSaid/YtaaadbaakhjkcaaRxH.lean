/- The instructions at which blocks begin (the reference's Starts); conditions: the func is in memory, its ways inside. -/
import Derived.Test.YtaaadbaakhjkcaaRxG
namespace Go.Proofs.Ytaaadbaakhjkcaa
open Go.RowKit Go.WideShapes Go.ChangeShapes
set_option linter.unusedVariables false
set_option linter.unusedSimpArgs false
set_option maxRecDepth 100000

/-- Where blocks begin, before the k-th instruction. -/
def begsN (code : List IV) (k : Nat) : List Int := ((List.range k).filter (begU code code.length)).map (fun q : Nat => (q : Int))
theorem begsN_len (code : List IV) (k : Nat) : (begsN code k).length ≤ k := by
  unfold begsN
  rw [List.length_map]
  exact Nat.le_trans (List.length_filter_le _ _) (by simp)
theorem begsN_yes {code : List IV} {k : Nat} (h : begU code code.length k = true) : begsN code (k + 1) = begsN code k ++ [(k : Int)] := by
  unfold begsN
  rw [List.range_succ, List.filter_append, List.map_append]
  simp [h]
theorem begsN_no {code : List IV} {k : Nat} (h : begU code code.length k = false) : begsN code (k + 1) = begsN code k := by
  unfold begsN
  rw [List.range_succ, List.filter_append, List.map_append]
  simp [h]
theorem begI_lead {x : Ins} (h : endsB x.op = true ∨ x.op = 20) (pc q : Nat) : begI x pc q = (decide ((q : Int) ∈ dest x (pc : Int)) || q == pc + 1) := by
  unfold begI
  by_cases h1 : x.op = 19 ∨ x.op = 20 ∨ x.op = 37
  · rw [if_pos h1]
    simp only [nextI_mem]
  · rw [if_neg h1]
    have h2 : x.op = 23 ∨ x.op = 26 := by
      rcases h with h | h
      · simp [endsB] at h
        omega
      · omega
    rw [if_pos h2]
    have h3 : dest x (pc : Int) = [] := by
      unfold dest
      rw [if_neg (by omega), if_neg (by omega), if_neg (by omega), if_pos h2]
    rw [h3]
    simp
theorem begI_not {x : Ins} (h : endsB x.op = false) (h2 : ¬ x.op = 20) (pc q : Nat) : begI x pc q = false := by
  unfold begI
  have h3 : ¬ x.op = 19 ∧ ¬ x.op = 37 ∧ ¬ x.op = 23 ∧ ¬ x.op = 26 := by
    simp [endsB] at h
    omega
  rw [if_neg (by omega), if_neg (by omega)]
set_option maxHeartbeats 16000000 in
theorem starts_any (p : Pr) (hs : List Bool) (code : List IV) (ns : Nat) (w : World) (h : PrOk w p hs code ns) (hl : ∀ x ∈ code, x.i.arms.length ≤ 100 ∧ x.i.args.length ≤ 100) (hn : code.length ≤ 1000) (hpos : 0 < code.length)
    (hnx : ∀ (q : Nat) (x : IV), code[q]? = some x → ∀ y ∈ nextI x.i (q : Int), 0 ≤ y ∧ y < (code.length : Int)) :
    Calls Try.prog 48 #[p.val] w (RowP w (begsN code code.length)) := by
  obtain ⟨i0, hi0, hz0, hz1, hz2⟩ := info_parts intInfoT
  obtain ⟨gp, hgp⟩ : ∃ gp, gp = w.heap.size := ⟨_, rfl⟩
  obtain ⟨W1, hW1⟩ : ∃ W1, W1 = w.alloc (.cells p.arr 29) := ⟨_, rfl⟩
  have hb1 : Below w.heap.size w W1 := by rw [hW1]; exact (Below.refl _ _).alloc (Nat.le_refl _) _
  have HBP := hide (show Blk W1 gp 29 p.arr by rw [hW1, hgp]; exact Blk.new _ _ _)
  have HOK := hide (h.below hb1 (Nat.le_refl _))
  obtain ⟨Ac, cc, hcv⟩ := h.cv.form
  obtain ⟨n, hnn⟩ : ∃ n, n = code.length := ⟨_, rfl⟩
  rw [← hnn] at hcv hn hnx hpos
  have HCV := hide hcv
  obtain ⟨N1, hN1⟩ : ∃ N1 : Nat, N1 = n + 1 := ⟨_, rfl⟩
  have q1 : IntKind.i64.wrap ((n : Int) + 1) = (N1 : Int) := by rw [IntWalk.i64_in _ (by omega)]; omega
  have hmk := make_bools N1 (by omega)
  obtain ⟨Z, hZ⟩ : ∃ Z, Z = bc N1 (fun _ => false) := ⟨_, rfl⟩
  rw [← hZ] at hmk
  obtain ⟨gb, hgb⟩ : ∃ gb, gb = W1.heap.size := ⟨_, rfl⟩
  obtain ⟨W2, hW2⟩ : ∃ W2, W2 = W1.alloc (.cells Z 4) := ⟨_, rfl⟩
  have HB2 := hide (show Below gb W1 W2 by rw [hW2, hgb]; exact (Below.refl _ _).alloc (Nat.le_refl _) _)
  have HBL := hide (show Blk W2 gb 4 Z by rw [hW2, hgb]; exact Blk.new _ _ _)
  have HY6 := hide (show ∀ wr, Below gb W1 wr → wr.cell? ⟨gp, 6, none⟩ = some (.slice Ac n cc) from fun wr hw => by
    have h := (HBP.out.below hw (by rw [hgb]; exact HBP.out.lt)).cell 6
    rw [h, ← hcv]
    rfl)
  have y6 := HY6.out W1 (Below.refl _ _)
  have HIC := hide (show ∀ wr, Below gb W1 wr → InssAt wr (.slice Ac n cc) code from fun wr hw => by
    have h := HOK.out.cv
    rw [hcv] at h
    exact h.below hw (by rw [hgb]; exact Nat.le_refl _))
  have HIO := hide (show ∀ wr, Below gb W1 wr → ∀ x ∈ code, InsOk wr x.i x.av x.rv from fun wr hw x hx => (HOK.out.ok x hx).below hw (by rw [hgb]; exact Nat.le_refl _))
  have HL := hide hl
  have HNX := hide hnx
  have HN := hide (And.intro hnn (And.intro hn (And.intro hN1 hpos)))
  have HZ := hide hZ
  have HGB := hide hgb
  have HGP := hide hgp
  have HW1 := hide hW1
  have HW2 := hide hW2
  have HB1 := hide hb1
  have HZ0 := hide (show Z[0]? = some (.bool false) by rw [hZ]; exact bc_at _ (by omega))
  have HN0 := hide (show (0 : Int) < (N1 : Int) by omega)
  have HGE := hide (Nat.le_of_eq hgb)
  have HWG := hide (show w.heap.size ≤ gb by rw [hgb]; exact hb1.size)
  obtain ⟨PV, hPV⟩ : ∃ PV, PV = p.val := ⟨_, rfl⟩
  have HPV := hide (show PV = .agg p.arr from hPV)
  have HPV2 := hide (show PV = p.val from hPV)
  rw [← hPV]
  clear h hl hn hnx hnn hN1 hZ hgb hgp hW1 hW2 hb1 hcv hpos hPV
  go_enter Try.func48, Try.ntmps48
  go_upto_region 1 with (fail)
  rw [HPV.out, ← HW1.out, ← HGP.out, ← HPV.out]
  go_upto_region 3 with (fail)
  rw [← HGB.out, ← HW2.out]
  clear q1 hmk y6
  have y0 : W2.cell? ⟨gb, 0, none⟩ = some (.bool false) := (HBL.out.cell 0).trans HZ0.out
  have f0 := HBL.out.frozen 0
  have n0 : (0 : Int) < (N1 : Int) := HN0.out
  obtain ⟨W3, hW3⟩ : ∃ W3, W3 = W2.setCell ⟨gb, 0, none⟩ (.bool true) := ⟨_, rfl⟩
  have HB3 := hide (show Below gb W1 W3 by rw [hW3]; exact HB2.out.setCell (p := ⟨gb, 0, none⟩) (Nat.le_refl _) _)
  have HBL3 := hide (show Blk W3 gb 4 (bc N1 (begU code 0)) by
    have h := HBL.out.set_ 0 (.bool true)
    rw [HZ.out, bc_set] at h
    rw [hW3]
    rw [bc_congr (f' := begU code 0) (fun q _ => by rw [begU_zero]; simp)] at h
    exact h)
  have HW3 := hide hW3
  clear hW3
  go_upto_region 4 with (fail)
  rw [← HW3.out]
  clear y0 f0 n0
  go_upto_region 5 with (fail)
  go_loopw [5] (fun jj wr => ∃ j : Nat, j ≤ n ∧ jj = .int .i64 j ∧ Hid (Blk wr gb 4 (bc N1 (begU code j))) ∧ Hid (Below gb W1 wr)) (fun jj _ => n - (intOf jj).toNat)
  case atStart => exact ⟨0, Nat.zero_le _, rfl, HBL3, HB3⟩
  case round =>
    obtain ⟨j, hj, rfl, HBJ, HWR⟩ := hrel
    by_cases hlt : j < n
    · have j1 : (j : Int) < (n : Int) := by omega
      have j2 : (0 : Int) ≤ (j : Int) := by omega
      obtain ⟨jn, hjn⟩ : ∃ jn, jn = j + 1 := ⟨_, rfl⟩
      have q5 : IntKind.i64.wrap ((j : Int) + 1) = (jn : Int) := by rw [IntWalk.i64_in _ (by have := HN.out; omega)]; omega
      have y6 := HY6.out wr HWR.out
      obtain ⟨b, of, x, rfl, hbl, hx, hcells⟩ := RowAt.at_ (HIC.out wr HWR.out) (i := j) (by have := HN.out; omega)
      have HX := hide hx
      have hxm := List.mem_of_getElem? hx
      have hix := HIO.out wr HWR.out x hxm
      have HIX := hide (fun ww (hw : Below gb W1 ww) => HIO.out ww hw x hxm)
      have HLX := hide (HL.out x hxm)
      have HCE := hide (show wr.rangeAt b (of + j * 22) (IV.enc x) from hcells)
      obtain ⟨V, hV⟩ : ∃ V, V = Ins.val x.i x.av x.rv := ⟨_, rfl⟩
      have HVI := hide hV
      have HON := hide (ins_one hix)
      obtain ⟨gx, hgx⟩ : ∃ gx, gx = wr.heap.size := ⟨_, rfl⟩
      have HGX := hide hgx
      have HBS := hide (begU_succ hx)
      have HJN := hide hjn
      have HLT := hide hlt
      clear hx hcells hV hix hgx hxm hjn hlt hj
      go_upto_region 8 with (first
        | (refine wpList_load_midW 45 (.tmp 27) b (of + j * 22) (IV.enc x) V HCE.out HVI.out Try.underlying45 rfl ins_size rfl (by kernel_rfl) rfl ?_)
        | (refine wpList_store_new 45 (.tmp 6) (.tmp 28) (x.i.arr x.av x.rv) V HVI.out ins_size HON.out rfl rfl rfl rfl rfl rfl ?_
           intro W4 hbx hb4
           rw [← HGX.out] at hbx
           have HBX := hide hbx
           have HB4 := hide hb4
           clear hbx hb4))
      rw [← HGX.out]
      have HBW := hide (HWR.out.trans (HB4.out.mono (Nat.le_trans HGE.out HWR.out.size)))
      have HBJ4 := hide (HBJ.out.below HB4.out HBJ.out.lt)
      have HGL := hide (show gb < gx by rw [HGX.out]; exact HBJ.out.lt)
      clear y6 hbl
      obtain ⟨op, hop⟩ : ∃ op, op = x.i.op := ⟨_, rfl⟩
      have HOP := hide hop
      obtain ⟨eb, heb⟩ : ∃ eb, eb = endsB x.i.op := ⟨_, rfl⟩
      have HEB := hide heb
      have HEC := hide (rends_any x.i x.av x.rv W4)
      rw [← (show V = Ins.val x.i x.av x.rv from HVI.out), ← heb] at HEC
      clear hop heb
      go_wp2_with (first
        | (refine wpList_load_blk (.tmp 6) HBX.out HVI.out Try.underlying45 rfl ins_size rfl rfl rfl ?_)
        | (refine wp_load_blk (.tmp 6) HBX.out HVI.out Try.underlying45 rfl ins_size rfl rfl ?_))
      refine HEC.out.mono ?_
      rintro e w5 ⟨rfl, hb5⟩
      have HB5 := hide (HBW.out.trans (hb5.mono (Nat.le_trans HGE.out HBW.out.size)))
      have HBX5 := hide (HBX.out.below hb5 HBX.out.lt)
      have HBJ5 := hide (HBJ4.out.below hb5 HBJ4.out.lt)
      have z0 : w5.cell? ⟨gx, 0, none⟩ = some (.int .i64 op) := by rw [HOP.out]; exact HBX5.out.cell 0
      clear hb5
      cases hc : eb with
      | true =>
        have HLD := hide (begI_lead (x := x.i) (.inl (by rw [← HEB.out]; exact hc)))
        subst hc
        have hgl : gb < W1.heap.size + 1 := by have := HGB.out; omega
        have yp : w5.cell? ⟨gb, jn, none⟩ = some (.bool (begU code j jn)) := (HBJ5.out.cell jn).trans (bc_at _ (by have := HN.out; have := HJN.out; have := HLT.out; omega))
        have fp := HBJ5.out.frozen jn
        have k1 : (jn : Int) < (N1 : Int) := by have := HN.out; have := HJN.out; have := HLT.out; omega
        have k3 : (0 : Int) ≤ (jn : Int) := by omega
        obtain ⟨W6, hW6⟩ : ∃ W6, W6 = w5.setCell ⟨gb, jn, none⟩ (.bool true) := ⟨_, rfl⟩
        have HB6 := hide (show Below gb W1 W6 by rw [hW6]; exact HB5.out.setCell (p := ⟨gb, jn, none⟩) (Nat.le_refl _) _)
        have HBJ6 := hide (show Blk W6 gb 4 (bc N1 (fun q => begU code j q || q == jn)) by
          have h := HBJ5.out.set_ jn (.bool true)
          rw [bc_set] at h
          rw [hW6]
          exact h)
        have HBX6 := hide (show Blk W6 gx 45 (x.i.arr x.av x.rv) by rw [hW6]; exact HBX5.out.far (p := ⟨gb, jn, none⟩) (show gx ≠ gb by have := HGL.out; omega) _)
        have HW6 := hide hW6
        have HNC := hide (rnext_any x.i x.av x.rv (j : Int) W6 (HIX.out W6 HB6.out) (by have := HLX.out; omega))
        rw [← (show V = Ins.val x.i x.av x.rv from HVI.out)] at HNC
        clear hW6 hgl
        go_upto_region 10 with (fail)
        rw [← HW6.out]
        clear yp fp k1 k3 z0
        go_wp2_with (first
          | (refine wpList_load_blk (.tmp 6) HBX6.out HVI.out Try.underlying45 rfl ins_size rfl rfl rfl ?_)
          | (refine wp_load_blk (.tmp 6) HBX6.out HVI.out Try.underlying45 rfl ins_size rfl rfl ?_))
        refine HNC.out.mono ?_
        rintro e w7 ⟨v7, L, rfl, hown7, hb7, hmem, hlen⟩
        obtain ⟨nl, hnl⟩ : ∃ nl, nl = L.length := ⟨_, rfl⟩
        rw [← hnl] at hown7
        obtain ⟨A7, c7, rfl⟩ := own_formT hown7
        have HO7 := hide hown7
        have HB7 := hide (HB6.out.trans (hb7.mono (Nat.le_trans HGE.out HB6.out.size)))
        have HBJ7 := hide (show Blk w7 gb 4 (bc N1 (fun q => (begU code j q || q == jn) || decide ((q : Int) ∈ L.take 0))) by
          rw [bc_congr (f' := fun q => begU code j q || q == jn) (fun q _ => by simp)]
          exact HBJ6.out.below hb7 HBJ6.out.lt)
        have HNL := hide (show nl = L.length ∧ L.length ≤ 1000 from ⟨hnl, hlen⟩)
        have HME := hide hmem
        clear hown7 hb7 hnl hmem hlen
        go_upto_region 12 with (fail)
        go_loopw [8] (fun tt wr => ∃ t : Nat, t ≤ nl ∧ tt = .int .i64 t ∧ Hid (Blk wr gb 4 (bc N1 (fun q => (begU code j q || q == jn) || decide ((q : Int) ∈ L.take t)))) ∧ Hid (wr.ownsRow W6.heap.size 3 1 (.slice A7 nl c7) nl (L.map iI)) ∧ Hid (Below gb W1 wr)) (fun tt _ => nl - (intOf tt).toNat)
        case atStart => exact ⟨0, Nat.zero_le _, rfl, HBJ7, HO7, HB7⟩
        case round =>
          obtain ⟨t, ht, rfl, HBT, HOT, HWT⟩ := hrel
          by_cases htn : t < nl
          · have t1 : (t : Int) < (nl : Int) := by omega
            have t2 : (0 : Int) ≤ (t : Int) := by omega
            have q6 : IntKind.i64.wrap ((t : Int) + 1) = (t : Int) + 1 := IntWalk.i64_in _ (by have := HNL.out; omega)
            obtain ⟨b3, o3, y, rfl, hbl3, hy, y3⟩ := (IntsAt.own (l := L) (by rw [← HNL.out.1]; exact HOT.out) : IntsAt wr (.slice A7 L.length c7) L).at_ (k := t) (by rw [← HNL.out.1]; exact htn)
            have hyy := HNX.out j x HX.out y (nextI_mem.2 ((HME.out y).1 (List.mem_of_getElem? hy)))
            obtain ⟨yn, rfl⟩ : ∃ yn : Nat, y = (yn : Int) := ⟨y.toNat, by omega⟩
            have y4 : wr.cell? ⟨gb, yn, none⟩ = some (.bool ((begU code j yn || yn == jn) || decide ((yn : Int) ∈ L.take t))) := (HBT.out.cell yn).trans (bc_at _ (by have := HN.out; omega))
            obtain ⟨bv, y5⟩ : ∃ bv, wr.cell? ⟨gb, yn, none⟩ = some bv := ⟨_, y4⟩
            have f5 := HBT.out.frozen yn
            have k1 : (yn : Int) < (N1 : Int) := by have := HN.out; omega
            have k2 : (0 : Int) ≤ (yn : Int) := by omega
            have HBT2 := hide (show Blk (wr.setCell ⟨gb, yn, none⟩ (.bool true)) gb 4 (bc N1 (fun q => (begU code j q || q == jn) || decide ((q : Int) ∈ L.take (t + 1)))) by
              have h := HBT.out.set_ yn (.bool true)
              rw [bc_set] at h
              rw [bc_congr (f' := fun q => (begU code j q || q == jn) || decide ((q : Int) ∈ L.take (t + 1))) (fun q _ => by
                rw [List.take_add_one, hy]
                simp only [Option.toList_some, List.mem_append, List.mem_singleton]
                have e : (q == yn) = decide ((q : Int) = (yn : Int)) := by
                  by_cases e : q = yn
                  · subst e; simp
                  · rw [decide_eq_false (by omega)]; simp [e]
                rw [e, Bool.or_assoc, Bool.decide_or])] at h
              exact h)
            have HOT2 := hide (ownsRow_setCell_other (a := ⟨gb, yn, none⟩) HOT.out (own_blk_ne HOT.out HBT.out (by decide)) (.bool true))
            have HWT2 := hide (show Below gb W1 (wr.setCell ⟨gb, yn, none⟩ (.bool true)) from HWT.out.setCell (p := ⟨gb, yn, none⟩) (Nat.le_refl _) _)
            clear y4 hy hyy hbl3
            go_wp2_with fail
            go_roundw
            case rel => exact ⟨t + 1, by omega, by simp, HBT2, HOT2, HWT2⟩
            case measure => simp [intOf]; omega
          · have t1 : ¬ (t : Int) < (nl : Int) := by omega
            have HBN := hide (show Blk wr gb 4 (bc N1 (begU code (j + 1))) by
              have h := HBT.out
              rw [List.take_of_length_le (by have := HNL.out; omega)] at h
              rw [bc_congr (f' := begU code (j + 1)) (fun q _ => by
                rw [HBS.out q, HLD.out, Bool.or_assoc]
                congr 1
                rw [Bool.or_comm, HJN.out]
                congr 1
                exact decide_eq_decide.2 (HME.out (q : Int)))] at h
              exact h)
            clear htn
            go_wp2_with fail
            go_roundw
            case rel => exact ⟨j + 1, by have := HLT.out; omega, by rw [HJN.out], HBN, HWT⟩
            case measure => rw [HJN.out]; simp [intOf]; have := HLT.out; omega
      | false =>
        by_cases o20 : op = 20
        · have HLD := hide (begI_lead (x := x.i) (.inr (by rw [← HOP.out]; exact o20)))
          subst hc
          subst o20
          have hgl : gb < W1.heap.size + 1 := by have := HGB.out; omega
          have yp : w5.cell? ⟨gb, jn, none⟩ = some (.bool (begU code j jn)) := (HBJ5.out.cell jn).trans (bc_at _ (by have := HN.out; have := HJN.out; have := HLT.out; omega))
          have fp := HBJ5.out.frozen jn
          have k1 : (jn : Int) < (N1 : Int) := by have := HN.out; have := HJN.out; have := HLT.out; omega
          have k3 : (0 : Int) ≤ (jn : Int) := by omega
          obtain ⟨W6, hW6⟩ : ∃ W6, W6 = w5.setCell ⟨gb, jn, none⟩ (.bool true) := ⟨_, rfl⟩
          have HB6 := hide (show Below gb W1 W6 by rw [hW6]; exact HB5.out.setCell (p := ⟨gb, jn, none⟩) (Nat.le_refl _) _)
          have HBJ6 := hide (show Blk W6 gb 4 (bc N1 (fun q => begU code j q || q == jn)) by
            have h := HBJ5.out.set_ jn (.bool true)
            rw [bc_set] at h
            rw [hW6]
            exact h)
          have HBX6 := hide (show Blk W6 gx 45 (x.i.arr x.av x.rv) by rw [hW6]; exact HBX5.out.far (p := ⟨gb, jn, none⟩) (show gx ≠ gb by have := HGL.out; omega) _)
          have HW6 := hide hW6
          have HNC := hide (rnext_any x.i x.av x.rv (j : Int) W6 (HIX.out W6 HB6.out) (by have := HLX.out; omega))
          rw [← (show V = Ins.val x.i x.av x.rv from HVI.out)] at HNC
          clear hW6 hgl
          go_upto_region 10 with (fail)
          rw [← HW6.out]
          clear yp fp k1 k3 z0
          go_wp2_with (first
            | (refine wpList_load_blk (.tmp 6) HBX6.out HVI.out Try.underlying45 rfl ins_size rfl rfl rfl ?_)
            | (refine wp_load_blk (.tmp 6) HBX6.out HVI.out Try.underlying45 rfl ins_size rfl rfl ?_))
          refine HNC.out.mono ?_
          rintro e w7 ⟨v7, L, rfl, hown7, hb7, hmem, hlen⟩
          obtain ⟨nl, hnl⟩ : ∃ nl, nl = L.length := ⟨_, rfl⟩
          rw [← hnl] at hown7
          obtain ⟨A7, c7, rfl⟩ := own_formT hown7
          have HO7 := hide hown7
          have HB7 := hide (HB6.out.trans (hb7.mono (Nat.le_trans HGE.out HB6.out.size)))
          have HBJ7 := hide (show Blk w7 gb 4 (bc N1 (fun q => (begU code j q || q == jn) || decide ((q : Int) ∈ L.take 0))) by
            rw [bc_congr (f' := fun q => begU code j q || q == jn) (fun q _ => by simp)]
            exact HBJ6.out.below hb7 HBJ6.out.lt)
          have HNL := hide (show nl = L.length ∧ L.length ≤ 1000 from ⟨hnl, hlen⟩)
          have HME := hide hmem
          clear hown7 hb7 hnl hmem hlen
          go_upto_region 12 with (fail)
          go_loopw [8] (fun tt wr => ∃ t : Nat, t ≤ nl ∧ tt = .int .i64 t ∧ Hid (Blk wr gb 4 (bc N1 (fun q => (begU code j q || q == jn) || decide ((q : Int) ∈ L.take t)))) ∧ Hid (wr.ownsRow W6.heap.size 3 1 (.slice A7 nl c7) nl (L.map iI)) ∧ Hid (Below gb W1 wr)) (fun tt _ => nl - (intOf tt).toNat)
          case atStart => exact ⟨0, Nat.zero_le _, rfl, HBJ7, HO7, HB7⟩
          case round =>
            obtain ⟨t, ht, rfl, HBT, HOT, HWT⟩ := hrel
            by_cases htn : t < nl
            · have t1 : (t : Int) < (nl : Int) := by omega
              have t2 : (0 : Int) ≤ (t : Int) := by omega
              have q6 : IntKind.i64.wrap ((t : Int) + 1) = (t : Int) + 1 := IntWalk.i64_in _ (by have := HNL.out; omega)
              obtain ⟨b3, o3, y, rfl, hbl3, hy, y3⟩ := (IntsAt.own (l := L) (by rw [← HNL.out.1]; exact HOT.out) : IntsAt wr (.slice A7 L.length c7) L).at_ (k := t) (by rw [← HNL.out.1]; exact htn)
              have hyy := HNX.out j x HX.out y (nextI_mem.2 ((HME.out y).1 (List.mem_of_getElem? hy)))
              obtain ⟨yn, rfl⟩ : ∃ yn : Nat, y = (yn : Int) := ⟨y.toNat, by omega⟩
              have y4 : wr.cell? ⟨gb, yn, none⟩ = some (.bool ((begU code j yn || yn == jn) || decide ((yn : Int) ∈ L.take t))) := (HBT.out.cell yn).trans (bc_at _ (by have := HN.out; omega))
              obtain ⟨bv, y5⟩ : ∃ bv, wr.cell? ⟨gb, yn, none⟩ = some bv := ⟨_, y4⟩
              have f5 := HBT.out.frozen yn
              have k1 : (yn : Int) < (N1 : Int) := by have := HN.out; omega
              have k2 : (0 : Int) ≤ (yn : Int) := by omega
              have HBT2 := hide (show Blk (wr.setCell ⟨gb, yn, none⟩ (.bool true)) gb 4 (bc N1 (fun q => (begU code j q || q == jn) || decide ((q : Int) ∈ L.take (t + 1)))) by
                have h := HBT.out.set_ yn (.bool true)
                rw [bc_set] at h
                rw [bc_congr (f' := fun q => (begU code j q || q == jn) || decide ((q : Int) ∈ L.take (t + 1))) (fun q _ => by
                  rw [List.take_add_one, hy]
                  simp only [Option.toList_some, List.mem_append, List.mem_singleton]
                  have e : (q == yn) = decide ((q : Int) = (yn : Int)) := by
                    by_cases e : q = yn
                    · subst e; simp
                    · rw [decide_eq_false (by omega)]; simp [e]
                  rw [e, Bool.or_assoc, Bool.decide_or])] at h
                exact h)
              have HOT2 := hide (ownsRow_setCell_other (a := ⟨gb, yn, none⟩) HOT.out (own_blk_ne HOT.out HBT.out (by decide)) (.bool true))
              have HWT2 := hide (show Below gb W1 (wr.setCell ⟨gb, yn, none⟩ (.bool true)) from HWT.out.setCell (p := ⟨gb, yn, none⟩) (Nat.le_refl _) _)
              clear y4 hy hyy hbl3
              go_wp2_with fail
              go_roundw
              case rel => exact ⟨t + 1, by omega, by simp, HBT2, HOT2, HWT2⟩
              case measure => simp [intOf]; omega
            · have t1 : ¬ (t : Int) < (nl : Int) := by omega
              have HBN := hide (show Blk wr gb 4 (bc N1 (begU code (j + 1))) by
                have h := HBT.out
                rw [List.take_of_length_le (by have := HNL.out; omega)] at h
                rw [bc_congr (f' := begU code (j + 1)) (fun q _ => by
                  rw [HBS.out q, HLD.out, Bool.or_assoc]
                  congr 1
                  rw [Bool.or_comm, HJN.out]
                  congr 1
                  exact decide_eq_decide.2 (HME.out (q : Int)))] at h
                exact h)
              clear htn
              go_wp2_with fail
              go_roundw
              case rel => exact ⟨j + 1, by have := HLT.out; omega, by rw [HJN.out], HBN, HWT⟩
              case measure => rw [HJN.out]; simp [intOf]; have := HLT.out; omega
        · have HLD := hide (begI_not (x := x.i) (by rw [← HEB.out]; exact hc) (by rw [← HOP.out]; exact o20))
          have o2 : (op != 20) = true := by simp [o20]
          have o3 : (op == 20) = false := by simp [o20]
          subst hc
          go_wp2_with fail
          have HBN := hide (show Blk w5 gb 4 (bc N1 (begU code (j + 1))) by
            rw [bc_congr (f' := begU code j) (fun q _ => by rw [HBS.out q, HLD.out, Bool.or_false])]
            exact HBJ5.out)
          go_roundw
          case rel => exact ⟨j + 1, by have := HLT.out; omega, by rw [HJN.out], HBN, HB5⟩
          case measure => rw [HJN.out]; simp [intOf]; have := HLT.out; omega
    · have j1 : ¬ (j : Int) < (n : Int) := by omega
      have hje : j = n := by omega
      subst hje
      obtain ⟨B, hB⟩ : ∃ B, B = wr.heap.size := ⟨_, rfl⟩
      obtain ⟨W8, hW8⟩ : ∃ W8, W8 = wr.alloc (.cells #[] 3) := ⟨_, rfl⟩
      have HO8 := hide (show W8.ownsRow B 3 1 (.slice (some ⟨B, 0, none⟩) 0 0) 0 ((begsN code 0).map iI) from ⟨rfl, .inr ⟨B, 0, #[], rfl, Nat.le_refl _, by rw [hW8, hB]; exact Blk.new _ _ _, Nat.le_refl _, by simp only [maxLen]; omega, rfl, rfl⟩⟩)
      have HB8 := hide (show Below B wr W8 by rw [hW8, hB]; exact (Below.refl _ _).alloc (Nat.le_refl _) _)
      obtain ⟨wz, hwz⟩ : ∃ wz : World, wz = wr := ⟨_, rfl⟩
      have HB := hide (show B ≤ wz.heap.size by rw [hwz]; exact Nat.le_of_eq hB)
      have HWZ := hide (show Below gb W1 wz by rw [hwz]; exact HWR.out)
      have HBZ := hide (show Blk wz gb 4 (bc N1 (begU code j)) by rw [hwz]; exact HBJ.out)
      have HBE := hide (show B = wz.heap.size by rw [hwz]; exact hB)
      have HB8 := hide (show Below B wz W8 by rw [hwz]; exact HB8.out)
      have HW8 := hide (show W8 = wz.alloc (.cells #[] 3) by rw [hwz]; exact hW8)
      rw [← hwz]
      clear hB hW8 hwz hlt hj
      go_upto_region 17 with (fail)
      rw [← HBE.out, ← HW8.out]
      go_loopw [9, 10] (fun ov kv wr => ∃ (k lo : Nat) (A : Option Addr) (c : Nat), k ≤ j ∧ ov = .slice A lo c ∧ kv = .int .i64 (k : Int) ∧ Hid (lo = (begsN code k).length) ∧ Hid (wr.ownsRow B 3 1 (.slice A lo c) lo ((begsN code k).map iI)) ∧ Hid (Below B wz wr)) (fun _ kv _ => j - (intOf kv).toNat)
      case atStart => exact ⟨0, 0, _, 0, Nat.zero_le _, rfl, rfl, hide rfl, HO8, HB8⟩
      case round =>
        obtain ⟨k, lo, A, c, hk, rfl, rfl, HLK, HO, HWY⟩ := hrel
        by_cases hkt : k < j
        · have k1 : (k : Int) < (j : Int) := by omega
          have k2 : (0 : Int) ≤ (k : Int) := by omega
          have k4 : (k : Int) < (N1 : Int) := by have := HN.out; omega
          obtain ⟨kn, hkn⟩ : ∃ kn, kn = k + 1 := ⟨_, rfl⟩
          have q7 : IntKind.i64.wrap ((k : Int) + 1) = (kn : Int) := by rw [IntWalk.i64_in _ (by have := HN.out; omega)]; omega
          obtain ⟨bk, hbk⟩ : ∃ bk, bk = begU code code.length k := ⟨_, rfl⟩
          have yk : wr.cell? ⟨gb, k, none⟩ = some (.bool bk) := by
            have h := ((HBZ.out.below HWY.out (by rw [HBE.out]; exact HBZ.out.lt)).cell k).trans (bc_at (begU code j) (by have := HN.out; omega))
            rw [h, hbk, HN.out.1]
          have HKN := hide hkn
          have HKT := hide hkt
          have HBK := hide hbk
          have HLB := hide (show lo ≤ 1000 by have := begsN_len code k; have := HLK.out; have := HN.out; omega)
          clear hkn hkt hbk hk
          cases hc : bk with
          | true =>
            have HNX2 := hide (begsN_yes (code := code) (k := k) (by rw [← HBK.out]; exact hc))
            subst hc
            obtain ⟨N9W, hN9W⟩ : ∃ W, W = wr.alloc (.cells #[.int .i64 ((k : Int))] 3) := ⟨_, rfl⟩
            have hN9b : Below wr.heap.size wr N9W := by rw [hN9W]; exact (Below.refl _ _).alloc (Nat.le_refl _) _
            have N9O := hide (own_belowT HO.out hN9b)
            have N9B := hide ((HWY.out).trans (hN9b.mono (Nat.le_trans HB.out (HWY.out).size)))
            have N9 := hide (show N9W = wr.alloc (.cells #[.int .i64 ((k : Int))] 3) ∧ Blk N9W wr.heap.size 3 #[.int .i64 ((k : Int))] ∧ B ≤ N9W.heap.size from ⟨hN9W, by rw [hN9W]; exact Blk.new _ _ _, Nat.le_trans HB.out N9B.out.size⟩)
            clear hN9W hN9b
            go_upto_region 20 with (fail)
            go_upto_region 18 with (first
              | (at_builtin
                 rw [← N9.out.1]
                 refine wpList_append_any _ rfl (.tmp 66) (.tmp 68) _ rfl B 3 i0 _ 1 8 Try.underlying23 hi0 hz0 hz1 hz2 rfl (by omega) (.slice A lo c) lo _ rfl N9O.out (wr.heap.size + 1) (some ⟨wr.heap.size, 0, none⟩) 1 1 [.int .i64 ((k : Int))] rfl ?rd ?on ?b1 ?b2 ?sz ?_
                 case rd => exact ⟨rfl, fun _ => ⟨_, rfl, Nat.lt_succ_self _, fun q u hu => by rw [Addr.add_lit, Nat.zero_add, N9.out.2.1.cell q]; simpa using hu⟩⟩
                 case on => (intro u hu; simp at hu; subst hu; rfl)
                 case b1 => (have := HLB.out; simp only [maxLen]; omega)
                 case b2 => (have := HLB.out; omega)
                 case sz => exact N9.out.2.2
                 intro v10 w10 hown10 hg10 hat10
                 have HB10 := hide (N9B.out.grown hg10 (Nat.le_trans HB.out N9B.out.size) (fun q hq => (N9O.out.lt q hq).1))
                 have HO10 := hide (show w10.ownsRow B 3 1 v10 (lo + 1) ((begsN code (k + 1)).map iI) by rw [HNX2.out, List.map_append]; exact hown10)
                 obtain ⟨A10, c10, rfl⟩ := own_formT hown10
                 clear hown10 hg10 hat10))
            clear yk
            go_wp2_with fail
            go_roundw
            case rel => exact ⟨k + 1, lo + 1, A10, c10, by have := HKT.out; omega, rfl, by rw [HKN.out], hide (by rw [HNX2.out, List.length_append, ← HLK.out]; rfl), HO10, HB10⟩
            case measure => rw [HKN.out]; simp [intOf]; have := HKT.out; omega
          | false =>
            have HNX2 := hide (begsN_no (code := code) (k := k) (by rw [← HBK.out]; exact hc))
            subst hc
            go_wp2_with fail
            go_roundw
            case rel => exact ⟨k + 1, lo, A, c, by have := HKT.out; omega, rfl, by rw [HKN.out], by rw [HNX2.out]; exact HLK, by rw [HNX2.out]; exact HO, HWY⟩
            case measure => rw [HKN.out]; simp [intOf]; have := HKT.out; omega
        · have k1 : ¬ (k : Int) < (j : Int) := by omega
          have HKE := hide (show k = code.length by have := HN.out.1; omega)
          clear hkt hk
          go_wp2_with fail
          go_ret
          refine ⟨_, rfl, ?_, HB1.out.trans ((HWZ.out.mono HWG.out).trans (HWY.out.mono (by have := HBE.out; have := HWZ.out.size; have := HWG.out; have := HGB.out; omega)))⟩
          have h1 := HLK.out
          have h2 := own_monoT HO.out (B' := w.heap.size) (by have := HBE.out; have := HWZ.out.size; have := HWG.out; have := HGB.out; omega)
          rw [HKE.out] at h1 h2
          rw [← h1]
          exact h2
end Go.Proofs.Ytaaadbaakhjkcaa
