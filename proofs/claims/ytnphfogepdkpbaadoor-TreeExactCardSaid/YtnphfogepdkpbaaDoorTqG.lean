/- The law TreeExact: what a node is made of, and how deep it is, is the document's; conditions: the list is in memory, the library's powers are laid. -/
import Derived.Test.YtnphfogepdkpbaaDoorTqB
import Derived.Test.YtnphfogepdkpbaaDoorTqF
namespace Go.Proofs.YtnphfogepdkpbaaDoor
open Go.RowKit Go.WideShapes Go.ChangeShapes
set_option linter.unusedVariables false
set_option linter.unusedSimpArgs false
set_option maxRecDepth 100000

theorem walkOf_le (L : List Nd) (i : Int) : (walkOf L i).length ≤ 1000000 := by
  unfold walkOf
  split
  · omega
  · simp
theorem refdepth_all (av : Value) (L : List Nd) (i : Int) (w : World) (h : NodesAt w av L) (hL : OkL L) (hll : L.length ≤ 60) (hk : ∀ n ∈ L, n.kids.length ≤ 20) :
    Calls Tryd.prog 17 #[av, .int .i64 i] w (IntP w (D L i.toNat)) := by
  by_cases hi : 1 ≤ i ∧ i ≤ (L.length : Int)
  · have h0 := refdepth_any av L i.toNat w h hL (by omega) (by omega) hll hk
    rw [show ((i.toNat : Nat) : Int) = i by omega] at h0
    exact h0
  · rw [D_out (i := i.toNat) (by omega)]
    exact refdepth_out av L i w h hi
set_option maxHeartbeats 16000000 in
theorem exact_walk (av : Value) (l : List Nd) (a : Int) (w : World) (h : NodesAt w av l) (hpw : powT w) :
    Calls Tryd.prog 3 #[av, .int .i64 a] w (BoolP w true) := by
  have HAW := hide (awake_any w hpw)
  have HH := hide h
  have HPW := hide hpw
  clear h hpw
  cases hg : greatB l with
  | true =>
    have HG := hide hg
    clear hg
    go_enter Tryd.func3, Tryd.ntmps3
    go_wp2_with fail
    refine HAW.out.mono ?_
    rintro e w1 ⟨rfl, hb1⟩
    have HGR := hide (great_any av l w1 (HH.out.below hb1 (Nat.le_refl _)))
    rw [HG.out] at HGR
    go_wp2_with fail
    refine HGR.out.mono ?_
    rintro e w2 ⟨rfl, rfl⟩
    go_wp2_with fail
    go_ret
    exact ⟨rfl, hb1⟩
  | false =>
    have HG := hide hg
    have hgf := great_false hg
    have HGF := hide hgf
    clear hg hgf
    go_enter Tryd.func3, Tryd.ntmps3
    go_wp2_with fail
    refine HAW.out.mono ?_
    rintro e w1 ⟨rfl, hb1⟩
    have h1 := HH.out.below hb1 (Nat.le_refl _)
    have HGR := hide (great_any av l w1 h1)
    rw [HG.out] at HGR
    have HLD := hide (laid_any av l w1 h1 HGF.out.1 (fun n hn => (HGF.out.2 n hn).1))
    have HB1 := hide hb1
    clear h1 hb1
    go_wp2_with fail
    refine HGR.out.mono ?_
    rintro e w' ⟨rfl, rfl⟩
    go_wp2_with fail
    refine HLD.out.mono ?_
    rintro e w2 ⟨tb, v, rows, nv, rfl, hT2, hnd, hN2, hb2⟩
    obtain ⟨L, hL, hT, hN, hkb, htx, hll, hk20⟩ := laid_facts HGF.out hT2 hnd hN2
    have HT := hide hT
    have HN := hide hN
    have HKB := hide hkb
    have HTX := hide htx
    have HLL := hide hll
    have HK20 := hide hk20
    have HB2 := hide (HB1.out.trans (hb2.mono HB1.out.size))
    have HP2 := hide (HPW.out.below HB2.out)
    have HOK := hide hT.ok
    obtain ⟨An, cn, rfl⟩ := hN.form
    obtain ⟨m, hm⟩ : ∃ m, m = L.length := ⟨_, rfl⟩
    rw [← hm] at HN ⊢
    have HM := hide hm
    clear hT2 hnd hN2 hb2 hT hL hkb htx hll hm hN hk20
    have HLN := hide (len_any tb L w2 HT.out)
    rw [← HM.out] at HLN
    go_wp2_with fail
    refine HLN.out.mono ?_
    rintro e w' ⟨rfl, rfl⟩
    go_wp2_with fail
    go_loopw [8] (fun jj wr => ∃ (j : Nat), j ≤ m ∧ jj = .int .i64 j ∧ Hid (Below w2.heap.size w2 wr)) (fun jj _ => m - (intOf jj).toNat)
    case atStart => exact ⟨0, Nat.zero_le _, rfl, hide (Below.refl _ _)⟩
    case round =>
      obtain ⟨j, hj, rfl, HWR⟩ := hrel
      by_cases hlt : j < m
      · have j1 : (j : Int) < (m : Int) := by omega
        have q5 : IntKind.i64.wrap ((j : Int) + 1) = (j : Int) + 1 := IntWalk.i64_in _ (by have := HM.out; have := HLL.out; omega)
        obtain ⟨b, of, x, kq, rfl, hbl, hx, x0, x1, x2, x3, x4, x5, xk⟩ := HN.out.at_ (k := j) (by have := HM.out; omega)
        obtain ⟨Ak, ck, rfl⟩ := xk.form
        have cells : ∀ V : World, Below w2.heap.size w2 V → V.cell? ⟨b, of + j * 6, none⟩ = some (.int .i64 x.kind) ∧ V.cell? ⟨b, of + j * 6 + 1, none⟩ = some (.int .i64 x.f) ∧ V.cell? ⟨b, of + j * 6 + 2, none⟩ = some (.int .i64 x.l) ∧ V.cell? ⟨b, of + j * 6 + 3, none⟩ = some (.int .i64 x.c) ∧ V.cell? ⟨b, of + j * 6 + 4, none⟩ = some (.string x.text) ∧ V.cell? ⟨b, of + j * 6 + 5, none⟩ = some (.slice Ak x.kids.length ck) := fun V hV =>
          ⟨(hV.cell (p := ⟨b, of + j * 6, none⟩) hbl).trans x0, (hV.cell (p := ⟨b, of + j * 6 + 1, none⟩) hbl).trans x1, (hV.cell (p := ⟨b, of + j * 6 + 2, none⟩) hbl).trans x2, (hV.cell (p := ⟨b, of + j * 6 + 3, none⟩) hbl).trans x3, (hV.cell (p := ⟨b, of + j * 6 + 4, none⟩) hbl).trans x4, (hV.cell (p := ⟨b, of + j * 6 + 5, none⟩) hbl).trans x5⟩
        have HC := hide cells
        have S0 := cells _ HWR.out
        have hnode := node_at (L := L) (i := j + 1) (by omega) (by have := HM.out; omega) (by simpa using hx)
        have HND := hide (node_any tb L ((j : Int) + 1) wr.drew (HT.out.below HWR.out.drew (Nat.le_refl _)) HKB.out)
        rw [show ((j : Int) + 1) = ((j + 1 : Nat) : Int) by omega, hnode, show ((j + 1 : Nat) : Int) = (j : Int) + 1 by omega] at HND
        have HXK := hide xk
        have HXN := hide (HK20.out x (List.mem_of_getElem? hx))
        clear x0 x1 x2 x3 x4 x5 xk hx cells hnode
        go_wp2_with fail
        refine wp_region_tail 99 (fun w' => w'.cell? ⟨b, of + j * 6, none⟩ = some (.int .i64 x.kind) ∧ w'.cell? ⟨b, of + j * 6 + 1, none⟩ = some (.int .i64 x.f) ∧ w'.cell? ⟨b, of + j * 6 + 2, none⟩ = some (.int .i64 x.l) ∧ w'.cell? ⟨b, of + j * 6 + 3, none⟩ = some (.int .i64 x.c) ∧ w'.cell? ⟨b, of + j * 6 + 4, none⟩ = some (.string x.text) ∧ w'.cell? ⟨b, of + j * 6 + 5, none⟩ = some (.slice Ak x.kids.length ck)) (by kernel_rfl) S0 (fun hHeld => ?_)
        try simp only [Act.put, List.setIfInBounds_toArray, List.set_cons_zero, List.set_cons_succ]
        refine' wpTail_take (i := 0) (oi := _) ?hi2001 ?hs2001 ?hf2001 ?hr2001 ?hz2001 ?hQ2001 (v := _) (Or.inl ⟨?hw2001, ?hy2001⟩) (by assumption) ?_
        case hi2001 => (simp only [List.getElem?_toArray, List.getElem?_cons_zero]; exact rfl)
        case hs2001 => kernel_rfl
        case hf2001 => kernel_rfl
        case hr2001 => kernel_rfl
        case hz2001 => kernel_rfl
        case hQ2001 => exact fun _ _ _ h => h
        case hw2001 => rfl
        case hy2001 => (intro w hSw; (try dsimp only at hSw); go_simp; (try with_reducible rfl))
        try simp only [Act.put, List.setIfInBounds_toArray, List.set_cons_zero, List.set_cons_succ]
        refine' wpTail_take (i := 1) (oi := _) ?hi2002 ?hs2002 ?hf2002 ?hr2002 ?hz2002 ?hQ2002 (v := _) (Or.inl ⟨?hw2002, ?hy2002⟩) (by assumption) ?_
        case hi2002 => (simp only [List.getElem?_toArray, List.getElem?_cons_succ, List.getElem?_cons_zero]; exact rfl)
        case hs2002 => kernel_rfl
        case hf2002 => kernel_rfl
        case hr2002 => kernel_rfl
        case hz2002 => kernel_rfl
        case hQ2002 => exact fun _ _ _ h => h
        case hw2002 => rfl
        case hy2002 => (intro w hSw; (try dsimp only at hSw); go_simp; (try with_reducible rfl))
        try simp only [Act.put, List.setIfInBounds_toArray, List.set_cons_zero, List.set_cons_succ]
        refine' wpTail_take (i := 2) (oi := _) ?hi2003 ?hs2003 ?hf2003 ?hr2003 ?hz2003 ?hQ2003 (v := _) (Or.inl ⟨?hw2003, ?hy2003⟩) (by assumption) ?_
        case hi2003 => (simp only [List.getElem?_toArray, List.getElem?_cons_succ, List.getElem?_cons_zero]; exact rfl)
        case hs2003 => kernel_rfl
        case hf2003 => kernel_rfl
        case hr2003 => kernel_rfl
        case hz2003 => kernel_rfl
        case hQ2003 => exact fun _ _ _ h => h
        case hw2003 => rfl
        case hy2003 => (intro w hSw; (try dsimp only at hSw); go_simp; (try with_reducible rfl))
        try simp only [Act.put, List.setIfInBounds_toArray, List.set_cons_zero, List.set_cons_succ]
        refine' wpTail_take (i := 4) (oi := _) ?hi2004 ?hs2004 ?hf2004 ?hr2004 ?hz2004 ?hQ2004 (v := _) (Or.inl ⟨?hw2004, ?hy2004⟩) (by assumption) ?_
        case hi2004 => (simp only [List.getElem?_toArray, List.getElem?_cons_succ, List.getElem?_cons_zero]; exact rfl)
        case hs2004 => kernel_rfl
        case hf2004 => kernel_rfl
        case hr2004 => kernel_rfl
        case hz2004 => kernel_rfl
        case hQ2004 => exact fun _ _ _ h => h
        case hw2004 => rfl
        case hy2004 => (intro w hSw; (try dsimp only at hSw); go_simp; (try with_reducible rfl))
        try simp only [Act.put, List.setIfInBounds_toArray, List.set_cons_zero, List.set_cons_succ]
        refine' wpTail_take (i := 5) (oi := _) ?hi2005 ?hs2005 ?hf2005 ?hr2005 ?hz2005 ?hQ2005 (v := _) (Or.inl ⟨?hw2005, ?hy2005⟩) (by assumption) ?_
        case hi2005 => (simp only [List.getElem?_toArray, List.getElem?_cons_succ, List.getElem?_cons_zero]; exact rfl)
        case hs2005 => kernel_rfl
        case hf2005 => kernel_rfl
        case hr2005 => kernel_rfl
        case hz2005 => kernel_rfl
        case hQ2005 => exact fun _ _ _ h => h
        case hw2005 => rfl
        case hy2005 => (intro w hSw; (try dsimp only at hSw); go_simp; (try with_reducible rfl))
        try simp only [Act.put, List.setIfInBounds_toArray, List.set_cons_zero, List.set_cons_succ]
        refine' wpTail_take (i := 6) (oi := _) ?hi2006 ?hs2006 ?hf2006 ?hr2006 ?hz2006 ?hQ2006 (v := _) (Or.inl ⟨?hw2006, ?hy2006⟩) (by assumption) ?_
        case hi2006 => (simp only [List.getElem?_toArray, List.getElem?_cons_succ, List.getElem?_cons_zero]; exact rfl)
        case hs2006 => kernel_rfl
        case hf2006 => kernel_rfl
        case hr2006 => kernel_rfl
        case hz2006 => kernel_rfl
        case hQ2006 => exact fun _ _ _ h => h
        case hw2006 => rfl
        case hy2006 => (intro w hSw; (try dsimp only at hSw); go_simp; (try with_reducible rfl))
        try simp only [Act.put, List.setIfInBounds_toArray, List.set_cons_zero, List.set_cons_succ]
        refine' wpTail_take (i := 7) (oi := _) ?hi2007 ?hs2007 ?hf2007 ?hr2007 ?hz2007 ?hQ2007 (v := _) (Or.inl ⟨?hw2007, ?hy2007⟩) (by assumption) ?_
        case hi2007 => (simp only [List.getElem?_toArray, List.getElem?_cons_succ, List.getElem?_cons_zero]; exact rfl)
        case hs2007 => kernel_rfl
        case hf2007 => kernel_rfl
        case hr2007 => kernel_rfl
        case hz2007 => kernel_rfl
        case hQ2007 => exact fun _ _ _ h => h
        case hw2007 => rfl
        case hy2007 => (intro w hSw; (try dsimp only at hSw); go_simp; (try with_reducible rfl))
        try simp only [Act.put, List.setIfInBounds_toArray, List.set_cons_zero, List.set_cons_succ]
        refine' wpTail_one (i := 3) (o := _) (by kernel_rfl) ?ho2008 ?hw2008 (fun K hK => ?_)
        case ho2008 => (simp only [List.getElem?_toArray, List.getElem?_cons_succ, List.getElem?_cons_zero]; exact rfl)
        case hw2008 => rfl
        go_simp
        (with_reducible refine HND.out.mono ?_)
        rintro e w12 ⟨k12, rfl, hI12, hb12⟩
        have hbw : Below w2.heap.size w2 w12 := HWR.out.drew.trans (hb12.mono HWR.out.drew.size)
        have HAL := hide (alike_same x k12 (.slice Ak x.kids.length ck) w12 hI12 (HXK.out.below hbw (Nat.le_refl _)) (by have := HXN.out; omega))
        have S1 := HC.out _ hbw
        have HBW := hide hbw
        refine hK.out _ _ (fun _ => S1) ?_
        clear hK K hbw hI12 hb12 hHeld S0
        try simp only [Act.put, List.setIfInBounds_toArray, List.set_cons_zero, List.set_cons_succ]
        refine' wpTail_one (i := 8) (o := _) (by kernel_rfl) ?ho2009 ?hw2009 (fun K hK => ?_)
        case ho2009 => (simp only [List.getElem?_toArray, List.getElem?_cons_succ, List.getElem?_cons_zero]; exact rfl)
        case hw2009 => rfl
        go_simp
        (with_reducible refine HAL.out.mono ?_)
        rintro e w13 ⟨rfl, hb13⟩
        have hbw := HBW.out.trans (hb13.mono HBW.out.size)
        have S2 := HC.out _ hbw
        have HBX := hide hbw
        refine hK.out _ _ (fun _ => S2) ?_
        clear hK K hbw hb13 S1
        try simp only [Act.put, List.setIfInBounds_toArray, List.set_cons_zero, List.set_cons_succ]
        refine' wpTail_one (i := 9) (o := _) (by kernel_rfl) ?ho2010 ?hw2010 (fun K hK => ?_)
        case ho2010 => (simp only [List.getElem?_toArray, List.getElem?_cons_succ, List.getElem?_cons_zero]; exact rfl)
        case hw2010 => rfl
        go_simp
        refine hK.out _ _ (fun _ => S2) ?_
        clear hK K
        refine wpTail_done (by kernel_rfl) ?_ _
        try simp only [Act.put, List.setIfInBounds_toArray, List.set_cons_zero, List.set_cons_succ]
        clear S2
        go_wp2_with fail
        go_roundw
        case rel => exact ⟨j + 1, by omega, by simp, HBX⟩
        case measure => simp [intOf]; omega
      · have hjm : j = m := by omega
        rw [hjm]
        obtain ⟨m2, hm2⟩ : ∃ m2, m2 = m + 2 := ⟨_, rfl⟩
        have hm60 : m2 ≤ 62 := by have := HM.out; have := HLL.out; omega
        have i2 : ¬ (m2 : Int) = 0 := by omega
        have i1 : ((m2 : Int) == 0) = false := by rw [beq_eq_false_iff_ne]; omega
        have q0 : IntKind.i64.wrap ((m : Int) + 2) = (m2 : Int) := by rw [IntWalk.i64_in _ (by omega)]; omega
        have q1 : IntKind.u64.wrap (m2 : Int) = (m2 : Int) := IntWalk.u64_in _ (by omega)
        obtain ⟨x2, hx2⟩ : ∃ x2 : Nat, IntKind.u64.wrap a = (x2 : Int) := ⟨(IntKind.u64.wrap a).toNat, (Int.toNat_of_nonneg (by rw [IntKind.wrap_u64]; omega)).symm⟩
        obtain ⟨k2, hk2⟩ : ∃ k2 : Nat, k2 = x2 % m2 := ⟨_, rfl⟩
        have hnk2 : k2 < m2 := by rw [hk2]; exact Nat.mod_lt _ (by omega)
        have htk2 : (x2 : Int).tmod (m2 : Int) = (k2 : Int) := by rw [hk2, Int.ofNat_tmod]
        have quk2 : IntKind.u64.wrap (k2 : Int) = (k2 : Int) := IntWalk.u64_in _ (by omega)
        have qik2 : IntKind.i64.wrap (k2 : Int) = (k2 : Int) := IntWalk.i64_in _ (by omega)
        clear hk2 hnk2 hm2
        go_upto_region 14 with (fail)
        clear hx2 i1 i2 q0 q1 htk2 quk2 qik2
        have HWK1 := hide (walk_any tb L a wr (HT.out.below HWR.out (Nat.le_refl _)))
        go_wp2_with fail
        refine HWK1.out.mono ?_
        rintro e wa1 ⟨va, rfl, howna, hba⟩
        have hba' := HWR.out.trans (hba.mono HWR.out.size)
        have HRW1 := hide (refwalk_any _ L a wa1 (HN.out.below hba' (Nat.le_refl _)) HOK.out HLL.out HK20.out)
        have hIa : IntsAt wa1 va ((walkOf L a).map fun k : Nat => (k : Int)) := by
          refine IntsAt.own (B := wr.heap.size) ?_
          rw [List.map_map, List.length_map]
          exact howna
        obtain ⟨Aa1, ca1, rfl⟩ := own_formT howna
        have HIA1 := hide hIa
        have HBA1 := hide hba'
        clear howna hba hba' hIa
        go_wp2_with fail
        refine HRW1.out.mono ?_
        rintro e wb1 ⟨vb, rfl, hownb, hbb⟩
        have hbb' := HBA1.out.trans (hbb.mono HBA1.out.size)
        have hIb : IntsAt wb1 vb ((walkOf L a).map fun k : Nat => (k : Int)) := by
          refine IntsAt.own (B := wa1.heap.size) ?_
          rw [List.map_map, List.length_map]
          exact hownb
        obtain ⟨Ab1, cb1, rfl⟩ := own_formT hownb
        have HIN1 := hide (ints_same ((walkOf L a).map fun k : Nat => (k : Int)) _ _ wb1 (HIA1.out.below hbb (Nat.le_refl _)) hIb (by rw [List.length_map]; exact walkOf_le L a))
        have HBB1 := hide hbb'
        clear hownb hbb hbb' hIb
        go_wp2_with fail
        refine HIN1.out.mono ?_
        rintro e wc1 ⟨rfl, hbc⟩
        have hbc' := HBB1.out.trans (hbc.mono HBB1.out.size)
        have HDP1 := hide (depth_any tb L a wc1 (HT.out.below hbc' (Nat.le_refl _)))
        have HRD1 := hide (refdepth_all _ L a wc1 (HN.out.below hbc' (Nat.le_refl _)) HOK.out HLL.out HK20.out)
        have HBC1 := hide hbc'
        obtain ⟨dd1, hdd⟩ : ∃ dd : Nat, dd = D L (a).toNat := ⟨_, rfl⟩
        rw [← hdd] at HDP1 HRD1
        clear hbc hbc' hdd
        go_wp2_with fail
        refine HDP1.out.mono ?_
        rintro e w' ⟨rfl, rfl⟩
        go_wp2_with fail
        refine HRD1.out.mono ?_
        rintro e wd1 ⟨rfl, hbd⟩
        have HBD1 := hide (HBC1.out.trans (hbd.mono HBC1.out.size))
        clear hbd
        have HWK2 := hide (walk_any tb L (k2 : Int) wd1 (HT.out.below HBD1.out (Nat.le_refl _)))
        go_wp2_with fail
        refine HWK2.out.mono ?_
        rintro e wa2 ⟨va, rfl, howna, hba⟩
        have hba' := HBD1.out.trans (hba.mono HBD1.out.size)
        have HRW2 := hide (refwalk_any _ L (k2 : Int) wa2 (HN.out.below hba' (Nat.le_refl _)) HOK.out HLL.out HK20.out)
        have hIa : IntsAt wa2 va ((walkOf L (k2 : Int)).map fun k : Nat => (k : Int)) := by
          refine IntsAt.own (B := wd1.heap.size) ?_
          rw [List.map_map, List.length_map]
          exact howna
        obtain ⟨Aa2, ca2, rfl⟩ := own_formT howna
        have HIA2 := hide hIa
        have HBA2 := hide hba'
        clear howna hba hba' hIa
        go_wp2_with fail
        refine HRW2.out.mono ?_
        rintro e wb2 ⟨vb, rfl, hownb, hbb⟩
        have hbb' := HBA2.out.trans (hbb.mono HBA2.out.size)
        have hIb : IntsAt wb2 vb ((walkOf L (k2 : Int)).map fun k : Nat => (k : Int)) := by
          refine IntsAt.own (B := wa2.heap.size) ?_
          rw [List.map_map, List.length_map]
          exact hownb
        obtain ⟨Ab2, cb2, rfl⟩ := own_formT hownb
        have HIN2 := hide (ints_same ((walkOf L (k2 : Int)).map fun k : Nat => (k : Int)) _ _ wb2 (HIA2.out.below hbb (Nat.le_refl _)) hIb (by rw [List.length_map]; exact walkOf_le L (k2 : Int)))
        have HBB2 := hide hbb'
        clear hownb hbb hbb' hIb
        go_wp2_with fail
        refine HIN2.out.mono ?_
        rintro e wc2 ⟨rfl, hbc⟩
        have hbc' := HBB2.out.trans (hbc.mono HBB2.out.size)
        have HDP2 := hide (depth_any tb L (k2 : Int) wc2 (HT.out.below hbc' (Nat.le_refl _)))
        have HRD2 := hide (refdepth_all _ L (k2 : Int) wc2 (HN.out.below hbc' (Nat.le_refl _)) HOK.out HLL.out HK20.out)
        have HBC2 := hide hbc'
        obtain ⟨dd2, hdd⟩ : ∃ dd : Nat, dd = D L ((k2 : Int)).toNat := ⟨_, rfl⟩
        rw [← hdd] at HDP2 HRD2
        clear hbc hbc' hdd
        go_wp2_with fail
        refine HDP2.out.mono ?_
        rintro e w' ⟨rfl, rfl⟩
        go_wp2_with fail
        refine HRD2.out.mono ?_
        rintro e wd2 ⟨rfl, hbd⟩
        have HBD2 := hide (HBC2.out.trans (hbd.mono HBC2.out.size))
        clear hbd
        go_wp2_with fail
        go_ret
        exact ⟨rfl, HB2.out.trans (HBD2.out.mono HB2.out.size)⟩
end Go.Proofs.YtnphfogepdkpbaaDoor
