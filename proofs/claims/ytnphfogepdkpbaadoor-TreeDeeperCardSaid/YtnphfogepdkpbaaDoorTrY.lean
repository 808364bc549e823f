/- The law TreeDeeper: a node is deeper than its parts, and its walk is theirs; conditions: the list is in memory, the library's powers are laid. -/
import Derived.Test.YtnphfogepdkpbaaDoorTrX
namespace Go.Proofs.YtnphfogepdkpbaaDoor
open Go.RowKit Go.WideShapes Go.ChangeShapes
set_option linter.unusedVariables false
set_option linter.unusedSimpArgs false
set_option maxRecDepth 100000

/-- A part and the lengths of its parts' walks. -/
def wantF (L : List Nd) (ks : List Int) : Nat := 1 + ((thrI ks).map fun k => (walkOf L k).length).sum
theorem walkOf_le (L : List Nd) (i : Int) : (walkOf L i).length ≤ 65536 := by
  unfold walkOf
  split
  · rename_i h; exact h.2
  · simp
theorem wantF_snoc (L : List Nd) (ks : List Int) (k : Int) : wantF L (ks ++ [k]) = wantF L ks + (if k = 0 then 0 else (walkOf L k).length) := by
  unfold wantF
  rw [thrI_snoc]
  by_cases h : k = 0
  · rw [if_pos h, if_pos h, List.append_nil, Nat.add_zero]
  · rw [if_neg h, if_neg h, List.map_append, List.sum_append]
    simp
    omega
theorem wantF_leP (L : List Nd) (ks : List Int) (P : Nat) (hP : ∀ k, (walkOf L k).length ≤ P) : ∀ j, wantF L (ks.take j) ≤ 1 + j * P := by
  intro j
  induction j with
  | zero => simp [wantF, thrI]
  | succ j ih =>
    cases h : ks[j]? with
    | none =>
      have h1 := List.getElem?_eq_none_iff.1 h
      rw [List.take_of_length_le (by omega)]
      rw [List.take_of_length_le (by omega)] at ih
      rw [Nat.succ_mul]
      omega
    | some k =>
      rw [take_snoc h, wantF_snoc, Nat.succ_mul]
      have := hP k
      split <;> omega
theorem wantF_le (L : List Nd) (ks : List Int) (j : Nat) : wantF L (ks.take j) ≤ 1 + j * 65536 := wantF_leP L ks _ (walkOf_le L) j
theorem mem_flat_le {α β : Type} {f : α → List β} {ks : List α} {k : α} (h : k ∈ ks) : (f k).length ≤ (ks.flatMap f).length := by
  obtain ⟨s, t, rfl⟩ := List.append_of_mem h
  rw [List.flatMap_append, List.flatMap_cons, List.length_append, List.length_append]
  omega
theorem wantF_fin {L : List Nd} (hL : OkL L) {i : Nat} {n : Nd} (h1 : 1 ≤ i) (h2 : i ≤ L.length) (hn : L[i - 1]? = some n) (hw : (W L i).length ≤ 65536) : wantF L n.kids = (W L i).length := by
  have hthr : thr L i = (thrI n.kids).map Int.toNat := by unfold thr kid; rw [hn]
  rw [W_unf hL h1 h2, List.length_cons] at hw ⊢
  have hg := (goodN_iff.1 (hL _ _ hn)).2
  have e : ∀ k ∈ thrI n.kids, (walkOf L k).length = (W L k.toNat).length := fun k hk => by
    have hm := List.mem_filter.1 hk
    have hk0 : k ≠ 0 := by simpa using hm.2
    have hkr := hg k hm.1
    have hkt : k.toNat ∈ thr L i := by rw [hthr]; exact List.mem_map.2 ⟨k, hk, rfl⟩
    have h3 := mem_flat_le (f := W L) hkt
    unfold walkOf
    rw [if_pos ⟨by unfold hasB; simp; omega, by omega⟩]
  unfold wantF
  rw [hthr, List.length_flatMap, List.map_map, Nat.add_comm]
  congr 2
  apply List.map_congr_left
  intro k hk
  exact e k hk
theorem D_part {L : List Nd} (hL : OkL L) {i z : Nat} (h1 : 1 ≤ i) (h2 : i ≤ L.length) (hz : z ∈ thr L i) : D L z < D L i := by
  rw [D_unf hL h1 h2]
  have : ∀ (l : List Nat) (a : Nat), a ≤ l.foldl max a ∧ ∀ x ∈ l, x ≤ l.foldl max a := by
    intro l
    induction l with
    | nil => intro a; exact ⟨Nat.le_refl _, fun x hx => by cases hx⟩
    | cons y l ih =>
      intro a
      have h3 := ih (max a y)
      refine ⟨by rw [List.foldl_cons]; omega, fun x hx => ?_⟩
      rw [List.foldl_cons]
      rcases List.mem_cons.1 hx with rfl | hx
      · omega
      · exact h3.2 x hx
  have h4 := (this ((thr L i).map (D L)) 0).2 (D L z) (List.mem_map.2 ⟨z, hz, rfl⟩)
  omega
theorem walk_head {L : List Nd} (hL : OkL L) {i : Nat} (h : walkOf L (i : Int) ≠ []) (h1 : 1 ≤ i) (h2 : i ≤ L.length) : walkOf L (i : Int) = W L i ∧ (W L i).length ≤ 65536 ∧ ∃ r, W L i = i :: r := by
  have e : walkOf L (i : Int) = W L i ∧ (W L i).length ≤ 65536 := by
    unfold walkOf at h ⊢
    by_cases hc : hasB L (i : Int) = true ∧ (W L (i : Int).toNat).length ≤ 65536
    · rw [if_pos hc]
      exact ⟨rfl, hc.2⟩
    · rw [if_neg hc] at h
      exact absurd rfl h
  exact ⟨e.1, e.2, _, W_unf hL h1 h2⟩
set_option maxHeartbeats 8000000 in
theorem deeper_walk (av : Value) (l : List Nd) (a : Int) (w : World) (h : NodesAt w av l) (hpw : powT w) :
    Calls Tryd.prog 6 #[av, .int .i64 a] w (BoolP w true) := by
  have HAW := hide (awake_any w hpw)
  have HH := hide h
  have HPW := hide hpw
  clear h hpw
  cases hg : greatB l with
  | true =>
    have HG := hide hg
    clear hg
    go_enter Tryd.func6, Tryd.ntmps6
    go_wp2_with fail
    refine HAW.out.mono ?_
    rintro e w1 ⟨rfl, hb1⟩
    have HGR := hide (great_any av l w1 (HH.out.below hb1 (Nat.le_refl _)))
    rw [HG.out] at HGR
    go_wp2_with fail
    refine HGR.out.mono ?_
    rintro e w2 ⟨rfl, rfl⟩
    go_wp2_with fail
    go_ret
    exact ⟨rfl, hb1⟩
  | false =>
    have HG := hide hg
    have hgf := great_false hg
    have HGF := hide hgf
    clear hg hgf
    go_enter Tryd.func6, Tryd.ntmps6
    go_wp2_with fail
    refine HAW.out.mono ?_
    rintro e w1 ⟨rfl, hb1⟩
    have h1 := HH.out.below hb1 (Nat.le_refl _)
    have HGR := hide (great_any av l w1 h1)
    rw [HG.out] at HGR
    have HLD := hide (laid_any av l w1 h1 HGF.out.1 (fun n hn => (HGF.out.2 n hn).1))
    have HB1 := hide hb1
    clear h1 hb1
    go_wp2_with fail
    refine HGR.out.mono ?_
    rintro e w' ⟨rfl, rfl⟩
    go_wp2_with fail
    refine HLD.out.mono ?_
    rintro e w2 ⟨tb, v, rows, nv, rfl, hT2, hnd, hN2, hb2⟩
    have hT := hT2.tr
    rw [hnd] at hT
    obtain ⟨L, hL⟩ : ∃ L, L = layF l := ⟨_, rfl⟩
    rw [← hL] at hT hN2
    have hsub : ∀ n ∈ L, n ∈ l := fun n hn => layF_mem l l.length n (by rw [List.take_length]; rw [← hL]; exact hn)
    have hkb : KB L := fun n hn => by have := (HGF.out.2 n (hsub n hn)).1; omega
    have hll : L.length ≤ 60 := by
      have h1 := layF_le l l.length
      rw [List.take_length, ← hL] at h1
      have := HGF.out.1
      omega
    have hbw := HB1.out.trans (hb2.mono HB1.out.size)
    have HT := hide hT
    have HN := hide hN2
    have HKB := hide hkb
    have HLL := hide hll
    have HK20 := hide (show ∀ n ∈ L, n.kids.length ≤ 20 from fun n hn => (HGF.out.2 n (hsub n hn)).1)
    have HB2 := hide hbw
    obtain ⟨An, cn, rfl⟩ := hN2.form
    obtain ⟨m, hm⟩ : ∃ m, m = L.length := ⟨_, rfl⟩
    rw [← hm] at HN ⊢
    have HM := hide hm
    clear hT2 hnd hN2 hb2 hT hL hsub hkb hll hbw hm
    by_cases hm0 : m = 0
    · subst hm0
      have hL0 : L = [] := List.eq_nil_of_length_eq_zero HM.out.symm
      subst hL0
      have HD := hide (depth_any tb [] a w2 HT.out)
      rw [D_out (l := []) (i := a.toNat) (by simp; omega)] at HD
      have HWK := hide (walk_any tb [] a w2 HT.out)
      have hw0 : walkOf [] a = [] := by
        unfold walkOf
        rw [if_neg]
        unfold hasB
        simp
        omega
      rw [hw0] at HWK
      clear hw0
      go_wp2_with fail
      refine HD.out.mono ?_
      rintro e w' ⟨rfl, rfl⟩
      rw [show ((0 : Nat) : Int) = 0 from rfl]
      go_wp2_with fail
      refine HWK.out.mono ?_
      rintro e w5 ⟨vw, rfl, hown5, hb5⟩
      obtain ⟨A5, c5, rfl⟩ := own_formT hown5
      rw [show ([] : List Nat).length = 0 from rfl]
      have HB5 := hide (HB2.out.trans (hb5.mono HB2.out.size))
      clear hown5 hb5
      go_wp2_with fail
      go_ret
      exact ⟨rfl, HB5.out⟩
    · have i1 : ((m : Int) == 0) = false := by rw [beq_eq_false_iff_ne]; omega
      obtain ⟨x, hx⟩ : ∃ x : Nat, IntKind.u64.wrap a = (x : Int) := ⟨(IntKind.u64.wrap a).toNat, (Int.toNat_of_nonneg (by rw [IntKind.wrap_u64]; omega)).symm⟩
      obtain ⟨k, hk⟩ : ∃ k : Nat, k = x % m := ⟨_, rfl⟩
      have hkn : k < m := by rw [hk]; exact Nat.mod_lt _ (by omega)
      have hm60 : m ≤ 60 := by have := HM.out; have := HLL.out; omega
      have hx2 : (x : Int).tmod (m : Int) = (k : Int) := by rw [hk, Int.ofNat_tmod]
      have i2 : ¬ (m : Int) = 0 := by omega
      have q1 : IntKind.u64.wrap (m : Int) = (m : Int) := IntWalk.u64_in _ (by omega)
      have q2 : IntKind.u64.wrap (k : Int) = (k : Int) := IntWalk.u64_in _ (by omega)
      have q3 : IntKind.i64.wrap (k : Int) = (k : Int) := IntWalk.i64_in _ (by omega)
      obtain ⟨i, hi⟩ : ∃ i : Nat, i = 1 + k := ⟨_, rfl⟩
      have r4 : IntKind.i64.wrap (1 + (k : Int)) = (i : Int) := by rw [IntWalk.i64_in _ (by omega)]; omega
      have hi1 : 1 ≤ i ∧ i ≤ L.length := by have := HM.out; omega
      have HI := hide hi1
      clear hk hi hi1
      go_upto_region 11 with (fail)
      clear hx hx2 i2 q1 q2 q3 r4
      obtain ⟨n, hn⟩ : ∃ n, L[i - 1]? = some n := ⟨_, List.getElem?_eq_getElem (by have := HI.out; omega)⟩
      have hnode : nodeOf L (i : Int) = n := by
        unfold nodeOf
        rw [if_pos (by unfold hasB; simp; have := HI.out; omega)]
        simp [hn]
      have HND := hide (node_any tb L i w2 HT.out HKB.out)
      rw [hnode] at HND
      have HNN := hide hn
      clear hn hnode
      go_wp2_with fail
      refine HND.out.mono ?_
      rintro e w3 ⟨kv, rfl, hI3, hb3⟩
      simp only [Nd.val]
      obtain ⟨Ak, ck, rfl⟩ := hI3.form
      obtain ⟨bn, hbn⟩ : ∃ bn, bn = w3.heap.size := ⟨_, rfl⟩
      obtain ⟨W4, hW4⟩ : ∃ W4, W4 = w3.alloc (.cells (n.arr (.slice Ak n.kids.length ck)) 34) := ⟨_, rfl⟩
      obtain ⟨kl, hkl⟩ : ∃ kl, kl = n.kids.length := ⟨_, rfl⟩
      rw [← hkl] at hI3 hW4 ⊢
      have hb4 : Below w3.heap.size w3 W4 := by rw [hW4]; exact (Below.refl _ _).alloc (Nat.le_refl _) _
      have hbx : Blk W4 bn 34 (n.arr (.slice Ak kl ck)) := by rw [hW4, hbn]; exact Blk.new _ _ _
      have hT4 := (HT.out.below hb3 (Nat.le_refl _)).below hb4 (Nat.le_refl _)
      have HWK := hide (walk_any tb L i W4 hT4)
      have HT4 := hide hT4
      have HI4 := hide (hI3.below hb4 (Nat.le_refl _))
      have HBX := hide hbx
      have HB4 := hide (HB2.out.trans ((hb3.trans (hb4.mono hb3.size)).mono HB2.out.size))
      have HW4 := hide hW4
      have HBN := hide hbn
      have HKL := hide (And.intro hkl (HK20.out n (List.mem_of_getElem? HNN.out)))
      have HOK := hide HT.out.ok
      clear hI3 hb3 hb4 hbx hT4 hW4 hbn hkl
      go_upto_region 12 with (fail)
      rw [← HBN.out, ← HW4.out]
      go_wp2_with fail
      refine HWK.out.mono ?_
      rintro e w5 ⟨vw, rfl, hown5, hb5⟩
      have HT5 := hide (HT4.out.below hb5 (Nat.le_refl _))
      have HI5 := hide (HI4.out.below hb5 (Nat.le_refl _))
      have HBX5 := hide (HBX.out.below hb5 HBX.out.lt)
      have HB5 := hide (HB4.out.trans (hb5.mono HB4.out.size))
      have hI5 : IntsAt w5 vw ((walkOf L (i : Int)).map fun k : Nat => (k : Int)) := by
        refine IntsAt.own (B := W4.heap.size) ?_
        rw [List.map_map, List.length_map]
        exact hown5
      obtain ⟨A5, c5, rfl⟩ := own_formT hown5
      have HI5W := hide hI5
      clear hI5 hown5 hb5
      go_wp2_with fail
      go_loopw [11, 12] (fun ww jj wr => ∃ (j : Nat), j ≤ kl ∧ ww = .int .i64 (wantF L (n.kids.take j) : Nat) ∧ jj = .int .i64 j ∧ Hid (Below w5.heap.size w5 wr)) (fun _ jj _ => kl - (intOf jj).toNat)
      case atStart => exact ⟨0, Nat.zero_le _, by simp [wantF, thrI], rfl, hide (Below.refl _ _)⟩
      case round =>
        obtain ⟨j, hj, rfl, rfl, HWR0⟩ := hrel
        have z5 : wr.cell? ⟨bn, 5, none⟩ = some (.slice Ak kl ck) := (HBX5.out.below HWR0.out HBX5.out.lt).cell 5
        obtain ⟨wt, hwt⟩ : ∃ wt, wt = wantF L (n.kids.take j) := ⟨_, rfl⟩
        have HWR := hide (And.intro HWR0.out hwt)
        rw [← hwt]
        clear HWR0 hwt
        by_cases hlt : j < kl
        · have j1 : (j : Int) < (kl : Int) := by omega
          obtain ⟨b, of, x, rfl, _, hx, hcell⟩ := (HI5.out.below HWR.out.1 (Nat.le_refl _)).at_ (k := j) (by have := HKL.out.1; omega)
          have hgk := (goodN_iff.1 (HOK.out _ _ HNN.out)).2 x (List.mem_of_getElem? hx)
          have q5 : IntKind.i64.wrap ((j : Int) + 1) = (j : Int) + 1 := IntWalk.i64_in _ (by have := HKL.out; omega)
          by_cases hx0 : x = 0
          · subst hx0
            have HNX := hide (show wantF L (n.kids.take (j + 1)) = wt by rw [take_snoc hx, wantF_snoc, if_pos rfl, Nat.add_zero]; exact HWR.out.2.symm)
            clear hgk hx
            go_wp2_with fail
            go_roundw
            case rel => exact ⟨j + 1, by omega, by rw [HNX.out], by simp, hide HWR.out.1⟩
            case measure => simp [intOf]; omega
          · obtain ⟨z, rfl⟩ : ∃ z : Nat, x = (z : Int) := ⟨x.toNat, by omega⟩
            have i8 : ((z : Int) == 0) = false := by rw [beq_eq_false_iff_ne]; exact hx0
            have hzt : z ∈ thr L i := by
              unfold thr kid
              rw [HNN.out]
              exact List.mem_map.2 ⟨(z : Int), List.mem_filter.2 ⟨List.mem_of_getElem? hx, by simp [i8]⟩, rfl⟩
            have hdz := D_part HOK.out HI.out.1 HI.out.2 hzt
            have hTr := HT5.out.below HWR.out.1 (Nat.le_refl _)
            have HDZ := hide (depth_any tb L z wr hTr)
            have HDI := hide (depth_any tb L i wr hTr)
            have HWZ := hide (walk_any tb L z wr hTr)
            obtain ⟨d1, hd1⟩ : ∃ d1, d1 = D L z := ⟨_, rfl⟩
            obtain ⟨d2, hd2⟩ : ∃ d2, d2 = D L i := ⟨_, rfl⟩
            have e1 : (z : Int).toNat = z := rfl
            have e2 : (i : Int).toNat = i := rfl
            rw [e1, ← hd1] at HDZ
            rw [e2, ← hd2] at HDI
            have j3 : ¬ (d2 : Int) ≤ (d1 : Int) := by omega
            obtain ⟨wl, hwl⟩ : ∃ wl, wl = (walkOf L (z : Int)).length := ⟨_, rfl⟩
            have hwle : wl ≤ 65536 := by rw [hwl]; exact walkOf_le L _
            have hwt2 := wantF_le L n.kids j
            have q6 : IntKind.i64.wrap ((wt : Int) + (wl : Int)) = (wt : Int) + (wl : Int) := IntWalk.i64_in _ (by have := HWR.out.2; have := HKL.out; omega)
            have HNX := hide (show wantF L (n.kids.take (j + 1)) = wt + wl by rw [take_snoc hx, wantF_snoc, if_neg hx0, ← hwl, HWR.out.2])
            have HWL := hide hwl
            clear hgk hx hzt hdz hTr hd1 hd2 e1 e2 hwl hwle hwt2
            go_wp2_with fail
            refine HDZ.out.mono ?_
            rintro e w' ⟨rfl, rfl⟩
            go_wp2_with fail
            refine HDI.out.mono ?_
            rintro e w' ⟨rfl, rfl⟩
            go_wp2_with fail
            refine HWZ.out.mono ?_
            rintro e w6 ⟨v6, rfl, hown6, hb6⟩
            obtain ⟨A6, c6, rfl⟩ := own_formT hown6
            rw [← HWL.out]
            have HB6 := hide (HWR.out.1.trans (hb6.mono HWR.out.1.size))
            clear hown6 hb6
            go_wp2_with fail
            go_roundw
            case rel => exact ⟨j + 1, by omega, by rw [HNX.out]; simp, by simp, HB6⟩
            case measure => simp [intOf]; omega
        · have hjm : j = kl := by omega
          subst hjm
          have HAN := hide (add_nil ⟨9, 0, 0, 0, ⟨#[]⟩, []⟩ (.slice none 0 0) wr)
          by_cases hwe : walkOf L (i : Int) = []
          · rw [hwe, show ([] : List Nat).length = 0 from rfl]
            clear hwe
            go_wp2_with fail
            refine HAN.out.mono ?_
            rintro e w6 ⟨rfl, hb6⟩
            have HB6 := hide hb6
            have HSW := hide (swap_none none 1 1 ⟨9, 0, 0, 0, ⟨#[]⟩, []⟩ w6 (fun W _ => has_nil 1 W))
            clear hb6
            go_wp2_with fail
            refine HSW.out.mono ?_
            rintro e w7 ⟨rfl, hb7⟩
            have hb57 := HB6.out.trans (hb7.mono HB6.out.size)
            have hbr7 := HWR.out.1.trans (hb57.mono HWR.out.1.size)
            have hT7 := HT5.out.below hbr7 (Nat.le_refl _)
            have HD7 := hide (depth_any tb L i w7 hT7)
            have HB7 := hide (HB5.out.trans (hbr7.mono HB5.out.size))
            have HLN := hide (len_nil w7)
            have HDN := hide (depth_nil 1 w7)
            have HWN := hide (walk_nil 1 w7)
            skip
            clear hb7 hb57 hbr7 hT7
            go_wp2_with fail
            refine HD7.out.mono ?_
            rintro e w' ⟨rfl, rfl⟩
            rw [show (i : Int).toNat = i from rfl]
            obtain ⟨dd, hdd⟩ : ∃ dd, dd = D L i := ⟨_, rfl⟩
            have hd1 : (1 : Int) ≤ (dd : Int) := by
              have h := D_unf HOK.out HI.out.1 HI.out.2
              omega
            rw [← hdd]
            clear hdd
            go_wp2_with fail
            refine HLN.out.mono ?_
            rintro e w' ⟨rfl, rfl⟩
            go_wp2_with fail
            refine HDN.out.mono ?_
            rintro e w' ⟨rfl, rfl⟩
            go_wp2_with fail
            refine HWN.out.mono ?_
            rintro e w8 ⟨v8, rfl, hown8, hb8⟩
            obtain ⟨A8, c8, rfl⟩ := own_formT hown8
            rw [show ([] : List Nat).length = 0 from rfl]
            have HB8 := hide (HB7.out.trans (hb8.mono HB7.out.size))
            have HNN8 := hide (node_nil 1 w8)
            clear hown8 hb8
            go_wp2_with fail
            refine HNN8.out.mono ?_
            rintro e w9 ⟨kv9, rfl, _, hb9⟩
            have HB9 := hide (HB8.out.trans (hb9.mono HB8.out.size))
            clear hb9
            simp only [Nd.val, zeroN]
            have fkk := field_kind
            go_wp2_with fail
            go_ret
            exact ⟨rfl, HB9.out⟩
          · obtain ⟨hw1, hw2, rr, hrr⟩ := walk_head HOK.out hwe HI.out.1 HI.out.2
            have hfull : n.kids.take j = n.kids := List.take_of_length_le (by have := HKL.out.1; omega)
            have hww : wt = (walkOf L (i : Int)).length := by
              have h1 := HWR.out.2
              rw [hfull, wantF_fin HOK.out HI.out.1 HI.out.2 HNN.out hw2] at h1
              rw [hw1]
              exact h1
            have h0 : ((walkOf L (i : Int)).map fun k : Nat => (k : Int))[0]? = some (i : Int) := by rw [hw1, hrr]; rfl
            rw [← hww]
            have hI5 := HI5W.out
            rw [← hww] at hI5
            obtain ⟨b5, of5, x5, rfl, hl5, hx5, hc5⟩ := hI5.at_ (k := 0) (by rw [List.length_map, hw1, hrr]; simp)
            rw [h0] at hx5
            injection hx5 with hx5
            subst hx5
            rw [Nat.add_zero] at hc5
            have i9 : ((wt : Int) == 0) = false := by rw [beq_eq_false_iff_ne, hww, hw1, hrr]; simp; omega
            have i10 : (0 : Int) < (wt : Int) := by rw [hww, hw1, hrr]; simp
            have HC5 := hide (And.intro hl5 hc5)
            clear hw1 hw2 hrr hfull hww h0 hI5 hl5 hc5
            go_wp2_with fail
            refine HAN.out.mono ?_
            rintro e w6 ⟨rfl, hb6⟩
            have HB6 := hide hb6
            have HSW := hide (swap_none none 1 1 ⟨9, 0, 0, 0, ⟨#[]⟩, []⟩ w6 (fun W _ => has_nil 1 W))
            clear hb6
            go_wp2_with fail
            refine HSW.out.mono ?_
            rintro e w7 ⟨rfl, hb7⟩
            have hb57 := HB6.out.trans (hb7.mono HB6.out.size)
            have hbr7 := HWR.out.1.trans (hb57.mono HWR.out.1.size)
            have hT7 := HT5.out.below hbr7 (Nat.le_refl _)
            have HD7 := hide (depth_any tb L i w7 hT7)
            have HB7 := hide (HB5.out.trans (hbr7.mono HB5.out.size))
            have HLN := hide (len_nil w7)
            have HDN := hide (depth_nil 1 w7)
            have HWN := hide (walk_nil 1 w7)
            have x0 : w7.cell? ⟨b5, of5, none⟩ = some (.int .i64 (i : Int)) := (hbr7.cell (p := ⟨b5, of5, none⟩) HC5.out.1).trans HC5.out.2
            clear hb7 hb57 hbr7 hT7
            go_wp2_with fail
            refine HD7.out.mono ?_
            rintro e w' ⟨rfl, rfl⟩
            rw [show (i : Int).toNat = i from rfl]
            obtain ⟨dd, hdd⟩ : ∃ dd, dd = D L i := ⟨_, rfl⟩
            have hd1 : (1 : Int) ≤ (dd : Int) := by
              have h := D_unf HOK.out HI.out.1 HI.out.2
              omega
            rw [← hdd]
            clear hdd
            go_wp2_with fail
            refine HLN.out.mono ?_
            rintro e w' ⟨rfl, rfl⟩
            go_wp2_with fail
            refine HDN.out.mono ?_
            rintro e w' ⟨rfl, rfl⟩
            go_wp2_with fail
            refine HWN.out.mono ?_
            rintro e w8 ⟨v8, rfl, hown8, hb8⟩
            obtain ⟨A8, c8, rfl⟩ := own_formT hown8
            rw [show ([] : List Nat).length = 0 from rfl]
            have HB8 := hide (HB7.out.trans (hb8.mono HB7.out.size))
            have HNN8 := hide (node_nil 1 w8)
            clear hown8 hb8
            go_wp2_with fail
            refine HNN8.out.mono ?_
            rintro e w9 ⟨kv9, rfl, _, hb9⟩
            have HB9 := hide (HB8.out.trans (hb9.mono HB8.out.size))
            clear hb9
            simp only [Nd.val, zeroN]
            have fkk := field_kind
            go_wp2_with fail
            go_ret
            exact ⟨rfl, HB9.out⟩
end Go.Proofs.YtnphfogepdkpbaaDoor
