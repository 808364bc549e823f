/- What is built can be (CodeBuilds); conditions: the lists are in memory. -/
import Derived.Test.YtfdjomkkagommaaCoAh
import Derived.StillTailTactics
namespace Go.Proofs.Ytfdjomkkagommaa
open Go.RowKit Go.WideShapes Go.ChangeShapes
set_option linter.unusedVariables false
set_option linter.unusedSimpArgs false
set_option maxRecDepth 100000

set_option maxHeartbeats 16000000 in
theorem codebuilds_any (l0 l1 : List Int) (v0 v1 : Value) (w : World) (h0 : IntsAt w v0 l0) (h1 : IntsAt w v1 l1) : Calls Try.prog 3 #[v0, v1] w (BoolP w true) := by
  obtain ⟨i0, hi0, hz0, hz1, hz2⟩ := info_parts intInfoT
  obtain ⟨A0, c0, rfl⟩ := h0.form
  obtain ⟨A1, c1, rfl⟩ := h1.form
  obtain ⟨n, hn⟩ : ∃ n, n = l0.length := ⟨_, rfl⟩
  obtain ⟨m1, hm1⟩ : ∃ m1, m1 = l1.length := ⟨_, rfl⟩
  rw [← hn] at h0 ⊢
  rw [← hm1] at h1 ⊢
  have HI0 := hide h0
  have HI1 := hide h1
  have HN := hide (And.intro hn hm1)
  have HAW := hide (awake_any w)
  clear h0 h1 hn hm1
  go_enter Try.func3, Try.ntmps3
  go_wp2_with fail
  refine HAW.out.mono ?_
  rintro e w2 ⟨rfl, hb2⟩
  have HB1 := hide hb2
  clear hb2
  by_cases a1 : (60 : Int) < (n : Int)
  · go_wp2_with fail
    go_ret
    exact ⟨rfl, HB1.out⟩
  by_cases a2 : (m1 : Int) < (n : Int)
  · go_wp2_with fail
    go_ret
    exact ⟨rfl, HB1.out⟩
  have hn60 : n ≤ 60 := by omega
  have hnm : n ≤ m1 := by omega
  have HNW := hide (new_any w2)
  go_wp2_with fail
  clear a1 a2
  refine HNW.out.mono ?_
  rintro e w3 ⟨rfl, hT3, hb3⟩
  obtain ⟨g, hg⟩ : ∃ g, g = w2.heap.size := ⟨_, rfl⟩
  rw [← hg] at hT3 hb3 ⊢
  have HG := hide hg
  have HB3 := hide hb3
  have HRG := hide (show Calls Try.prog 8 #[.pointer (some ⟨g, 0, none⟩), .int .i64 4] w3 (BOut g g w3 (.int .i64 0) { emptyB with regs := 4 }) from reg_any g g emptyB 4 w3 hT3 ⟨Int.le_refl _, by decide⟩ (by decide))
  clear hT3 hb3 hg
  go_wp2_with fail
  refine HRG.out.mono ?_
  rintro e w4 ⟨rfl, hT4, hz4, hb4⟩
  have HT4 := hide hT4
  have HB4 := hide (HB3.out.trans hb4)
  clear hT4 hz4 hb4
  obtain ⟨N1, hN1⟩ : ∃ N1 : Nat, N1 = n + 1 := ⟨_, rfl⟩
  have q1 : IntKind.i64.wrap ((n : Int) + 1) = (N1 : Int) := by rw [IntWalk.i64_in _ (by omega)]; omega
  obtain ⟨Z, hZ⟩ : ∃ Z : Array Value, Z = madeCells (Value.int .i64 0).cells (N1 * i0.size) := ⟨_, rfl⟩
  have hmk : ∀ W : World, (Instr.makeSlice 22 (.int .i64 (N1 : Int)) (.int .i64 (N1 : Int))).run Try.prog W = .ok (.slice (some ⟨W.heap.size, 0, none⟩) N1 N1) (W.alloc (.cells Z 3)) := fun W => by
    rw [hZ]
    exact run_make_rowN (P := Try.prog) 22 3 i0 _ Try.underlying22 hi0 hz0 .i64 .i64 N1 N1 (Nat.le_refl _) (by rw [hz2]; omega) (by omega) W
  have HZS := hide (show Z.size = N1 by rw [hZ, size_madeCells, hz1, Nat.mul_one])
  obtain ⟨gl, hgl⟩ : ∃ gl, gl = w4.heap.size := ⟨_, rfl⟩
  obtain ⟨W5, hW5⟩ : ∃ W5, W5 = w4.alloc (.cells Z 3) := ⟨_, rfl⟩
  have HT5 := hide (show BT W5 g g { emptyB with regs := 4 } by rw [hW5]; exact HT4.out.below ((Below.refl _ _).alloc (Nat.le_refl _) _))
  have HGL5 := hide (show Blk W5 gl 3 Z by rw [hW5, hgl]; exact Blk.new _ _ _)
  have HGGL := hide (show g < gl by rw [hgl]; exact HT4.out.bl.lt)
  have HB5 := hide (show Below g w2 W5 by rw [hW5]; exact HB4.out.alloc (by have := HT4.out.bl.lt; omega) _)
  have HW5 := hide hW5
  have HGL := hide hgl
  have HN1 := hide hN1
  clear hZ hgl hW5 hN1
  go_upto_region 9 with (fail)
  rw [← HGL.out, ← HW5.out]
  clear hmk q1
  go_wp2_with fail
  go_loopw [9] (fun ii wr => ∃ (i : Nat) (lv : Value) (cs : Array Value), i ≤ N1 ∧ ii = .int .i64 i ∧ Hid (BT wr g g { emptyB with regs := 4, labels := List.replicate i (-1), lv := lv }) ∧ Hid (∀ k, lv.ownBlock = some k → k ≠ gl) ∧ Hid (Blk wr gl 3 cs ∧ cs.size = N1 ∧ ∀ q, q < i → cs[q]? = some (iI (q : Int))) ∧ Hid (Below g w2 wr)) (fun ii _ => N1 - (intOf ii).toNat)
  case atStart => exact ⟨0, .slice none 0 0, Z, Nat.zero_le _, rfl, HT5, hide (fun k hk => by cases hk), hide ⟨HGL5.out, HZS.out, fun q hq => absurd hq (by omega)⟩, HB5⟩
  case round =>
    obtain ⟨i, lv, cs, hi, rfl, HT, HLV, HBL, HWR⟩ := hrel
    by_cases hlt : i < N1
    · have j1 : (i : Int) ≤ (n : Int) := by have := HN1.out; omega
      have j3 : (i : Int) < (N1 : Int) := by omega
      have j2 : (0 : Int) ≤ (i : Int) := by omega
      have q5 : IntKind.i64.wrap ((i : Int) + 1) = (i : Int) + 1 := IntWalk.i64_in _ (by have := HN1.out; omega)
      have HLB := hide (show Calls Try.prog 9 #[.pointer (some ⟨g, 0, none⟩)] wr (fun e w' => ∃ lv' : Value, e = .returned (.int .i64 (i : Int)) ∧ BT w' g g { emptyB with regs := 4, labels := List.replicate (i + 1) (-1), lv := lv' } ∧ Below g wr w' ∧ Kp g lv.ownBlock wr w' ∧ (lv'.ownBlock = lv.ownBlock ∨ lv'.ownBlock = some (wr.heap.size + 1))) from
        (label_kp g g _ wr HT.out (by show (List.replicate i (-1 : Int)).length ≤ _; rw [List.length_replicate]; have := HN1.out; omega)).mono fun e w' ⟨lv', ⟨h1, h2, h3, h4⟩, h5, h6⟩ => ⟨lv', by rw [h1]; show Ending.returned (.int .i64 ((List.replicate i (-1 : Int)).length : Int)) = _; rw [List.length_replicate], by rw [List.replicate_succ']; exact h2, h4, h5, h6⟩)
      go_upto_region 12 with (fail)
      go_wp2_with fail
      refine HLB.out.mono ?_
      rintro e w6 ⟨lv6, rfl, hT6, hb6, hk6, hat6⟩
      have hgl6 : Blk w6 gl 3 cs := keepB HBL.out.1 hk6 (by have := HGGL.out; omega) (fun e => HLV.out gl e rfl)
      have hlv6 : ∀ k, lv6.ownBlock = some k → k ≠ gl := fun k hk => by
        rcases hat6 with e | e
        · exact HLV.out k (e.symm.trans hk)
        · have e2 : wr.heap.size + 1 = k := by injection e.symm.trans hk
          have := HBL.out.1.lt
          omega
      have HLV6 := hide hlv6
      have y6 : w6.cell? ⟨gl, i, none⟩ = some (cs[i]'(by have := HBL.out.2.1; omega)) := by
        have h := hgl6.cell i
        rw [h]
        exact Array.getElem?_eq_getElem _
      obtain ⟨yv, hyv⟩ : ∃ yv, w6.cell? ⟨gl, i, none⟩ = some yv := ⟨_, y6⟩
      have f6 := hgl6.frozen i
      have HT7 := hide (show BT (w6.setCell ⟨gl, i, none⟩ (.int .i64 (i : Int))) g g { emptyB with regs := 4, labels := List.replicate (i + 1) (-1), lv := lv6 } from
        ⟨hT6.bl.far (p := ⟨gl, i, none⟩) (by have := HGGL.out; show g ≠ gl; omega) _, hT6.br.setCell (k := gl) (i := i) ⟨fun e => by (cases e), fun e => by (cases e), fun e => hlv6 gl e rfl, fun e => by (cases e), fun x hx => by (cases hx)⟩ _, hT6.gB⟩)
      have HGL7 := hide (show Blk (w6.setCell ⟨gl, i, none⟩ (.int .i64 (i : Int))) gl 3 (cs.setIfInBounds i (.int .i64 (i : Int))) ∧ (cs.setIfInBounds i (.int .i64 (i : Int))).size = N1 ∧ ∀ q, q < i + 1 → (cs.setIfInBounds i (.int .i64 (i : Int)))[q]? = some (iI (q : Int)) from
        ⟨hgl6.set_ i _, by simp; exact HBL.out.2.1, fun q hq => by
          by_cases e : q = i
          · subst e
            rw [Array.getElem?_setIfInBounds_self_of_lt (by have := HBL.out.2.1; omega)]
          · rw [Array.getElem?_setIfInBounds_ne (by omega)]
            exact HBL.out.2.2 q (by omega)⟩)
      have HB7 := hide (show Below g w2 (w6.setCell ⟨gl, i, none⟩ (.int .i64 (i : Int))) from (HWR.out.trans hb6).setCell (p := ⟨gl, i, none⟩) (by have := HGGL.out; show g ≤ gl; omega) _)
      clear y6 hT6 hb6 hk6 hat6 hgl6 hlv6
      go_wp2_with fail
      go_roundw
      case rel => exact ⟨i + 1, lv6, _, by omega, by simp, HT7, HLV6, HGL7, HB7⟩
      case measure => simp [intOf]; omega
    · have hin : N1 = i := by omega
      subst hin
      have j1 : ¬ (N1 : Int) ≤ (n : Int) := by have := HN1.out; omega
      obtain ⟨b, hb⟩ : ∃ b : Bd, b = { emptyB with regs := 4, labels := List.replicate N1 (-1), lv := lv } := ⟨_, rfl⟩
      have HT8 := hide (show BT wr g g b by rw [hb]; exact HT.out)
      have HBE := hide hb
      clear hb
      have HAD := hide (show Calls Try.prog 10 #[.pointer (some ⟨g, 0, none⟩), .agg #[.int .i64 5, .int .i64 0, .int .i64 0, .int .i64 0]] wr (fun e w' => ∃ sv, e = .returned (.int .i64 0) ∧ BT w' g g { b with stmts := [⟨5, 0, 0, 0⟩], sv := sv } ∧ Below g wr w' ∧ Kp g none wr w') from by
        have h := add_kp g g b ⟨5, 0, 0, 0⟩ wr HT8.out (by rw [HBE.out]; show 0 ≤ 100000; omega)
        refine Calls.mono h ?_
        rintro e w' ⟨sv, ⟨h1, h2, h3, h4⟩, h5⟩
        rw [HBE.out] at h1 h2 h5 ⊢
        exact ⟨sv, h1, h2, h4, h5⟩)
      go_upto_region 13 with (fail)
      go_wp2_with fail
      refine HAD.out.mono ?_
      rintro e w6 ⟨sv6, rfl, hT6, hb6, hk6⟩
      have HGL6 := hide (keepB HBL.out.1 hk6 (by have := HGGL.out; omega) (fun e => by cases e))
      have HB6 := hide (HWR.out.trans hb6)
      have HST := hide (show Calls Try.prog 11 #[.pointer (some ⟨g, 0, none⟩), .int .i64 0] w6 (fun e w' => e = .returned (.int .i64 (-1)) ∧ BT w' g g { b with stmts := [⟨5, 0, 0, 0⟩], sv := sv6, stmt := 0 } ∧ Below g w6 w' ∧ Kp g none w6 w') from by
        refine Calls.mono (stmt_kp g g _ 0 w6 hT6) ?_
        rintro e w' ⟨⟨h1, h2, h3, h4⟩, h5⟩
        rw [HBE.out] at h1 h2 ⊢
        exact ⟨h1, h2, h4, h5⟩)
      clear hT6 hb6 hk6
      go_wp2_with fail
      refine HST.out.mono ?_
      rintro e w7 ⟨rfl, hT7, hb7, hk7⟩
      have HGL7 := hide (keepB HGL6.out hk7 (by have := HGGL.out; omega) (fun e => by cases e))
      have HB7 := hide (HB6.out.trans hb7)
      obtain ⟨os, hos⟩ : ∃ os : Nat → Nat, ∀ q, os q = (IntKind.u64.wrap (l0.getD q 0)).toNat % 4 := ⟨_, fun _ => rfl⟩
      obtain ⟨ks, hks⟩ : ∃ ks : Nat → Nat, ∀ q, ks q = (IntKind.u64.wrap (l1.getD q 0)).toNat % N1 := ⟨_, fun _ => rfl⟩
      have HO4 := hide (fun q => show os q < 4 by rw [hos]; exact Nat.mod_lt _ (by omega))
      have HKN := hide (fun q => show ks q ≤ n by have := HN1.out; have := Nat.mod_lt (IntKind.u64.wrap (l1.getD q 0)).toNat (show 0 < N1 by omega); rw [← hks q] at this; omega)
      obtain ⟨h0, hh0⟩ : ∃ h0, h0 = w7.heap.size := ⟨_, rfl⟩
      obtain ⟨b0, hb0⟩ : ∃ b0 : Bd, b0 = { b with stmts := [⟨5, 0, 0, 0⟩], sv := sv6, stmt := 0 } := ⟨_, rfl⟩
      have HBI0 := hide (show BI n 0 os ks b0 by
        rw [hb0, HBE.out]
        exact ⟨rfl, rfl, by show List.replicate N1 (-1) = labL n 0; rw [labL_zero, HN1.out], rfl, rfl, rfl, rfl⟩)
      obtain ⟨W8, hW8⟩ : ∃ W8, W8 = w7.alloc (.cells #[] 3) := ⟨_, rfl⟩
      have HX0 := hide (show WX W8 g gl h0 0 cs ks b0 (.slice (some ⟨h0, 0, none⟩) 0 0) by
        have hlt := HGL7.out.lt
        refine ⟨by rw [hW8, hb0]; exact hT7.below ((Below.refl _ _).alloc (Nat.le_refl _) _), by rw [hW8]; exact HGL7.out.alloc _, by rw [hW8, hh0]; exact World.ownsRow_made w7 #[] 0 (Nat.le_refl _) (by simp [maxLen]) (by simp), fun k hk => ?_, fun x hx => ?_, by rw [hb0, HBE.out]; rfl, by have := HGGL.out; rw [hW8]; simp; omega⟩
        · rw [hb0, HBE.out] at hk
          refine ⟨?_, HLV.out k hk⟩
          have h2 := (hT7.br.la.lt k (by rw [HBE.out]; exact hk)).2
          omega
        · rw [hb0, HBE.out] at hx
          cases hx)
      have HB8 := hide (show Below g w2 W8 by rw [hW8]; exact HB7.out.alloc (by have := hT7.bl.lt; omega) _)
      have HH0 := hide hh0
      have HW8 := hide hW8
      have HOS := hide hos
      have HKS := hide hks
      have HCS := hide HBL.out.2
      have HHG := hide (show g < h0 ∧ gl < h0 by have := HX0.out.ge; omega)
      clear hT7 hb7 hk7 hos hks hh0 hb0 hW8 HLV HBL
      go_upto_region 16 with (fail)
      rw [← HH0.out, ← HW8.out]
      go_wp2_with fail
      go_loopw [12, 13] (fun wv ii wr => ∃ (i cw : Nat) (Aw : Option Addr) (b : Bd), i ≤ n ∧ wv = .slice Aw i cw ∧ ii = .int .i64 i ∧ Hid (BI n i os ks b) ∧ Hid (WX wr g gl h0 i cs ks b (.slice Aw i cw)) ∧ Hid (Below g w2 wr)) (fun _ ii _ => n - (intOf ii).toNat)
      case atStart => exact ⟨0, 0, some ⟨h0, 0, none⟩, b0, Nat.zero_le _, rfl, rfl, HBI0, HX0, HB8⟩
      case round =>
        clear hi HT HWR HT8 HBE HAD HB6 HST HGL6 HGL7 HB7 HX0 HB8 HW8 HBI0 HH0
        obtain ⟨i, cw, Aw, b, hi, rfl, rfl, HBI, HX, HWR⟩ := hrel
        by_cases hlt : i < n
        · have j1 : (i : Int) < (n : Int) := by omega
          have j2 : (0 : Int) ≤ (i : Int) := by omega
          have j3 : (i : Int) < (N1 : Int) := by have := HN1.out; omega
          have j4 : (i : Int) < (m1 : Int) := by omega
          have q5 : IntKind.i64.wrap ((i : Int) + 1) = (i : Int) + 1 := IntWalk.i64_in _ (by omega)
          have HBW := hide (HB1.out.trans (HWR.out.mono (by have := HB1.out.size; have := HG.out; omega)))
          have yl : wr.cell? ⟨gl, i, none⟩ = some (.int .i64 (i : Int)) := by
            have h := HX.out.gl_.cell i
            rw [h]
            exact HCS.out.2 i (by have := HN1.out; omega)
          have HMC := hide (mark_kp g g b (i : Int) wr HX.out.bt)
          have HMK := hide (HBI.out.mark (by omega))
          clear hlt
          go_upto_region 19 with (fail)
          go_wp2_with fail
          refine HMC.out.mono ?_
          rintro e w3 ⟨⟨rfl, hT3, hz3, hb3⟩, hk3⟩
          have HX3 := hide (HX.out.kp hT3 hk3 (.inr (.inl rfl)) HMK.out.2.2.2.2.2.2.2.1 (mark_bv b _) (fun x hx => .inl (by rw [HMK.out.2.2.2.1] at hx; exact hx)))
          have HB3 := hide (HWR.out.trans hb3)
          have HBW3 := hide (HB1.out.trans (HB3.out.mono (by have := HB1.out.size; have := HG.out; omega)))
          obtain ⟨ba, oa, x1, rfl, hbla, hx1, yt⟩ := (HI1.out.below HBW3.out (Nat.le_refl _)).at_ (k := i) (by have := HN.out; omega)
          obtain ⟨X1, hX1⟩ : ∃ X1 : Nat, IntKind.u64.wrap x1 = (X1 : Int) := ⟨(IntKind.u64.wrap x1).toNat, (Int.toNat_of_nonneg (by rw [IntKind.wrap_u64]; omega)).symm⟩
          obtain ⟨k, hk⟩ : ∃ k : Nat, k = X1 % N1 := ⟨_, rfl⟩
          have hki : ks i = k := by rw [HKS.out, hk, List.getD_eq_getElem?_getD, hx1]; show (IntKind.u64.wrap x1).toNat % N1 = _; rw [hX1]; rfl
          have hkn : k ≤ n := by rw [← hki]; exact HKN.out i
          have t1 : (X1 : Int).tmod (N1 : Int) = (k : Int) := by rw [hk, Int.ofNat_tmod]
          have q1 : IntKind.i64.wrap ((n : Int) + 1) = (N1 : Int) := by have := HN1.out; rw [IntWalk.i64_in _ (by omega)]; omega
          have q2 : IntKind.u64.wrap (N1 : Int) = (N1 : Int) := IntWalk.u64_in _ (by have := HN1.out; omega)
          have q3 : IntKind.u64.wrap (k : Int) = (k : Int) := IntWalk.u64_in _ (by omega)
          have q4 : IntKind.i64.wrap (k : Int) = (k : Int) := IntWalk.i64_in _ (by omega)
          have i2 : ¬ (N1 : Int) = 0 := by have := HN1.out; omega
          have HKE := hide hki
          have HKL := hide hkn
          clear hT3 hz3 hb3 hk3 hx1 hk hki hkn yl
          go_upto_region 21 with (fail)
          clear yt hX1 t1 q1 q2 q3 q4 i2 hbla
          obtain ⟨W4, hW4⟩ : ∃ W4, W4 = w3.alloc (.cells #[.int .i64 (k : Int)] 3) := ⟨_, rfl⟩
          have hb4 : Below w3.heap.size w3 W4 := by rw [hW4]; exact (Below.refl _ _).alloc (Nat.le_refl _) _
          have HX4 := hide (HX3.out.below hb4)
          have HC4 := hide (show Blk W4 w3.heap.size 3 #[.int .i64 (k : Int)] by rw [hW4]; exact Blk.new _ _ _)
          have HZ4 := hide (show W4.heap.size = w3.heap.size + 1 by rw [hW4]; simp)
          have HB4 := hide (HB3.out.trans (hb4.mono (by have := HX3.out.bt.bl.lt; omega)))
          have HW4 := hide hW4
          clear hW4 hb4
          go_upto_region 22 with (first
            | (at_builtin
               rw [← HW4.out]
               refine wpList_append_any _ rfl (.tmp 79) (.tmp 81) _ rfl h0 3 i0 _ 1 8 Try.underlying22 hi0 hz0 hz1 hz2 rfl (by omega) (.slice Aw i cw) i _ rfl HX4.out.wn (w3.heap.size + 1) (some ⟨w3.heap.size, 0, none⟩) 1 1 [.int .i64 (k : Int)] rfl ?rd ?on ?b1 ?b2 ?sz ?_
               case rd => exact ⟨rfl, fun _ => ⟨_, rfl, Nat.lt_succ_self _, fun q u hu => by rw [Addr.add_lit, Nat.zero_add, HC4.out.cell q]; simpa using hu⟩⟩
               case on => (intro u hu; simp at hu; subst hu; rfl)
               case b1 => (simp only [maxLen]; omega)
               case b2 => omega
               case sz => exact HX4.out.ge.2.2
               intro v6 w6 hown6 hg6 hat6
               have hown6 : w6.ownsRow h0 3 1 v6 (i + 1) ((List.range (i + 1)).map (fun q : Nat => iI (ks q : Int))) := by
                 rw [List.range_succ, List.map_append, List.map_singleton, HKE.out]
                 exact hown6
               have HX6 := hide (HX4.out.grow hg6 hown6 hat6)
               have HB6 := hide (HB4.out.grown hg6 (by have := HX4.out.bt.bl.lt; omega) (fun q hq => by have := (HX4.out.wn.lt q hq).1; have := HHG.out; omega))
               obtain ⟨A6, c6, rfl⟩ := own_formT hown6
               clear hown6 hg6 hat6))
          obtain ⟨gx, hgx⟩ : ∃ gx, gx = w6.heap.size := ⟨_, rfl⟩
          have HGXE := hide hgx
          have HON7 := hide (show ((#[.int .i64 40, .int .i64 0, .int .i64 0, .int .i64 0, .int .i64 (i : Int), .int .i64 0, .string ⟨#[]⟩, .int .i64 0, .int .i64 0, .int .i64 0, .int .i64 0, .string ⟨#[]⟩, .slice none 0 0, .int .i64 0, .int .i64 0, .slice none 0 0, .int .i64 0, .int .i64 0, .int .i64 0, .int .i64 0, .int .i64 0, .int .i64 0] : Array Value)).all (·.oneCell') = true by simp [Value.oneCell'])
          clear hgx
          go_upto_region 23 with (first
            | (refine wpList_store_new 39 (.tmp 15) (.tmp 84) #[.int .i64 40, .int .i64 0, .int .i64 0, .int .i64 0, .int .i64 (i : Int), .int .i64 0, .string ⟨#[]⟩, .int .i64 0, .int .i64 0, .int .i64 0, .int .i64 0, .string ⟨#[]⟩, .slice none 0 0, .int .i64 0, .int .i64 0, .slice none 0 0, .int .i64 0, .int .i64 0, .int .i64 0, .int .i64 0, .int .i64 0, .int .i64 0] (.agg #[.int .i64 40, .int .i64 0, .int .i64 0, .int .i64 0, .int .i64 (i : Int), .int .i64 0, .string ⟨#[]⟩, .int .i64 0, .int .i64 0, .int .i64 0, .int .i64 0, .string ⟨#[]⟩, .slice none 0 0, .int .i64 0, .int .i64 0, .slice none 0 0, .int .i64 0, .int .i64 0, .int .i64 0, .int .i64 0, .int .i64 0, .int .i64 0]) rfl ins_size HON7.out rfl rfl rfl rfl rfl rfl ?_
               intro W7 hbx7 hbw7
               rw [← HGXE.out] at hbx7
               have HBX7 := hide hbx7
               have HBW67 := hide hbw7
               have HX7 := hide (HX6.out.below hbw7)
               have HB7 := hide (HB6.out.trans (hbw7.mono (by have := HX6.out.bt.bl.lt; omega)))
               have HGX := hide (show g ≤ gx ∧ w6.heap.size ≤ gx ∧ gx < W7.heap.size by have := HX6.out.bt.bl.lt; have := HGXE.out; have := HBX7.out.lt; omega)
               clear hbx7 hbw7))
          rw [← HGXE.out]
          have HBW7 := hide (HB1.out.trans (HB7.out.mono (by have := HB1.out.size; have := HG.out; omega)))
          obtain ⟨bo, oo, x0, rfl, hblo, hx0, yo⟩ := (HI0.out.below HBW7.out (Nat.le_refl _)).at_ (k := i) (by have := HN.out; omega)
          obtain ⟨X0, hX0⟩ : ∃ X0 : Nat, IntKind.u64.wrap x0 = (X0 : Int) := ⟨(IntKind.u64.wrap x0).toNat, (Int.toNat_of_nonneg (by rw [IntKind.wrap_u64]; omega)).symm⟩
          have hoi : os i = X0 % 4 := by rw [HOS.out, List.getD_eq_getElem?_getD, hx0]; show (IntKind.u64.wrap x0).toNat % 4 = _; rw [hX0]; rfl
          have ho4 := HO4.out i
          clear hx0 hblo
          rcases b_cases ho4 with ho | ho | ho | ho
          · have HOE := hide (show os i = 0 from ho)
            have t1 : (X0 : Int).tmod 4 = 0 := by
              have h : X0 % 4 = 0 := by omega
              rw [show (4 : Int) = ((4 : Nat) : Int) from rfl, ← Int.ofNat_tmod, h]
              rfl
            clear ho ho4 hoi
            go_upto_region 24 with (fail)
            clear yo hX0 t1
            have yk : W7.cell? ⟨gl, k, none⟩ = some (.int .i64 (k : Int)) := by
              have h := HX7.out.gl_.cell k
              rw [h]
              exact HCS.out.2 k (by have := HN1.out; have := HKL.out; omega)
            have k1 : (k : Int) < (N1 : Int) := by have := HN1.out; have := HKL.out; omega
            have k2 : (0 : Int) ≤ (k : Int) := by omega
            have HON8 := hide (show ((bIns 0 k n i).arr (.slice none 0 0) (.slice none 0 0)).all (·.oneCell') = true by simp [Value.oneCell'])
            obtain ⟨W8, hW8⟩ : ∃ W8, W8 = W7.setRow gx ((bIns 0 k n i).arr (.slice none 0 0) (.slice none 0 0)) := ⟨_, rfl⟩
            obtain ⟨s1, s2, s3⟩ := setRow_facts (cells := (bIns 0 k n i).arr (.slice none 0 0) (.slice none 0 0)) HBX7.out
            rw [← hW8] at s1 s2 s3
            have HBX8 := hide s1
            have HX8 := hide (HX7.out.far HBW67.out ⟨HX6.out.ge.2.2, HX6.out.bt, fun q hq => (HX6.out.wn.lt q hq).2⟩ s2 HGX.out.2.1)
            have HB8 := hide (show Below g w2 W8 from HB7.out.grown s2 (by have := HGX.out; omega) (fun q hq => by injection hq with hq; have := HGX.out; omega))
            have HW8 := hide hW8
            clear hW8 s1 s2 s3
            go_upto_region 30 with (first
              | (refine wpList_store_rowTo rfl 39 (.tmp 15) (.tmp 98) rfl rfl gx ((bIns 0 k n i).arr (.slice none 0 0) (.slice none 0 0)) rfl rfl 39 _ HBX7.out ins_size rfl HON8.out ?_))
            rw [← HW8.out]
            clear yk k1 k2
            obtain ⟨V, hV⟩ : ∃ V, V = Ins.val (bIns 0 k n i) (.slice none 0 0) (.slice none 0 0) := ⟨_, rfl⟩
            have HV := hide hV
            have HPT := hide (put_kp g g (markB b (i : Int)) (bIns 0 k n i) (.slice none 0 0) (.slice none 0 0) W8 HX8.out.bt (fun W _ => ok_nil W _ rfl rfl) ⟨Nat.le_trans (b_len _ _ _ _).1 (by omega), Nat.le_trans (b_len _ _ _ _).2 (by omega)⟩ (by rw [HMK.out.2.2.2.1, HBI.out.len]; omega) (by rw [HMK.out.1]; omega) (by rw [HMK.out.1, HMK.out.2.1]; omega))
            rw [← hV] at HPT
            clear hV
            go_wp2_with (first
              | (refine wpList_load_blk (.tmp 15) HBX8.out HV.out Try.underlying39 rfl ins_size rfl (by kernel_rfl) rfl ?_)
              | (refine wp_load_blk (.tmp 15) HBX8.out HV.out Try.underlying39 rfl ins_size rfl rfl ?_))
            refine HPT.out.mono ?_
            rintro e w9 ⟨rfl, av9, rv9, cv9, hT9, hz9, hb9, hk9, hf9⟩
            have HBI9 := hide (show BI n (i + 1) os ks (putB (markB b (i : Int)) (bIns 0 k n i) av9 rv9 cv9) by
              have h := HBI.out.round (by omega) av9 rv9 cv9
              rw [HOE.out, HKE.out] at h
              exact h)
            have HX9 := hide (show WX w9 g gl h0 (i + 1) cs ks (putB (markB b (i : Int)) (bIns 0 k n i) av9 rv9 cv9) (.slice A6 (i + 1) c6) from HX8.out.kp hT9 hk9 (.inr (.inr rfl)) rfl rfl (fun x hx => by
              have hx : x ∈ (markB b (i : Int)).code ++ [(⟨{ bIns 0 k n i with st := (markB b (i : Int)).stmt }, av9, rv9⟩ : IV)] := hx
              rcases List.mem_append.1 hx with hx | hx
              · exact .inl hx
              · rw [List.mem_singleton.1 hx]
                exact .inr hf9))
            have HB9 := hide (HB8.out.trans hb9)
            clear hT9 hz9 hb9 hk9 hf9
            go_wp2_with fail
            go_roundw
            case rel => exact ⟨i + 1, c6, A6, _, by omega, rfl, by simp, HBI9, HX9, HB9⟩
            case measure => simp [intOf]; omega
          · have HOE := hide (show os i = 1 from ho)
            have t1 : (X0 : Int).tmod 4 = 1 := by
              have h : X0 % 4 = 1 := by omega
              rw [show (4 : Int) = ((4 : Nat) : Int) from rfl, ← Int.ofNat_tmod, h]
              rfl
            clear ho ho4 hoi
            go_upto_region 24 with (fail)
            clear yo hX0 t1
            have yk : W7.cell? ⟨gl, k, none⟩ = some (.int .i64 (k : Int)) := by
              have h := HX7.out.gl_.cell k
              rw [h]
              exact HCS.out.2 k (by have := HN1.out; have := HKL.out; omega)
            have k1 : (k : Int) < (N1 : Int) := by have := HN1.out; have := HKL.out; omega
            have k2 : (0 : Int) ≤ (k : Int) := by omega
            have HON8 := hide (show ((bIns 1 k n i).arr (.slice none 0 0) (.slice none 0 0)).all (·.oneCell') = true by simp [Value.oneCell'])
            obtain ⟨W8, hW8⟩ : ∃ W8, W8 = W7.setRow gx ((bIns 1 k n i).arr (.slice none 0 0) (.slice none 0 0)) := ⟨_, rfl⟩
            obtain ⟨s1, s2, s3⟩ := setRow_facts (cells := (bIns 1 k n i).arr (.slice none 0 0) (.slice none 0 0)) HBX7.out
            rw [← hW8] at s1 s2 s3
            have HBX8 := hide s1
            have HX8 := hide (HX7.out.far HBW67.out ⟨HX6.out.ge.2.2, HX6.out.bt, fun q hq => (HX6.out.wn.lt q hq).2⟩ s2 HGX.out.2.1)
            have HB8 := hide (show Below g w2 W8 from HB7.out.grown s2 (by have := HGX.out; omega) (fun q hq => by injection hq with hq; have := HGX.out; omega))
            have HW8 := hide hW8
            clear hW8 s1 s2 s3
            go_upto_region 30 with (first
              | (refine wpList_store_rowTo rfl 39 (.tmp 15) (.tmp 108) rfl rfl gx ((bIns 1 k n i).arr (.slice none 0 0) (.slice none 0 0)) rfl rfl 39 _ HBX7.out ins_size rfl HON8.out ?_))
            rw [← HW8.out]
            clear yk k1 k2
            obtain ⟨V, hV⟩ : ∃ V, V = Ins.val (bIns 1 k n i) (.slice none 0 0) (.slice none 0 0) := ⟨_, rfl⟩
            have HV := hide hV
            have HPT := hide (put_kp g g (markB b (i : Int)) (bIns 1 k n i) (.slice none 0 0) (.slice none 0 0) W8 HX8.out.bt (fun W _ => ok_nil W _ rfl rfl) ⟨Nat.le_trans (b_len _ _ _ _).1 (by omega), Nat.le_trans (b_len _ _ _ _).2 (by omega)⟩ (by rw [HMK.out.2.2.2.1, HBI.out.len]; omega) (by rw [HMK.out.1]; omega) (by rw [HMK.out.1, HMK.out.2.1]; omega))
            rw [← hV] at HPT
            clear hV
            go_wp2_with (first
              | (refine wpList_load_blk (.tmp 15) HBX8.out HV.out Try.underlying39 rfl ins_size rfl (by kernel_rfl) rfl ?_)
              | (refine wp_load_blk (.tmp 15) HBX8.out HV.out Try.underlying39 rfl ins_size rfl rfl ?_))
            refine HPT.out.mono ?_
            rintro e w9 ⟨rfl, av9, rv9, cv9, hT9, hz9, hb9, hk9, hf9⟩
            have HBI9 := hide (show BI n (i + 1) os ks (putB (markB b (i : Int)) (bIns 1 k n i) av9 rv9 cv9) by
              have h := HBI.out.round (by omega) av9 rv9 cv9
              rw [HOE.out, HKE.out] at h
              exact h)
            have HX9 := hide (show WX w9 g gl h0 (i + 1) cs ks (putB (markB b (i : Int)) (bIns 1 k n i) av9 rv9 cv9) (.slice A6 (i + 1) c6) from HX8.out.kp hT9 hk9 (.inr (.inr rfl)) rfl rfl (fun x hx => by
              have hx : x ∈ (markB b (i : Int)).code ++ [(⟨{ bIns 1 k n i with st := (markB b (i : Int)).stmt }, av9, rv9⟩ : IV)] := hx
              rcases List.mem_append.1 hx with hx | hx
              · exact .inl hx
              · rw [List.mem_singleton.1 hx]
                exact .inr hf9))
            have HB9 := hide (HB8.out.trans hb9)
            clear hT9 hz9 hb9 hk9 hf9
            go_wp2_with fail
            go_roundw
            case rel => exact ⟨i + 1, c6, A6, _, by omega, rfl, by simp, HBI9, HX9, HB9⟩
            case measure => simp [intOf]; omega
          · have HOE := hide (show os i = 2 from ho)
            have t1 : (X0 : Int).tmod 4 = 2 := by
              have h : X0 % 4 = 2 := by omega
              rw [show (4 : Int) = ((4 : Nat) : Int) from rfl, ← Int.ofNat_tmod, h]
              rfl
            clear ho ho4 hoi
            go_upto_region 24 with (fail)
            clear yo hX0 t1
            have yk : W7.cell? ⟨gl, k, none⟩ = some (.int .i64 (k : Int)) := by
              have h := HX7.out.gl_.cell k
              rw [h]
              exact HCS.out.2 k (by have := HN1.out; have := HKL.out; omega)
            have k1 : (k : Int) < (N1 : Int) := by have := HN1.out; have := HKL.out; omega
            have k2 : (0 : Int) ≤ (k : Int) := by omega
            have yn : W7.cell? ⟨gl, n, none⟩ = some (.int .i64 (n : Int)) := by
              have h := HX7.out.gl_.cell n
              rw [h]
              exact HCS.out.2 n (by have := HN1.out; omega)
            have k3 : (n : Int) < (N1 : Int) := by have := HN1.out; omega
            have k4 : (0 : Int) ≤ (n : Int) := by omega
            have hS0 : W7.cell? ⟨gl, k, none⟩ = some (.int .i64 (k : Int)) ∧ W7.cell? ⟨gl, n, none⟩ = some (.int .i64 (n : Int)) ∧ Blk W7 gx 39 #[.int .i64 40, .int .i64 0, .int .i64 0, .int .i64 0, .int .i64 (i : Int), .int .i64 0, .string ⟨#[]⟩, .int .i64 0, .int .i64 0, .int .i64 0, .int .i64 0, .string ⟨#[]⟩, .slice none 0 0, .int .i64 0, .int .i64 0, .slice none 0 0, .int .i64 0, .int .i64 0, .int .i64 0, .int .i64 0, .int .i64 0, .int .i64 0] := ⟨yk, yn, HBX7.out⟩
            have HSA := hide (fun (W : World) (hW : Below W7.heap.size W7 W) => show W.cell? ⟨gl, k, none⟩ = some (.int .i64 (k : Int)) ∧ W.cell? ⟨gl, n, none⟩ = some (.int .i64 (n : Int)) ∧ Blk W gx 39 #[.int .i64 40, .int .i64 0, .int .i64 0, .int .i64 0, .int .i64 (i : Int), .int .i64 0, .string ⟨#[]⟩, .int .i64 0, .int .i64 0, .int .i64 0, .int .i64 0, .string ⟨#[]⟩, .slice none 0 0, .int .i64 0, .int .i64 0, .slice none 0 0, .int .i64 0, .int .i64 0, .int .i64 0, .int .i64 0, .int .i64 0, .int .i64 0] from
              ⟨(hW.cell (p := ⟨gl, k, none⟩) HX7.out.gl_.lt).trans yk, (hW.cell (p := ⟨gl, n, none⟩) HX7.out.gl_.lt).trans yn, HBX7.out.below hW HBX7.out.lt⟩)
            clear yk yn
            go_wp2_with fail
            refine wp_region_tail 13 (fun w' => w'.cell? ⟨gl, k, none⟩ = some (.int .i64 (k : Int)) ∧ w'.cell? ⟨gl, n, none⟩ = some (.int .i64 (n : Int)) ∧ Blk w' gx 39 #[.int .i64 40, .int .i64 0, .int .i64 0, .int .i64 0, .int .i64 (i : Int), .int .i64 0, .string ⟨#[]⟩, .int .i64 0, .int .i64 0, .int .i64 0, .int .i64 0, .string ⟨#[]⟩, .slice none 0 0, .int .i64 0, .int .i64 0, .slice none 0 0, .int .i64 0, .int .i64 0, .int .i64 0, .int .i64 0, .int .i64 0, .int .i64 0]) (by kernel_rfl) hS0 (fun hHeld => ?_)
            try simp only [Act.put, List.setIfInBounds_toArray, List.set_cons_zero, List.set_cons_succ]
            refine' wpTail_take (i := 0) (oi := _) ?hi5001 ?hs5001 ?hf5001 ?hr5001 ?hz5001 ?hQ5001 (v := _) (Or.inl ⟨?hw5001, ?hy5001⟩) (by assumption) ?_
            case hi5001 => (simp only [List.getElem?_toArray, List.getElem?_cons_zero]; exact rfl)
            case hs5001 => kernel_rfl
            case hf5001 => kernel_rfl
            case hr5001 => kernel_rfl
            case hz5001 => kernel_rfl
            case hQ5001 => exact fun _ _ _ h => h
            case hw5001 => rfl
            case hy5001 => (intro W0 hSw; (try dsimp only at hSw); go_simp; (try with_reducible rfl))
            try simp only [Act.put, List.setIfInBounds_toArray, List.set_cons_zero, List.set_cons_succ]
            refine' wpTail_take (i := 1) (oi := _) ?hi5002 ?hs5002 ?hf5002 ?hr5002 ?hz5002 ?hQ5002 (v := _) (Or.inl ⟨?hw5002, ?hy5002⟩) (by assumption) ?_
            case hi5002 => (simp only [List.getElem?_toArray, List.getElem?_cons_succ, List.getElem?_cons_zero]; exact rfl)
            case hs5002 => kernel_rfl
            case hf5002 => kernel_rfl
            case hr5002 => kernel_rfl
            case hz5002 => kernel_rfl
            case hQ5002 => exact fun _ _ _ h => h
            case hw5002 => rfl
            case hy5002 => (intro W0 hSw; (try dsimp only at hSw); go_simp; (try with_reducible rfl))
            try simp only [Act.put, List.setIfInBounds_toArray, List.set_cons_zero, List.set_cons_succ]
            refine' wpTail_take (i := 2) (oi := _) ?hi5003 ?hs5003 ?hf5003 ?hr5003 ?hz5003 ?hQ5003 (v := _) (Or.inl ⟨?hw5003, ?hy5003⟩) (by assumption) ?_
            case hi5003 => (simp only [List.getElem?_toArray, List.getElem?_cons_succ, List.getElem?_cons_zero]; exact rfl)
            case hs5003 => kernel_rfl
            case hf5003 => kernel_rfl
            case hr5003 => kernel_rfl
            case hz5003 => kernel_rfl
            case hQ5003 => exact fun _ _ _ h => h
            case hw5003 => rfl
            case hy5003 => (intro W0 hSw; (try dsimp only at hSw); go_simp; (try with_reducible rfl))
            try simp only [Act.put, List.setIfInBounds_toArray, List.set_cons_zero, List.set_cons_succ]
            refine' wpTail_take (i := 3) (oi := _) ?hi5004 ?hs5004 ?hf5004 ?hr5004 ?hz5004 ?hQ5004 (v := _) (Or.inl ⟨?hw5004, ?hy5004⟩) (by assumption) ?_
            case hi5004 => (simp only [List.getElem?_toArray, List.getElem?_cons_succ, List.getElem?_cons_zero]; exact rfl)
            case hs5004 => kernel_rfl
            case hf5004 => kernel_rfl
            case hr5004 => kernel_rfl
            case hz5004 => kernel_rfl
            case hQ5004 => exact fun _ _ _ h => h
            case hw5004 => rfl
            case hy5004 => (intro W0 hSw; (try dsimp only at hSw); go_simp; (try with_reducible rfl))
            try simp only [Act.put, List.setIfInBounds_toArray, List.set_cons_zero, List.set_cons_succ]
            refine' wpTail_take (i := 4) (oi := _) ?hi5005 ?hs5005 ?hf5005 ?hr5005 ?hz5005 ?hQ5005 (v := _) (Or.inl ⟨?hw5005, ?hy5005⟩) (by assumption) ?_
            case hi5005 => (simp only [List.getElem?_toArray, List.getElem?_cons_succ, List.getElem?_cons_zero]; exact rfl)
            case hs5005 => kernel_rfl
            case hf5005 => kernel_rfl
            case hr5005 => kernel_rfl
            case hz5005 => kernel_rfl
            case hQ5005 => exact fun _ _ _ h => h
            case hw5005 => rfl
            case hy5005 => (intro W0 hSw; (try dsimp only at hSw); have y4 : W0.cell? ⟨gl, k, none⟩ = some (.int .i64 (k : Int)) := hSw.1; go_simp; (try with_reducible rfl))
            try simp only [Act.put, List.setIfInBounds_toArray, List.set_cons_zero, List.set_cons_succ]
            refine' wpTail_take (i := 5) (oi := _) ?hi5006 ?hs5006 ?hf5006 ?hr5006 ?hz5006 ?hQ5006 (v := _) (Or.inl ⟨?hw5006, ?hy5006⟩) (by assumption) ?_
            case hi5006 => (simp only [List.getElem?_toArray, List.getElem?_cons_succ, List.getElem?_cons_zero]; exact rfl)
            case hs5006 => kernel_rfl
            case hf5006 => kernel_rfl
            case hr5006 => kernel_rfl
            case hz5006 => kernel_rfl
            case hQ5006 => exact fun _ _ _ h => h
            case hw5006 => rfl
            case hy5006 => (intro W0 hSw; (try dsimp only at hSw); go_simp; (try with_reducible rfl))
            try simp only [Act.put, List.setIfInBounds_toArray, List.set_cons_zero, List.set_cons_succ]
            refine' wpTail_take (i := 6) (oi := _) ?hi5007 ?hs5007 ?hf5007 ?hr5007 ?hz5007 ?hQ5007 (v := _) (Or.inl ⟨?hw5007, ?hy5007⟩) (by assumption) ?_
            case hi5007 => (simp only [List.getElem?_toArray, List.getElem?_cons_succ, List.getElem?_cons_zero]; exact rfl)
            case hs5007 => kernel_rfl
            case hf5007 => kernel_rfl
            case hr5007 => kernel_rfl
            case hz5007 => kernel_rfl
            case hQ5007 => exact fun _ _ _ h => h
            case hw5007 => rfl
            case hy5007 => (intro W0 hSw; (try dsimp only at hSw); go_simp; (try with_reducible rfl))
            try simp only [Act.put, List.setIfInBounds_toArray, List.set_cons_zero, List.set_cons_succ]
            refine' wpTail_take (i := 7) (oi := _) ?hi5008 ?hs5008 ?hf5008 ?hr5008 ?hz5008 ?hQ5008 (v := _) (Or.inl ⟨?hw5008, ?hy5008⟩) (by assumption) ?_
            case hi5008 => (simp only [List.getElem?_toArray, List.getElem?_cons_succ, List.getElem?_cons_zero]; exact rfl)
            case hs5008 => kernel_rfl
            case hf5008 => kernel_rfl
            case hr5008 => kernel_rfl
            case hz5008 => kernel_rfl
            case hQ5008 => exact fun _ _ _ h => h
            case hw5008 => rfl
            case hy5008 => (intro W0 hSw; (try dsimp only at hSw); go_simp; (try with_reducible rfl))
            try simp only [Act.put, List.setIfInBounds_toArray, List.set_cons_zero, List.set_cons_succ]
            refine' wpTail_take (i := 8) (oi := _) ?hi5009 ?hs5009 ?hf5009 ?hr5009 ?hz5009 ?hQ5009 (v := _) (Or.inl ⟨?hw5009, ?hy5009⟩) (by assumption) ?_
            case hi5009 => (simp only [List.getElem?_toArray, List.getElem?_cons_succ, List.getElem?_cons_zero]; exact rfl)
            case hs5009 => kernel_rfl
            case hf5009 => kernel_rfl
            case hr5009 => kernel_rfl
            case hz5009 => kernel_rfl
            case hQ5009 => exact fun _ _ _ h => h
            case hw5009 => rfl
            case hy5009 => (intro W0 hSw; (try dsimp only at hSw); go_simp; (try with_reducible rfl))
            try simp only [Act.put, List.setIfInBounds_toArray, List.set_cons_zero, List.set_cons_succ]
            refine' wpTail_take (i := 9) (oi := _) ?hi5010 ?hs5010 ?hf5010 ?hr5010 ?hz5010 ?hQ5010 (v := _) (Or.inl ⟨?hw5010, ?hy5010⟩) (by assumption) ?_
            case hi5010 => (simp only [List.getElem?_toArray, List.getElem?_cons_succ, List.getElem?_cons_zero]; exact rfl)
            case hs5010 => kernel_rfl
            case hf5010 => kernel_rfl
            case hr5010 => kernel_rfl
            case hz5010 => kernel_rfl
            case hQ5010 => exact fun _ _ _ h => h
            case hw5010 => rfl
            case hy5010 => (intro W0 hSw; (try dsimp only at hSw); have y9 : W0.cell? ⟨gl, n, none⟩ = some (.int .i64 (n : Int)) := hSw.2.1; go_simp; (try with_reducible rfl))
            try simp only [Act.put, List.setIfInBounds_toArray, List.set_cons_zero, List.set_cons_succ]
            refine' wpTail_take (i := 10) (oi := _) ?hi5011 ?hs5011 ?hf5011 ?hr5011 ?hz5011 ?hQ5011 (v := _) (Or.inl ⟨?hw5011, ?hy5011⟩) (by assumption) ?_
            case hi5011 => (simp only [List.getElem?_toArray, List.getElem?_cons_succ, List.getElem?_cons_zero]; exact rfl)
            case hs5011 => kernel_rfl
            case hf5011 => kernel_rfl
            case hr5011 => kernel_rfl
            case hz5011 => kernel_rfl
            case hQ5011 => exact fun _ _ _ h => h
            case hw5011 => rfl
            case hy5011 => (intro W0 hSw; (try dsimp only at hSw); go_simp; (try with_reducible rfl))
            try simp only [Act.put, List.setIfInBounds_toArray, List.set_cons_zero, List.set_cons_succ]
            refine' wpTail_one (i := 11) (o := _) (by kernel_rfl) ?ho5012 ?hw5012 (fun K hK => ?_)
            case ho5012 => (simp only [List.getElem?_toArray, List.getElem?_cons_succ, List.getElem?_cons_zero]; exact rfl)
            case hw5012 => rfl
            go_simp
            refine hK.out _ _ (fun _ => HSA.out _ ((Below.refl W7.heap.size W7).alloc (Nat.le_refl _) _).drew) ?_
            clear hK K
            obtain ⟨ga, hga⟩ : ∃ ga, ga = W7.heap.size := ⟨_, rfl⟩
            obtain ⟨WA, hWA⟩ : ∃ WA, WA = (W7.alloc (.cells #[.int .i64 3, .int .i64 0, .int .i64 0, .int .i64 0, .int .i64 0, .int .i64 (k : Int), .int .i64 3, .int .i64 0, .int .i64 0, .int .i64 0, .int .i64 0, .int .i64 (n : Int)] 41)).drew := ⟨_, rfl⟩
            have hba : Below W7.heap.size W7 WA := by rw [hWA]; exact ((Below.refl W7.heap.size W7).alloc (Nat.le_refl _) _).drew
            have hca : Blk WA ga 41 #[.int .i64 3, .int .i64 0, .int .i64 0, .int .i64 0, .int .i64 0, .int .i64 (k : Int), .int .i64 3, .int .i64 0, .int .i64 0, .int .i64 0, .int .i64 0, .int .i64 (n : Int)] := by rw [hWA, hga]; exact (Blk.new W7 41 #[.int .i64 3, .int .i64 0, .int .i64 0, .int .i64 0, .int .i64 0, .int .i64 (k : Int), .int .i64 3, .int .i64 0, .int .i64 0, .int .i64 0, .int .i64 0, .int .i64 (n : Int)]).below (Below.refl _ _).drew (Blk.new W7 41 #[.int .i64 3, .int .i64 0, .int .i64 0, .int .i64 0, .int .i64 0, .int .i64 (k : Int), .int .i64 3, .int .i64 0, .int .i64 0, .int .i64 0, .int .i64 0, .int .i64 (n : Int)]).lt
            rw [← hWA, ← hga]
            have HBA := hide hba
            have HCA := hide hca
            have HGA := hide (show g < ga ∧ gx < ga by have := HX7.out.bt.bl.lt; have := HBX7.out.lt; omega)
            clear hWA hga hba hca
            try simp only [Act.put, List.setIfInBounds_toArray, List.set_cons_zero, List.set_cons_succ]
            refine' wpTail_one (i := 12) (o := _) (by kernel_rfl) ?ho5013 ?hw5013 (fun K hK => ?_)
            case ho5013 => (simp only [List.getElem?_toArray, List.getElem?_cons_succ, List.getElem?_cons_zero]; exact rfl)
            case hw5013 => rfl
            go_simp
            refine hK.out _ _ (fun _ => HSA.out _ HBA.out) ?_
            clear hK K
            try simp only [Act.put, List.setIfInBounds_toArray, List.set_cons_zero, List.set_cons_succ]
            refine' wpTail_one (i := 13) (o := _) (by kernel_rfl) ?ho5014 ?hw5014 (fun K hK => ?_)
            case ho5014 => (simp only [List.getElem?_toArray, List.getElem?_cons_succ, List.getElem?_cons_zero]; exact rfl)
            case hw5014 => rfl
            have hone : ((bIns 2 k n i).arr (.slice none 0 0) (.slice (some ⟨ga, 0, none⟩) 2 2)).all (·.oneCell') = true := by simp [Value.oneCell']
            refine wp_store_row 39 (.tmp 15) (.tmp 123) rfl gx ((bIns 2 k n i).arr (.slice none 0 0) (.slice (some ⟨ga, 0, none⟩) 2 2)) rfl rfl 39 _ (HSA.out _ HBA.out).2.2 ins_size rfl hone ?_
            obtain ⟨W8, hW8⟩ : ∃ W8, W8 = WA.setRow gx ((bIns 2 k n i).arr (.slice none 0 0) (.slice (some ⟨ga, 0, none⟩) 2 2)) := ⟨_, rfl⟩
            obtain ⟨s1, s2, s3⟩ := setRow_facts (cells := (bIns 2 k n i).arr (.slice none 0 0) (.slice (some ⟨ga, 0, none⟩) 2 2)) (HSA.out _ HBA.out).2.2
            rw [← hW8] at s1 s2 s3 ⊢
            have HBX8 := hide s1
            have HX8 := hide ((HX7.out.below HBA.out).far (HBW67.out.trans (HBA.out.mono HBW67.out.size)) ⟨HX6.out.ge.2.2, HX6.out.bt, fun q hq => (HX6.out.wn.lt q hq).2⟩ s2 HGX.out.2.1)
            have HB8 := hide (show Below g w2 W8 from (HB7.out.trans (HBA.out.mono (by have := HGX.out; omega))).grown s2 (by have := HGX.out; have := HBA.out.size; omega) (fun q hq => by injection hq with hq; have := HGX.out; omega))
            have HC8 := hide (show Blk W8 ga 41 #[.int .i64 3, .int .i64 0, .int .i64 0, .int .i64 0, .int .i64 0, .int .i64 (k : Int), .int .i64 3, .int .i64 0, .int .i64 0, .int .i64 0, .int .i64 0, .int .i64 (n : Int)] from (s2.block ga HCA.out.lt (fun e => by injection e with e; have := HGA.out; omega)).trans HCA.out)
            clear hW8 s1 s2 s3 hone
            refine hK.out _ _ (fun h => absurd rfl h) ?_
            clear hK K
            refine wpTail_done (by kernel_rfl) ?_ _
            try simp only [Act.put, List.setIfInBounds_toArray, List.set_cons_zero, List.set_cons_succ]
            clear hHeld hS0 k1 k2 k3 k4
            go_upto_region 30 with (fail)
            obtain ⟨V, hV⟩ : ∃ V, V = Ins.val (bIns 2 k n i) (.slice none 0 0) (.slice (some ⟨ga, 0, none⟩) 2 2) := ⟨_, rfl⟩
            have HV := hide hV
            have HPT := hide (put_kp g g (markB b (i : Int)) (bIns 2 k n i) (.slice none 0 0) (.slice (some ⟨ga, 0, none⟩) 2 2) W8 HX8.out.bt (fun W hW => ⟨(ok_nil W (bIns 3 k n i) rfl rfl).ar, arms_two ((hW.2 ga (by have := HGA.out; omega) HC8.out.lt).trans HC8.out)⟩) ⟨Nat.le_trans (b_len _ _ _ _).1 (by omega), Nat.le_trans (b_len _ _ _ _).2 (by omega)⟩ (by rw [HMK.out.2.2.2.1, HBI.out.len]; omega) (by rw [HMK.out.1]; omega) (by rw [HMK.out.1, HMK.out.2.1]; omega))
            rw [← hV] at HPT
            clear hV
            go_wp2_with (first
              | (refine wpList_load_blk (.tmp 15) HBX8.out HV.out Try.underlying39 rfl ins_size rfl (by kernel_rfl) rfl ?_)
              | (refine wp_load_blk (.tmp 15) HBX8.out HV.out Try.underlying39 rfl ins_size rfl rfl ?_))
            refine HPT.out.mono ?_
            rintro e w9 ⟨rfl, av9, rv9, cv9, hT9, hz9, hb9, hk9, hf9⟩
            have HBI9 := hide (show BI n (i + 1) os ks (putB (markB b (i : Int)) (bIns 2 k n i) av9 rv9 cv9) by
              have h := HBI.out.round (by omega) av9 rv9 cv9
              rw [HOE.out, HKE.out] at h
              exact h)
            have HX9 := hide (show WX w9 g gl h0 (i + 1) cs ks (putB (markB b (i : Int)) (bIns 2 k n i) av9 rv9 cv9) (.slice A6 (i + 1) c6) from HX8.out.kp hT9 hk9 (.inr (.inr rfl)) rfl rfl (fun x hx => by
              have hx : x ∈ (markB b (i : Int)).code ++ [(⟨{ bIns 2 k n i with st := (markB b (i : Int)).stmt }, av9, rv9⟩ : IV)] := hx
              rcases List.mem_append.1 hx with hx | hx
              · exact .inl hx
              · rw [List.mem_singleton.1 hx]
                exact .inr hf9))
            have HB9 := hide (HB8.out.trans hb9)
            clear hT9 hz9 hb9 hk9 hf9
            go_wp2_with fail
            go_roundw
            case rel => exact ⟨i + 1, c6, A6, _, by omega, rfl, by simp, HBI9, HX9, HB9⟩
            case measure => simp [intOf]; omega
          · have HOE := hide (show os i = 3 from ho)
            have t1 : (X0 : Int).tmod 4 = 3 := by
              have h : X0 % 4 = 3 := by omega
              rw [show (4 : Int) = ((4 : Nat) : Int) from rfl, ← Int.ofNat_tmod, h]
              rfl
            clear ho ho4 hoi
            go_upto_region 24 with (fail)
            clear yo hX0 t1
            obtain ⟨W8, hW8⟩ : ∃ W8, W8 = W7 := ⟨_, rfl⟩
            have HX8 := hide (show WX W8 g gl h0 (i + 1) cs ks (markB b (i : Int)) (.slice A6 (i + 1) c6) by rw [hW8]; exact HX7.out)
            have HBX8 := hide (show Blk W8 gx 39 ((bIns 3 k n i).arr (.slice none 0 0) (.slice none 0 0)) by rw [hW8]; exact HBX7.out)
            have HB8 := hide (show Below g w2 W8 by rw [hW8]; exact HB7.out)
            have HW8 := hide hW8
            clear hW8
            go_upto_region 30 with (fail)
            rw [← HW8.out]
            obtain ⟨V, hV⟩ : ∃ V, V = Ins.val (bIns 3 k n i) (.slice none 0 0) (.slice none 0 0) := ⟨_, rfl⟩
            have HV := hide hV
            have HPT := hide (put_kp g g (markB b (i : Int)) (bIns 3 k n i) (.slice none 0 0) (.slice none 0 0) W8 HX8.out.bt (fun W _ => ok_nil W _ rfl rfl) ⟨Nat.le_trans (b_len _ _ _ _).1 (by omega), Nat.le_trans (b_len _ _ _ _).2 (by omega)⟩ (by rw [HMK.out.2.2.2.1, HBI.out.len]; omega) (by rw [HMK.out.1]; omega) (by rw [HMK.out.1, HMK.out.2.1]; omega))
            rw [← hV] at HPT
            clear hV
            go_wp2_with (first
              | (refine wpList_load_blk (.tmp 15) HBX8.out HV.out Try.underlying39 rfl ins_size rfl (by kernel_rfl) rfl ?_)
              | (refine wp_load_blk (.tmp 15) HBX8.out HV.out Try.underlying39 rfl ins_size rfl rfl ?_))
            refine HPT.out.mono ?_
            rintro e w9 ⟨rfl, av9, rv9, cv9, hT9, hz9, hb9, hk9, hf9⟩
            have HBI9 := hide (show BI n (i + 1) os ks (putB (markB b (i : Int)) (bIns 3 k n i) av9 rv9 cv9) by
              have h := HBI.out.round (by omega) av9 rv9 cv9
              rw [HOE.out, HKE.out] at h
              exact h)
            have HX9 := hide (show WX w9 g gl h0 (i + 1) cs ks (putB (markB b (i : Int)) (bIns 3 k n i) av9 rv9 cv9) (.slice A6 (i + 1) c6) from HX8.out.kp hT9 hk9 (.inr (.inr rfl)) rfl rfl (fun x hx => by
              have hx : x ∈ (markB b (i : Int)).code ++ [(⟨{ bIns 3 k n i with st := (markB b (i : Int)).stmt }, av9, rv9⟩ : IV)] := hx
              rcases List.mem_append.1 hx with hx | hx
              · exact .inl hx
              · rw [List.mem_singleton.1 hx]
                exact .inr hf9))
            have HB9 := hide (HB8.out.trans hb9)
            clear hT9 hz9 hb9 hk9 hf9
            go_wp2_with fail
            go_roundw
            case rel => exact ⟨i + 1, c6, A6, _, by omega, rfl, by simp, HBI9, HX9, HB9⟩
            case measure => simp [intOf]; omega
        · have hin : n = i := by omega
          subst hin
          have j1 : ¬ (n : Int) < (n : Int) := by omega
          have j2 : (0 : Int) ≤ (n : Int) := by omega
          have j3 : (n : Int) < (N1 : Int) := by have := HN1.out; omega
          have yl : wr.cell? ⟨gl, n, none⟩ = some (.int .i64 (n : Int)) := by
            have h := HX.out.gl_.cell n
            rw [h]
            exact HCS.out.2 n (by have := HN1.out; omega)
          have HMC := hide (mark_kp g g b (n : Int) wr HX.out.bt)
          have HMK := hide (HBI.out.mark (Nat.le_refl n))
          clear hlt hi
          go_upto_region 31 with (fail)
          go_wp2_with fail
          refine HMC.out.mono ?_
          rintro e w3 ⟨⟨rfl, hT3, hz3, hb3⟩, hk3⟩
          have HX3 := hide (HX.out.kp hT3 hk3 (.inr (.inl rfl)) HMK.out.2.2.2.2.2.2.2.1 (mark_bv b _) (fun x hx => .inl (by rw [HMK.out.2.2.2.1] at hx; exact hx)))
          have HB3 := hide (HWR.out.trans hb3)
          have HPT := hide (put_kp g g (markB b (n : Int)) (rIns n) (.slice none 0 0) (.slice none 0 0) w3 HX3.out.bt (fun W _ => ok_nil W _ rfl rfl) ⟨by show 0 ≤ 100000; omega, by show 0 ≤ 100000; omega⟩ (by rw [HMK.out.2.2.2.1, HBI.out.len]; omega) (by rw [HMK.out.1]; omega) (by rw [HMK.out.1, HMK.out.2.1]; omega))
          clear hT3 hz3 hb3 hk3 yl j1 j2 j3
          go_wp2_with fail
          refine HPT.out.mono ?_
          rintro e w9 ⟨rfl, av9, rv9, cv9, hT9, hz9, hb9, hk9, hf9⟩
          obtain ⟨b9, hb9e⟩ : ∃ b9, b9 = putB (markB b (n : Int)) (rIns n) av9 rv9 cv9 := ⟨_, rfl⟩
          have HBE9 := hide (show BE n os ks b9 by rw [hb9e]; exact HBI.out.last av9 rv9 cv9)
          have HX9 := hide (show WX w9 g gl h0 n cs ks b9 (.slice Aw n cw) by
            rw [hb9e]
            exact HX3.out.kp hT9 hk9 (.inr (.inr rfl)) rfl rfl (fun x hx => by
              have hx : x ∈ (markB b (n : Int)).code ++ [(⟨{ rIns n with st := (markB b (n : Int)).stmt }, av9, rv9⟩ : IV)] := hx
              rcases List.mem_append.1 hx with hx | hx
              · exact .inl hx
              · rw [List.mem_singleton.1 hx]
                exact .inr hf9))
          have HB9 := hide (HB3.out.trans hb9)
          have HFN := hide (show Calls Try.prog 14 #[.pointer (some ⟨g, 0, none⟩)] w9 (fun e w' => Below w9.heap.size w9 w' ∧ ∃ v sv L, e = .returned (.tuple #[v, iI 4, sv, iI 0]) ∧ L.map IV.i = b9.code.map (fun x => placedI b9 x.i) ∧ RV w' w9.heap.size v L ∧ w'.ownsRow w9.heap.size 32 4 sv b9.stmts.length (b9.stmts.flatMap Sm.enc)) from by
            have hbe := HBE9.out
            have hfin := fin_any g g b9 w9 HX9.out.bt ⟨by rw [hbe.len]; omega, fun x hx => by
              rcases hbe.el x hx with ⟨q, _, he⟩ | he
              · rw [he]; have := b_len (os q) (ks q) n q; omega
              · rw [he]; exact ⟨by show 0 ≤ 100000; omega, by show 0 ≤ 100000; omega⟩⟩ ⟨by rw [hbe.bey]; show 0 ≤ 100000; omega, by rw [hbe.stmts]; omega⟩
            refine hfin.mono ?_
            rintro e w' ⟨h1, h2⟩
            rw [if_neg (by
              rintro (h | h | h)
              · rw [hbe.ends] at h; cases h
              · rw [hbe.lost HO4.out HKN.out] at h; cases h
              · rw [hbe.beyond] at h; cases h), if_neg (by rw [hbe.long hn60]; decide), hbe.regs] at h2
            exact ⟨h1, h2⟩)
          clear hb9e hT9 hz9 hb9 hk9 hf9
          go_wp2_with fail
          refine HFN.out.mono ?_
          rintro e w10 ⟨hb10, v10, sv10, L, rfl, hL, hRV, hSV⟩
          have hLF := HBE9.out.fin HO4.out HKN.out hL
          have hln : L.length = N1 := by
            have := congrArg List.length hLF
            have h1 := HN1.out
            simp at this
            omega
          have hrv := hRV.row
          rw [hln] at hrv
          obtain ⟨A10, c10, rfl⟩ := own_formT hrv
          rw [HBE9.out.stmts] at hSV
          obtain ⟨As10, cs10, rfl⟩ := own_formT hSV
          have HROW := hide (show InssAt w10 (.slice A10 N1 c10) L from RowAt.own IV.enc_length (by rw [hln]; exact hrv))
          have HEL := hide (fun (y : IV) (hy : y ∈ L) => show InsOk w10 y.i y.av y.rv from ⟨IntsAt.own (hRV.el y hy).1, RowAt.own Arm.enc_length (hRV.el y hy).2⟩)
          have HLF := hide hLF
          have HLN := hide hln
          have HWN := hide (show IntsAt w10 (.slice Aw n cw) ((List.range n).map (fun q : Nat => (ks q : Int))) from IntsAt.own (by
            have h := own_belowT HX9.out.wn hb10
            rw [List.length_map, List.length_range, List.map_map]
            exact h))
          have HB10 := hide (HB9.out.trans (hb10.mono (by have := HX9.out.bt.bl.lt; omega)))
          have q1 : IntKind.i64.wrap ((n : Int) + 1) = (N1 : Int) := by have := HN1.out; rw [IntWalk.i64_in _ (by omega)]; omega
          clear hb10 hL hRV hSV hLF hln hrv
          go_wp2_with fail
          clear q1
          go_loopw [20] (fun ii wr => ∃ i : Nat, i ≤ n ∧ ii = .int .i64 i ∧ Hid (Below w10.heap.size w10 wr)) (fun ii _ => n - (intOf ii).toNat)
          case atStart => exact ⟨0, Nat.zero_le _, rfl, hide (Below.refl _ _)⟩
          case round =>
            obtain ⟨i, hi, rfl, HWI⟩ := hrel
            by_cases hlt : i < n
            · have j1 : (i : Int) < (n : Int) := by omega
              have j2 : (0 : Int) ≤ (i : Int) := by omega
              have j3 : (i : Int) < (N1 : Int) := by have := HN1.out; omega
              have q5 : IntKind.i64.wrap ((i : Int) + 1) = (i : Int) + 1 := IntWalk.i64_in _ (by omega)
              obtain ⟨bc, oc, y, rfl, hbc, hy, hyc⟩ := RowAt.at_ (HROW.out.below HWI.out (Nat.le_refl _)) (i := i) (by have := HLN.out; have := HN1.out; omega)
              have hyi : y.i = bIns (os i) (ks i) n i := by
                have h : (L.map IV.i)[i]? = some y.i := by rw [List.getElem?_map, hy]; rfl
                rw [HLF.out, List.getElem?_append_left (by simpa using hlt), List.getElem?_map, List.getElem?_range hlt] at h
                injection h with h
                exact h.symm
              obtain ⟨bw, ow, xw, hAw, hbw, hxw, yw0⟩ := (HWN.out.below HWI.out (Nat.le_refl _)).at_ (k := i) (by simpa using hlt)
              subst hAw
              rw [List.getElem?_map, List.getElem?_range hlt] at hxw
              injection hxw with hxw
              subst hxw
              have HEI := hide (HEL.out y (List.mem_of_getElem? hy))
              have ho4 := HO4.out i
              obtain ⟨o, heo⟩ : ∃ o, o = os i := ⟨_, rfl⟩
              obtain ⟨k, hek⟩ : ∃ k, k = ks i := ⟨_, rfl⟩
              rw [← heo, ← hek] at hyi
              rw [← heo] at ho4
              have yw : wr.cell? ⟨bw, ow + i, none⟩ = some (.int .i64 (k : Int)) := by rw [hek]; exact yw0
              have c4 : wr.cell? ⟨bc, oc + i * 22 + 4, none⟩ = some (.int .i64 (i : Int)) := by
                have h := hyc 4 (.int .i64 y.i.n) rfl
                rw [hyi] at h
                exact h
              have c16 : wr.cell? ⟨bc, oc + i * 22 + 16, none⟩ = some (.int .i64 0) := by
                have h := hyc 16 (.int .i64 y.i.st) rfl
                rw [hyi] at h
                exact h
              have z0 := hyc 0 (.int .i64 y.i.op) rfl
              have z14 := hyc 14 (.int .i64 y.i.to_) rfl
              have z15 := hyc 15 y.rv rfl
              rw [hyi] at z0 z14
              rw [Nat.add_zero] at z0
              have HYI := hide hyi
              clear hy hyc hyi heo hek hbc hbw yw0
              rcases b_cases ho4 with rfl | rfl | rfl | rfl
              · have d0 : wr.cell? ⟨bc, oc + i * 22, none⟩ = some (.int .i64 19) := z0
                clear z0
                have d14 : wr.cell? ⟨bc, oc + i * 22 + 14, none⟩ = some (.int .i64 (k : Int)) := z14
                clear z14 z15
                go_wp2_with fail
                go_quiet (fail)
                go_wp2_with fail
                go_roundw
                case rel => first | exact ⟨i + 1, by omega, by simp, hide (below_drewL HWI.out _)⟩ | exact ⟨i + 1, by omega, by simp⟩
                case measure => simp [intOf]; omega
              · have d0 : wr.cell? ⟨bc, oc + i * 22, none⟩ = some (.int .i64 20) := z0
                clear z0
                have d14 : wr.cell? ⟨bc, oc + i * 22 + 14, none⟩ = some (.int .i64 (k : Int)) := z14
                clear z14 z15
                go_wp2_with fail
                go_quiet (fail)
                go_wp2_with fail
                go_roundw
                case rel => first | exact ⟨i + 1, by omega, by simp, hide (below_drewL HWI.out _)⟩ | exact ⟨i + 1, by omega, by simp⟩
                case measure => simp [intOf]; omega
              · have d0 : wr.cell? ⟨bc, oc + i * 22, none⟩ = some (.int .i64 37) := z0
                clear z0
                have hra : ArmsAt wr y.rv [⟨3, 0, 0, 0, 0, (k : Int)⟩, ⟨3, 0, 0, 0, 0, (n : Int)⟩] := by
                  have h := HEI.out.rm.below HWI.out (Nat.le_refl _)
                  rw [HYI.out] at h
                  exact h
                obtain ⟨Ar, cr, hvr, _, _⟩ := id hra
                have hvr : y.rv = .slice Ar 2 cr := hvr
                rw [hvr] at hra z15
                obtain ⟨br, or_, a0, rfl, hbr, ha0, _, _, _, _, _, r0⟩ := ArmsAt.at_ hra (i := 0) (by show 0 < 2; omega)
                obtain ⟨br2, or2, a1, e2, hbr2, ha1, _, _, _, _, _, r1⟩ := ArmsAt.at_ hra (i := 1) (by show 1 < 2; omega)
                injection e2 with e2
                injection e2 with e2 e3
                subst e2 e3
                simp at ha0 ha1
                subst ha0 ha1
                have p0 : wr.cell? ⟨br, or_ + 5, none⟩ = some (.int .i64 (k : Int)) := by simpa using r0
                have p1 : wr.cell? ⟨br, or_ + 6 + 5, none⟩ = some (.int .i64 (n : Int)) := by simpa using r1
                clear hra hvr hbr hbr2 z14 r0 r1
                go_wp2_with fail
                go_quiet (fail)
                go_wp2_with fail
                go_roundw
                case rel => first | exact ⟨i + 1, by omega, by simp, hide (below_drewL HWI.out _)⟩ | exact ⟨i + 1, by omega, by simp⟩
                case measure => simp [intOf]; omega
              · have d0 : wr.cell? ⟨bc, oc + i * 22, none⟩ = some (.int .i64 40) := z0
                clear z0
                clear z14 z15
                go_wp2_with fail
                go_roundw
                case rel => first | exact ⟨i + 1, by omega, by simp, HWI⟩ | exact ⟨i + 1, by omega, by simp⟩
                case measure => simp [intOf]; omega
            · have j1 : ¬ (i : Int) < (n : Int) := by omega
              obtain ⟨pz, hpz⟩ : ∃ pz : Pr, pz = { key := ⟨#[]⟩, pkg := 0, params := 0, regs := 4, caps := 0, vv := .slice none 0 0, rs := .slice none 0 0, cv := .slice A10 N1 c10, sv := .slice As10 1 cs10, ve := .slice none 0 0, sn := .slice none 0 0 } := ⟨_, rfl⟩
              have hok : PrOk wr pz [] L 1 := by
                rw [hpz]
                exact ⟨⟨none, 0, rfl, fun k b hk => by (cases hk)⟩, HROW.out.below HWI.out (Nat.le_refl _), fun x hx => (HEL.out x hx).below HWI.out (Nat.le_refl _), ⟨_, _, rfl⟩⟩
              have hgd : goodP pz [] L 1 = true := good_built (by rw [hpz]) (by rw [hpz]) (by rw [hpz]) HO4.out HKN.out hn60 HLF.out
              have HGC := hide (good_any pz [] L 1 wr hok (by have := HLN.out; have := HN1.out; omega) (fun x hx => by
                have h2 : x.i ∈ L.map IV.i := List.mem_map.2 ⟨x, hx, rfl⟩
                rw [HLF.out] at h2
                rcases List.mem_append.1 h2 with h2 | h2
                · obtain ⟨q, _, he⟩ := List.mem_map.1 h2
                  have := b_len (os q) (ks q) n q
                  rw [← he]
                  omega
                · rw [List.mem_singleton.1 h2]
                  exact ⟨by show 0 ≤ 100; omega, by show 0 ≤ 100; omega⟩))
              rw [hgd, hpz] at HGC
              clear hok hgd hpz
              go_wp2_with fail
              refine HGC.out.mono ?_
              rintro e w11 ⟨rfl, hb11⟩
              go_wp2_with fail
              go_ret
              exact ⟨rfl, HB1.out.trans ((HB10.out.trans ((HWI.out.trans (hb11.mono HWI.out.size)).mono (by have := HB10.out.size; have := HG.out; omega))).mono (by have := HB1.out.size; have := HG.out; omega))⟩
end Go.Proofs.Ytfdjomkkagommaa
