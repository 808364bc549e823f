/- The order of blocks (order); conditions: the blocks are in memory, and go on within themselves. -/
import Derived.Test.YtaaadbaakhjkcaaFlD
namespace Go.Proofs.Ytaaadbaakhjkcaa
open Go.RowKit Go.WideShapes Go.ChangeShapes
set_option linter.unusedVariables false
set_option linter.unusedSimpArgs false
set_option maxRecDepth 100000

def ic (m : Nat) (g : Nat → Nat) : Array Value := ((List.range m).map (fun q => Value.int .i64 (g q : Int))).toArray
theorem ic_at {m q : Nat} (g : Nat → Nat) (h : q < m) : (ic m g)[q]? = some (.int .i64 (g q : Int)) := by
  unfold ic
  rw [List.getElem?_toArray, List.getElem?_map, List.getElem?_range h]
  rfl
theorem ic_set (m t x : Nat) (g : Nat → Nat) : (ic m g).setIfInBounds t (.int .i64 (x : Int)) = ic m (fun q => if q = t then x else g q) := by
  apply Array.ext_getElem?
  intro q
  by_cases hq : q < m
  · rw [ic_at _ hq]
    by_cases e : t = q
    · subst e
      rw [Array.getElem?_setIfInBounds_self_of_lt (by simpa [ic] using hq)]
      simp
    · rw [Array.getElem?_setIfInBounds_ne e, ic_at _ hq, if_neg (fun h => e h.symm)]
  · rw [Array.getElem?_eq_none (by simp [ic]; omega), Array.getElem?_eq_none (by simp [ic]; omega)]
theorem make_ints (L : Nat) (hL : L ≤ 100000) (W : World) : (Instr.makeSlice 23 (.int .i64 (L : Int)) (.int .i64 (L : Int))).run Try.prog W = .ok (.slice (some ⟨W.heap.size, 0, none⟩) L L) (W.alloc (.cells (ic L (fun _ => 0)) 3)) := by
  obtain ⟨i0, hi0, hz0, hz1, hz2⟩ := info_parts intInfoT
  have h := run_make_rowN (P := Try.prog) 23 3 i0 _ Try.underlying23 hi0 hz0 .i64 .i64 L L (Nat.le_refl _) (by rw [hz2]; omega) (by omega) W
  rw [hz1] at h
  have e : madeCells (Value.int .i64 0).cells (L * 1) = ic L (fun _ => 0) := by
    rw [Nat.mul_one]
    apply Array.ext
    · simp [madeCells, ic]
    · intro q h1 h2
      simp [madeCells, ic, Value.cells, Nat.mod_one]
  rw [e] at h
  exact h
/-- A block in memory. -/
structure BV where
  fr : Int
  to_ : Int
  nx : Value
  pv : Value
def BV.enc (x : BV) : List Value := [iI x.fr, iI x.to_, x.nx, x.pv]
theorem BV.enc_length (x : BV) : x.enc.length = 4 := rfl
def natsV (l : List Nat) : List Value := l.map (fun q : Nat => iI (q : Int))
def OrdP (w : World) (N : Nat → List Int) (e : Ending) (w' : World) : Prop := ∃ (v' : Value) (i : Nat), e = .returned v' ∧ (oiter N i ostart).path = [] ∧ w'.ownsRow w.heap.size 3 1 v' (oiter N i ostart).left.length (natsV (oiter N i ostart).left.reverse) ∧ Below w.heap.size w w'
set_option maxHeartbeats 16000000 in
theorem order_any (v : Value) (bl : List BV) (N : Nat → List Int) (w : World) (h : RowAt 4 BV.enc w v bl) (hN : ∀ (k : Nat) (x : BV), bl[k]? = some x → IntsAt w x.nx (N k)) (hm : 0 < bl.length ∧ bl.length ≤ 1000) (hNl : ∀ k, k < bl.length → (N k).length ≤ 1000 ∧ ∀ y ∈ N k, 0 ≤ y ∧ y < (bl.length : Int)) :
    Calls Try.prog 32 #[v] w (OrdP w N) := by
  obtain ⟨i0, hi0, hz0, hz1, hz2⟩ := info_parts intInfoT
  obtain ⟨Ab, cb, rfl⟩ := h.form
  obtain ⟨m, hmm⟩ : ∃ m, m = bl.length := ⟨_, rfl⟩
  rw [← hmm] at h hm hNl ⊢
  have hm0 : 0 < m := hm.1
  have HM := hide (And.intro hmm hm)
  have HROW := hide h
  have HNI := hide hN
  have HNL := hide hNl
  have hmk1 := make_bools m (by omega)
  have hmk2 := make_ints m (by omega)
  obtain ⟨Z1, hZ1⟩ : ∃ Z, Z = bc m (fun _ => false) := ⟨_, rfl⟩
  obtain ⟨Z2, hZ2⟩ : ∃ Z, Z = ic m (fun _ => 0) := ⟨_, rfl⟩
  rw [← hZ1] at hmk1
  rw [← hZ2] at hmk2
  obtain ⟨gs, hgs⟩ : ∃ gs, gs = w.heap.size := ⟨_, rfl⟩
  obtain ⟨W1, hW1⟩ : ∃ W1, W1 = w.alloc (.cells Z1 4) := ⟨_, rfl⟩
  obtain ⟨gt, hgt⟩ : ∃ gt, gt = W1.heap.size := ⟨_, rfl⟩
  obtain ⟨W2, hW2⟩ : ∃ W2, W2 = W1.alloc (.cells Z2 3) := ⟨_, rfl⟩
  obtain ⟨gq, hgq⟩ : ∃ gq, gq = W2.heap.size := ⟨_, rfl⟩
  obtain ⟨W3, hW3⟩ : ∃ W3, W3 = W2.alloc (.cells #[.int .i64 0] 3) := ⟨_, rfl⟩
  have hb2 : Below w.heap.size w W2 := by rw [hW2, hW1]; exact ((Below.refl _ _).alloc (Nat.le_refl _) _).alloc (by simp) _
  have hb3 : Below w.heap.size w W3 := by rw [hW3]; exact hb2.alloc hb2.size _
  have hs3 : Blk W3 gs 4 Z1 := by rw [hW3, hW2, hW1, hgs]; exact ((Blk.new _ _ _).alloc _).alloc _
  have ht3 : Blk W3 gt 3 Z2 := by rw [hW3, hW2, hgt]; exact (Blk.new _ _ _).alloc _
  have hq3 : W3.ownsRow gq 3 1 (.slice (some ⟨gq, 0, none⟩) 1 1) 1 (natsV [0]) := ⟨rfl, .inr ⟨gq, 1, #[.int .i64 0], rfl, Nat.le_refl _, by rw [hW3, hgq]; exact Blk.new _ _ _, Nat.le_refl _, by simp only [maxLen]; omega, rfl, rfl⟩⟩
  have HGG := hide (show gs < gt ∧ gt < gq ∧ w.heap.size ≤ gs ∧ w.heap.size ≤ gq by rw [hgq, hW2, hgt, hW1, hgs]; simp; omega)
  have HS3 := hide hs3
  have HT3 := hide ht3
  have HQ3 := hide hq3
  have HB3 := hide hb3
  have HW1 := hide hW1
  have HW2 := hide hW2
  have HW3 := hide hW3
  have HGS := hide hgs
  have HGT := hide hgt
  have HGQ := hide hgq
  have HZ1 := hide hZ1
  have HZ2 := hide hZ2
  clear h hN hNl hm hmm hZ1 hZ2 hgs hW1 hgt hW2 hgq hW3 hb2 hb3 hs3 ht3 hq3
  go_enter Try.func32, Try.ntmps32
  go_upto_region 2 with (fail)
  rw [← HGS.out, ← HW1.out]
  go_upto_region 3 with (fail)
  rw [← HGT.out, ← HW2.out]
  go_upto_region 5 with (fail)
  rw [← HGQ.out, ← HW3.out]
  clear hmk1 hmk2
  have m0 : (0 : Int) < (m : Int) := by omega
  have y0 : W3.cell? ⟨gs, 0, none⟩ = some (.bool false) := (HS3.out.cell 0).trans (by rw [HZ1.out]; exact bc_at _ hm0)
  have f0 := HS3.out.frozen 0
  obtain ⟨W4, hW4⟩ : ∃ W4, W4 = W3.setCell ⟨gs, 0, none⟩ (.bool true) := ⟨_, rfl⟩
  have HS4 := hide (show Blk W4 gs 4 (bc m ostart.f) by
    have h := HS3.out.set_ 0 (.bool true)
    rw [HZ1.out, bc_set] at h
    rw [hW4]
    rw [bc_congr (f' := ostart.f) (fun q _ => by show (false || q == 0) = (q == 0); simp)] at h
    exact h)
  have HT4 := hide (show Blk W4 gt 3 (ic m ostart.tr) by rw [hW4]; have h := HT3.out.far (p := ⟨gs, 0, none⟩) (by have := HGG.out; show gt ≠ gs; omega) (.bool true); rw [HZ2.out] at h; exact h)
  have HQ4 := hide (show W4.ownsRow gq 3 1 (.slice (some ⟨gq, 0, none⟩) 1 1) 1 (natsV ostart.path) by rw [hW4]; exact ownsRow_setCell_other (a := ⟨gs, 0, none⟩) HQ3.out (own_blk_ne HQ3.out HS3.out (by decide)) _)
  have HB4 := hide (show Below w.heap.size w W4 by rw [hW4]; exact HB3.out.setCell (p := ⟨gs, 0, none⟩) (by have := HGG.out; show w.heap.size ≤ gs; omega) _)
  have HW4 := hide hW4
  clear hW4
  go_upto_region 6 with (fail)
  rw [← HW4.out]
  clear y0 f0 m0
  go_loopg [5, 6] (omeas m N ostart) (fun gk lv pv wr => ∃ (i kl kp : Nat) (Al : Option Addr) (cl : Nat) (Ap : Option Addr) (cp : Nat) (s : OS), lv = .slice Al kl cl ∧ pv = .slice Ap kp cp ∧ Hid (s = oiter N i ostart) ∧ Hid (gk = omeas m N s) ∧ Hid (OI m N s) ∧ Hid (kl = s.left.length ∧ kp = s.path.length) ∧ Hid (Blk wr gs 4 (bc m s.f)) ∧ Hid (Blk wr gt 3 (ic m s.tr)) ∧ Hid (wr.ownsRow gq 3 1 (.slice Al kl cl) kl (natsV s.left)) ∧ Hid (wr.ownsRow gq 3 1 (.slice Ap kp cp) kp (natsV s.path)) ∧ Hid (∀ q, (Value.slice Ap kp cp).ownBlock = some q → (Value.slice Al kl cl).ownBlock ≠ some q) ∧ Hid (Below w.heap.size w wr))
  case atStart => exact ⟨0, 0, 1, none, 0, _, 1, ostart, rfl, rfl, hide rfl, hide rfl, hide (OI.start hm0), hide ⟨rfl, rfl⟩, HS4, HT4, hide (World.ownsRow_nil _ _ _ _), HQ4, hide (fun q _ e => by cases e), HB4⟩
  case round =>
    obtain ⟨i, kl, kp, Al, cl, Ap, cp, s, rfl, rfl, HSI, HGK, HOI, HK, HS, HT, HL, HP, HDJ, HWR⟩ := hrel
    by_cases hk0 : 0 < kp
    · obtain ⟨p, k, hp⟩ : ∃ p k, s.path = p ++ [k] := by
        rcases List.eq_nil_or_concat s.path with h | ⟨l, x, h⟩
        · have := HK.out.2
          rw [h] at this
          simp at this
          omega
        · exact ⟨l, x, by simpa using h⟩
      obtain ⟨k', hk'⟩ : ∃ k', kp = k' + 1 := ⟨kp - 1, by omega⟩
      subst hk'
      have hkl : k' = p.length := by have := HK.out.2; rw [hp] at this; simp at this; omega
      have hos := HP.out
      rw [show natsV s.path = natsV p ++ [iI (k : Int)] by rw [hp]; unfold natsV; rw [List.map_append]; rfl] at hos
      obtain ⟨gv, rfl, hkc, hgvB, cur, hgv⟩ := own_some hos (by omega)
      have HCUT := hide (own_cut hos)
      have hkm := HOI.out.path k (by rw [hp]; simp)
      have hcnt := HOI.out.cnt
      have hm3 := HM.out
      rw [hp, List.length_append] at hcnt
      have ypc : wr.cell? ⟨gv, k', none⟩ = some (.int .i64 (k : Int)) := by
        have h := hos.cells (g := gv) rfl k' (.int .i64 (k : Int)) (by rw [hkl, List.getElem?_append_right (by unfold natsV; simp)]; unfold natsV; simp)
        rw [Addr.add_lit, Nat.zero_add] at h
        exact h
      have q1 : IntKind.i64.wrap (((k' + 1 : Nat) : Int) - 1) = (k' : Int) := by rw [show ((k' + 1 : Nat) : Int) - 1 = (k' : Int) by omega]; exact IntWalk.i64_in _ (by omega)
      have q3 : IntKind.i64.wrap (k' : Int) = (k' : Int) := IntWalk.i64_in _ (by omega)
      have k2 : (0 : Int) ≤ (k' : Int) := by omega
      have k3 : (k' : Int) ≤ (cp : Int) := by omega
      have k5 : (k' : Int) < (k' : Int) + 1 := by omega
      have HKB := hide (show kl ≤ 1000 ∧ k' ≤ 1000 by have := HK.out.1; omega)
      obtain ⟨bb, ob, x, hAb, hbl, hx, hcells⟩ := RowAt.at_ (HROW.out.below HWR.out (Nat.le_refl _)) (i := k) (by omega)
      subst hAb
      have hni := (HNI.out k x hx).below HWR.out (Nat.le_refl _)
      obtain ⟨An, cn, hnx⟩ := hni.form
      obtain ⟨nk, hnk⟩ : ∃ nk, nk = (N k).length := ⟨_, rfl⟩
      rw [← hnk] at hnx
      have y2 : wr.cell? ⟨bb, ob + k * 4 + 2, none⟩ = some (.slice An nk cn) := by rw [← hnx]; exact hcells 2 x.nx rfl
      obtain ⟨tk, htk⟩ : ∃ tk, tk = s.tr k := ⟨_, rfl⟩
      have y3 : wr.cell? ⟨gt, k, none⟩ = some (.int .i64 (tk : Int)) := by rw [htk]; exact (HT.out.cell k).trans (ic_at _ hkm)
      have j1 : (k : Int) < (m : Int) := by omega
      have j2 : (0 : Int) ≤ (k : Int) := by omega
      have htl := HOI.out.tr k hkm
      have hnkl := HNL.out k hkm
      rw [← hnk, ← htk] at htl
      have HNI2 := hide (show IntsAt wr (.slice An nk cn) (N k) by rw [← hnx]; exact hni)
      have HX := hide (And.intro hp (And.intro hkl (And.intro hkm (And.intro hnk htk))))
      have HNK := hide hnkl
      clear hos hgv hkc hgvB hp hkl hkm hnk htk hnkl hni hnx hcells hx hbl hcnt hm3
      by_cases hend : tk = nk
      · subst hend
        have HST := hide (ostep_pop (N := N) HX.out.1 (by rw [← HX.out.2.2.2.2]; exact HX.out.2.2.2.1))
        have HOS := hide (HOI.out.pop HX.out.1 (by rw [← HX.out.2.2.2.2]; exact HX.out.2.2.2.1))
        go_wp2_with fail
        go_quiet (fail)
        obtain ⟨wz, hwz⟩ : ∃ wz, wz = wr.drewN nq := ⟨_, rfl⟩
        have hbz : Below wr.heap.size wr wz := by rw [hwz]; exact below_drewL (Below.refl _ _) _
        have HSZ := hide (HS.out.below hbz HS.out.lt)
        have HTZ := hide (HT.out.below hbz HT.out.lt)
        have HLZ := hide (own_belowT HL.out hbz)
        have HPZ := hide (own_belowT HCUT.out hbz)
        have HBZ := hide (HWR.out.trans (hbz.mono HWR.out.size))
        rw [← hwz]
        clear hwz hbz ypc y2 y3
        go_upto_region 9 with (fail)
        obtain ⟨W9, hW9⟩ : ∃ W9, W9 = wz.alloc (.cells #[.int .i64 ((k : Int) : Int)] 3) := ⟨_, rfl⟩
        have hb9 : Below wz.heap.size wz W9 := by rw [hW9]; exact (Below.refl _ _).alloc (Nat.le_refl _) _
        have HC9 := hide (show Blk W9 wz.heap.size 3 #[.int .i64 ((k : Int) : Int)] by rw [hW9]; exact Blk.new _ _ _)
        have HZ9 := hide (show W9.heap.size = wz.heap.size + 1 by rw [hW9]; simp)
        have HS9 := hide (HSZ.out.below hb9 HSZ.out.lt)
        have HT9 := hide (HTZ.out.below hb9 HTZ.out.lt)
        have HL9 := hide (own_belowT HLZ.out hb9)
        have HP9 := hide (own_belowT HPZ.out hb9)
        have HB9 := hide (HBZ.out.trans (hb9.mono HBZ.out.size))
        have HLTL := hide (fun q (hq : (Value.slice Al kl cl).ownBlock = some q) => (HLZ.out.lt q hq).2)
        have HLTP := hide (fun q (hq : (Value.slice (some (⟨gv, 0, none⟩ : Addr)) k' cp).ownBlock = some q) => (HPZ.out.lt q hq).2)
        have HW9 := hide hW9
        clear hW9 hb9
        go_upto_region 10 with (first
          | (at_builtin
             rw [← HW9.out]
             refine wpList_append_any _ rfl (.tmp 38) (.tmp 40) _ rfl gq 3 i0 _ 1 8 Try.underlying23 hi0 hz0 hz1 hz2 rfl (by omega) (.slice Al kl cl) kl _ rfl HL9.out (wz.heap.size + 1) (some ⟨wz.heap.size, 0, none⟩) 1 1 [.int .i64 (k : Int)] rfl ?rd ?on ?b1 ?b2 ?sz ?_
             case rd => exact ⟨rfl, fun _ => ⟨_, rfl, Nat.lt_succ_self _, fun q u hu => by rw [Addr.add_lit, Nat.zero_add, HC9.out.cell q]; simpa using hu⟩⟩
             case on => (intro u hu; simp at hu; subst hu; rfl)
             case b1 => (have := HKB.out; simp only [maxLen]; omega)
             case b2 => (have := HKB.out; omega)
             case sz => (have := HT9.out.lt; have := HPZ.out.lt gv rfl; have := HZ9.out; omega)
             intro v10 w10 hown10 hg10 hat10
             have HS10 := hide (HS9.out.grown hg10 (fun e => own_blk_ne HL9.out HS9.out (by decide) e.symm))
             have HT10 := hide (HT9.out.grown hg10 (fun e => by have := (HL9.out.lt gt e.symm).1; have := HGG.out; omega))
             have HP10 := hide (own_grT HP9.out hg10 (fun q hq e => HDJ.out q hq e.symm))
             have HB10 := hide (HB9.out.grown hg10 HB9.out.size (fun q hq => by have := (HL9.out.lt q hq).1; have := HGG.out; omega))
             have HL10 := hide (show w10.ownsRow gq 3 1 v10 (kl + 1) (natsV (s.left ++ [k])) by unfold natsV; rw [List.map_append]; exact hown10)
             have HDJ10 := hide (fun q (hq : (Value.slice (some (⟨gv, 0, none⟩ : Addr)) k' cp).ownBlock = some q) => show v10.ownBlock ≠ some q from by
               rcases hat10 with e | e
               · rw [e]; exact HDJ.out q hq
               · rw [e]
                 intro e2
                 have e3 : W9.heap.size = q := by injection e2
                 have := HLTP.out q hq
                 have := HZ9.out
                 omega)
             obtain ⟨A10, c10, rfl⟩ := own_formT hown10
             clear hown10 hg10 hat10))
        go_wp2_with fail
        go_roundg (omeas m N (ostep N s))
        case rel =>
          refine ⟨i + 1, kl + 1, k', A10, c10, some ⟨gv, 0, none⟩, cp, ostep N s, rfl, rfl, hide (by rw [HSI.out]; rfl), hide rfl, hide HOS.out.1, hide ?_, hide ?_, hide ?_, hide ?_, hide ?_, HDJ10, HB10⟩
          · rw [HST.out]
            exact ⟨by show kl + 1 = (s.left ++ [k]).length; rw [List.length_append, ← HK.out.1]; rfl, HX.out.2.1⟩
          · rw [HST.out]; exact HS10.out
          · rw [HST.out]; exact HT10.out
          · rw [HST.out]; exact HL10.out
          · rw [HST.out]; exact HP10.out
        case measure => rw [HGK.out]; exact HOS.out.2
      · have e1 : ¬ (tk : Int) = (nk : Int) := by omega
        have e2 : ((tk : Int) == (nk : Int)) = false := by rw [beq_eq_false_iff_ne]; omega
        obtain ⟨bn, on, y, hAn, hbn, hy, y4⟩ := (show IntsAt wr (.slice An nk cn) (N k) from HNI2.out).at_ (k := tk) (by have := HX.out.2.2.2.1; omega)
        subst hAn
        have hyy := HNK.out.2 y (List.mem_of_getElem? hy)
        obtain ⟨yn, rfl⟩ : ∃ yn : Nat, y = (yn : Int) := ⟨y.toNat, by omega⟩
        have hym : yn < m := by omega
        have HGO := hide (ostep_go (N := N) HX.out.1 (by rw [← HX.out.2.2.2.2, ← HX.out.2.2.2.1]; omega) (by rw [← HX.out.2.2.2.2]; exact hy))
        have HOS := hide (HOI.out.go HX.out.1 (by rw [← HX.out.2.2.2.2, ← HX.out.2.2.2.1]; omega) (by rw [← HX.out.2.2.2.2]; exact hy) hym)
        have t1 : (tk : Int) < (nk : Int) := by omega
        have t2 : (0 : Int) ≤ (tk : Int) := by omega
        have HYM := hide hym
        have HTK := hide (show tk ≤ 1000 by have := HNK.out.1; have := HX.out.2.2.2.1; omega)
        clear hy hyy hbn hym htl
        go_wp2_with fail
        go_quiet (fail)
        obtain ⟨wa, hwa⟩ : ∃ wa, wa = wr.drewN nq := ⟨_, rfl⟩
        have hba : Below wr.heap.size wr wa := by rw [hwa]; exact below_drewL (Below.refl _ _) _
        have y2a := (hba.cell (p := ⟨bb, ob + k * 4 + 2, none⟩) (World.block_lt_of_cell? wr _ y2)).trans y2
        have y3a := (hba.cell (p := ⟨gt, k, none⟩) HT.out.lt).trans y3
        have y4a := (hba.cell (p := ⟨bn, on + tk, none⟩) (World.block_lt_of_cell? wr _ y4)).trans y4
        have HBA := hide hba
        rw [← hwa]
        clear hwa hba y2 y3 y4 ypc
        go_wp2_with fail
        go_quiet (fail)
        obtain ⟨wz, hwz⟩ : ∃ wz, wz = wa.drewN nq := ⟨_, rfl⟩
        have hbz : Below wr.heap.size wr wz := by rw [hwz]; exact below_drewL HBA.out _
        rw [← hwz]
        have f3 := (HT.out.below hbz HT.out.lt).frozen k
        have y3z := (HT.out.below hbz HT.out.lt).cell k
        rw [ic_at _ HX.out.2.2.1, ← HX.out.2.2.2.2] at y3z
        have q7 : IntKind.i64.wrap ((tk : Int) + 1) = ((tk + 1 : Nat) : Int) := by rw [show (tk : Int) + 1 = ((tk + 1 : Nat) : Int) by omega]; exact IntWalk.i64_in _ (by have := HTK.out; omega)
        obtain ⟨tk1, htk1⟩ : ∃ tk1, tk1 = tk + 1 := ⟨_, rfl⟩
        rw [← htk1] at q7
        obtain ⟨wy, hwy⟩ : ∃ wy, wy = wz.setCell ⟨gt, k, none⟩ (.int .i64 (tk1 : Int)) := ⟨_, rfl⟩
        have HTZ := hide (show Blk wy gt 3 (ic m (fun q => if q = k then s.tr k + 1 else s.tr q)) by
          have h := (HT.out.below hbz HT.out.lt).set_ k (.int .i64 (tk1 : Int))
          rw [ic_set, htk1, HX.out.2.2.2.2] at h
          rw [hwy, htk1, HX.out.2.2.2.2]
          exact h)
        have HSZ0 := hide (show Blk wy gs 4 (bc m s.f) by rw [hwy]; exact (HS.out.below hbz HS.out.lt).far (p := ⟨gt, k, none⟩) (by have := HGG.out; show gs ≠ gt; omega) _)
        have HLZ := hide (show wy.ownsRow gq 3 1 (.slice Al kl cl) kl (natsV s.left) by rw [hwy]; exact ownsRow_setCell_other (a := ⟨gt, k, none⟩) (own_belowT HL.out hbz) (fun e => by have := (HL.out.lt gt e).1; have := HGG.out; omega) _)
        have HPZ := hide (show wy.ownsRow gq 3 1 (.slice (some ⟨gv, 0, none⟩) (k' + 1) cp) (k' + 1) (natsV s.path) by rw [hwy]; exact ownsRow_setCell_other (a := ⟨gt, k, none⟩) (own_belowT HP.out hbz) (fun e => by have := (HP.out.lt gt e).1; have := HGG.out; omega) _)
        have HBZ0 := hide (show Below w.heap.size w wy by rw [hwy]; exact (HWR.out.trans (hbz.mono HWR.out.size)).setCell (p := ⟨gt, k, none⟩) (by have := HGG.out; show w.heap.size ≤ gt; omega) _)
        have HWY := hide hwy
        clear hwy hwz hbz htk1 y2a y3a y4a
        go_upto_region 13 with (fail)
        rw [← HWY.out]
        clear f3 y3z q7
        have ys : wy.cell? ⟨gs, yn, none⟩ = some (.bool (s.f yn)) := (HSZ0.out.cell yn).trans (bc_at _ HYM.out)
        have k6 : (yn : Int) < (m : Int) := by have := HYM.out; omega
        have k7 : (0 : Int) ≤ (yn : Int) := by omega
        cases hf : s.f yn with
        | true =>
          rw [hf] at ys
          have HF := hide hf
          clear hf
          go_wp2_with fail
          go_roundg (omeas m N (ostep N s))
          case rel =>
            refine ⟨i + 1, kl, k' + 1, Al, cl, some ⟨gv, 0, none⟩, cp, ostep N s, rfl, rfl, hide (by rw [HSI.out]; rfl), hide rfl, hide HOS.out.1, hide ?_, hide ?_, hide ?_, hide ?_, hide ?_, HDJ, HBZ0⟩
            · rw [HGO.out, if_pos HF.out]
              exact HK.out
            · rw [HGO.out]
              rw [bc_congr (f' := s.f) (fun q _ => by
                show (s.f q || q == yn) = s.f q
                by_cases e : q = yn
                · rw [e, HF.out]; rfl
                · have h2 : (q == yn) = false := by simp [e]
                  rw [h2, Bool.or_false])]
              exact HSZ0.out
            · rw [HGO.out]; exact HTZ.out
            · rw [HGO.out]; exact HLZ.out
            · rw [HGO.out, if_pos HF.out]; exact HPZ.out
          case measure => rw [HGK.out]; exact HOS.out.2
        | false =>
          rw [hf] at ys
          have HF := hide hf
          have fs := HSZ0.out.frozen yn
          obtain ⟨wx, hwx⟩ : ∃ wx, wx = wy.setCell ⟨gs, yn, none⟩ (.bool true) := ⟨_, rfl⟩
          have hsx : Blk wx gs 4 (bc m (fun q => s.f q || q == yn)) := by
            have h := HSZ0.out.set_ yn (.bool true)
            rw [bc_set] at h
            rw [hwx]
            exact h
          have htx : Blk wx gt 3 (ic m (fun q => if q = k then s.tr k + 1 else s.tr q)) := by rw [hwx]; exact HTZ.out.far (p := ⟨gs, yn, none⟩) (by have := HGG.out; show gt ≠ gs; omega) _
          have hlx : wx.ownsRow gq 3 1 (.slice Al kl cl) kl (natsV s.left) := by rw [hwx]; exact ownsRow_setCell_other (a := ⟨gs, yn, none⟩) HLZ.out (own_blk_ne HLZ.out HSZ0.out (by decide)) _
          have hpx : wx.ownsRow gq 3 1 (.slice (some ⟨gv, 0, none⟩) (k' + 1) cp) (k' + 1) (natsV s.path) := by rw [hwx]; exact ownsRow_setCell_other (a := ⟨gs, yn, none⟩) HPZ.out (own_blk_ne HPZ.out HSZ0.out (by decide)) _
          have hbx : Below w.heap.size w wx := by rw [hwx]; exact HBZ0.out.setCell (p := ⟨gs, yn, none⟩) (by have := HGG.out; show w.heap.size ≤ gs; omega) _
          have HWX := hide hwx
          clear hf hwx
          go_upto_region 14 with (fail)
          go_upto_region 15 with (fail)
          rw [← HWX.out]
          clear ys fs k6 k7
          obtain ⟨W9, hW9⟩ : ∃ W9, W9 = wx.alloc (.cells #[.int .i64 (yn : Int)] 3) := ⟨_, rfl⟩
          have hb9 : Below wx.heap.size wx W9 := by rw [hW9]; exact (Below.refl _ _).alloc (Nat.le_refl _) _
          have HC9 := hide (show Blk W9 wx.heap.size 3 #[.int .i64 (yn : Int)] by rw [hW9]; exact Blk.new _ _ _)
          have HZ9 := hide (show W9.heap.size = wx.heap.size + 1 by rw [hW9]; simp)
          have HS9 := hide (hsx.below hb9 hsx.lt)
          have HT9 := hide (htx.below hb9 htx.lt)
          have HL9 := hide (own_belowT hlx hb9)
          have HP9 := hide (own_belowT hpx hb9)
          have HB9 := hide (hbx.trans (hb9.mono hbx.size))
          have HLTL := hide (fun q (hq : (Value.slice Al kl cl).ownBlock = some q) => (hlx.lt q hq).2)
          have HW9 := hide hW9
          clear hW9 hb9 hsx htx hlx hpx hbx
          go_wp2_with (first
            | (at_builtin
               rw [← HW9.out]
               refine wpList_append_any _ rfl (.tmp 72) (.tmp 74) _ rfl gq 3 i0 _ 1 8 Try.underlying23 hi0 hz0 hz1 hz2 rfl (by omega) (.slice (some ⟨gv, 0, none⟩) (k' + 1) cp) (k' + 1) _ rfl HP9.out (wx.heap.size + 1) (some ⟨wx.heap.size, 0, none⟩) 1 1 [.int .i64 (yn : Int)] rfl ?rd ?on ?b1 ?b2 ?sz ?_
               case rd => exact ⟨rfl, fun _ => ⟨_, rfl, Nat.lt_succ_self _, fun q u hu => by rw [Addr.add_lit, Nat.zero_add, HC9.out.cell q]; simpa using hu⟩⟩
               case on => (intro u hu; simp at hu; subst hu; rfl)
               case b1 => (have := HKB.out; simp only [maxLen]; omega)
               case b2 => (have := HKB.out; omega)
               case sz => (have := HP9.out.lt gv rfl; omega)
               intro v10 w10 hown10 hg10 hat10
               have HS10 := hide (HS9.out.grown hg10 (fun e => own_blk_ne HP9.out HS9.out (by decide) e.symm))
               have HT10 := hide (HT9.out.grown hg10 (fun e => by have := (HP9.out.lt gt e.symm).1; have := HGG.out; omega))
               have HL10 := hide (own_grT HL9.out hg10 (fun q hq e => HDJ.out q e.symm hq))
               have HB10 := hide (HB9.out.grown hg10 HB9.out.size (fun q hq => by have := (HP9.out.lt q hq).1; have := HGG.out; omega))
               have HP10 := hide (show w10.ownsRow gq 3 1 v10 (k' + 1 + 1) (natsV (s.path ++ [yn])) by unfold natsV; rw [List.map_append]; exact hown10)
               have HDJ10 := hide (fun q (hq : v10.ownBlock = some q) => show (Value.slice Al kl cl).ownBlock ≠ some q from by
                 rcases hat10 with e | e
                 · exact HDJ.out q (e.symm.trans hq)
                 · intro e2
                   have e3 : W9.heap.size = q := by injection e.symm.trans hq
                   have := HLTL.out q e2
                   have := HZ9.out
                   omega)
               obtain ⟨A10, c10, rfl⟩ := own_formT hown10
               clear hown10 hg10 hat10))
          go_roundg (omeas m N (ostep N s))
          case rel =>
            refine ⟨i + 1, kl, k' + 1 + 1, Al, cl, A10, c10, ostep N s, rfl, rfl, hide (by rw [HSI.out]; rfl), hide rfl, hide HOS.out.1, hide ?_, hide ?_, hide ?_, hide ?_, hide ?_, HDJ10, HB10⟩
            · rw [HGO.out, if_neg (by rw [HF.out]; decide)]
              exact ⟨HK.out.1, by show k' + 1 + 1 = (s.path ++ [yn]).length; rw [List.length_append, ← HK.out.2]; rfl⟩
            · rw [HGO.out]; exact HS10.out
            · rw [HGO.out]; exact HT10.out
            · rw [HGO.out]; exact HL10.out
            · rw [HGO.out, if_neg (by rw [HF.out]; decide)]; exact HP10.out
          case measure => rw [HGK.out]; exact HOS.out.2
    · have hk : kp = 0 := by omega
      subst hk
      have hpe : s.path = [] := List.eq_nil_of_length_eq_zero HK.out.2.symm
      have HPE := hide hpe
      have HRV := hide (fun (W : World) (hW : W.ownsRow gq 3 1 (.slice Al kl cl) kl (natsV s.left)) => rev_any gq (.slice Al kl cl) (s.left.map (fun q : Nat => (q : Int))) W (by rw [List.length_map, ← HK.out.1, List.map_map]; exact hW) (by rw [List.length_map]; have := HOI.out.cnt; have := HM.out; omega))
      have HRC := hide (HRV.out wr HL.out)
      clear hpe hk0
      go_wp2_with fail
      refine HRC.out.mono ?_
      rintro e w5 ⟨rfl, hown5, hg5⟩
      have HB5 := hide (HWR.out.grown hg5 HWR.out.size (fun q hq => by have := (HL.out.lt q hq).1; have := HGG.out; omega))
      go_wp2_with fail
      go_ret
      refine ⟨_, i, rfl, by rw [← HSI.out]; exact HPE.out, ?_, HB5.out⟩
      rw [← HSI.out, ← HK.out.1]
      have h := own_monoT hown5 HGG.out.2.2.2
      rw [List.length_map, ← HK.out.1, ← List.map_reverse, List.map_map] at h
      exact h
end Go.Proofs.Ytaaadbaakhjkcaa
