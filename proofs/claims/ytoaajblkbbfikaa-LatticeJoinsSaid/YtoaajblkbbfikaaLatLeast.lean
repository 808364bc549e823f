/- What LatticeLeast answers. -/
import Derived.Test.YtoaajblkbbfikaaLatM3
import Derived.Laws.Cover1
namespace Go.Proofs.Ytoaajblkbbfikaa
open Go.RowKit Go.WideShapes Go.ChangeShapes
set_option linter.unusedVariables false
set_option maxRecDepth 100000

theorem good_len {tag N : Int} {cm : Bool} {m : Nat} {xs : List Int} (h : goodB tag N cm m xs = true) (hN : N ≤ 60) : m ≤ 60 := by
  cases cm with
  | false => have := good_none h; omega
  | true => have := (good_some h).1; omega
theorem joinL_len {tag N : Int} {ca cb : Bool} {xs ys : List Int} (ga : goodB tag N ca xs.length xs = true) (gb : goodB tag N cb ys.length ys = true) (hN : N ≤ 60) : (joinL tag ca xs cb ys).length ≤ 60 :=
  good_len (good_join ga gb) hN

set_option maxHeartbeats 4000000 in
theorem least_walk (tag : Int) (na nb nc ka kb kc : Nat) (ca cb cc : Bool) (A B C : Option Addr) (xs ys zs : List Int) (w : World) (hx : RI w w.heap.size A na xs) (hy : RI w w.heap.size B nb ys) (hz : RI w w.heap.size C nc zs)
    (ha : na ≤ 9223372036854775807) (hb : nb ≤ 9223372036854775807) (hc : nc ≤ 9223372036854775807) :
    Calls Try.prog 14 #[.int .i64 tag, .agg #[.bool ca, .slice A na ka], .agg #[.bool cb, .slice B nb kb], .agg #[.bool cc, .slice C nc kc]] w (BoolBelow w true) := by
  have hm := M3.new (fa := ⟨ca, A, na, ka, xs⟩) (fb := ⟨cb, B, nb, kb, ys⟩) (fc := ⟨cc, C, nc, kc, zs⟩) hx hy hz
  have HM := hide hm
  have HLX := hide hx.1
  have HLY := hide hy.1
  have HLZ := hide hz.1
  clear hx hy hz hm
  go_enter Try.func14, Try.ntmps14
  go_wp2_with fail
  obtain ⟨W0, hW0⟩ : ∃ W0 : World, W0 = (((w.alloc (.cells #[.bool ca, .slice A na ka] 103)).alloc (.cells #[.bool cb, .slice B nb kb] 103)).alloc (.cells #[.bool cc, .slice C nc kc] 103)) := ⟨_, rfl⟩
  simp only [← hW0] at HM ⊢
  clear hW0
  obtain ⟨s, hs⟩ : ∃ s, s = w.heap.size := ⟨_, rfl⟩
  rw [← hs] at HM ⊢
  have HS := hide hs
  clear hs
  refine (awake20 W0).mono ?_
  rintro e W1 ⟨rfl, hb1⟩
  have HM1 := hide (HM.out.step hb1)
  obtain ⟨a0, a1, b0, b1, c0, c1⟩ := HM1.out.cells
  simp only at a0 a1 b0 b1 c0 c1
  clear HM hb1
  obtain ⟨N, hN⟩ : ∃ N : Int, ∀ W : World, (Builtin.max_ #[3, 3, 3] 3 #[.int .i64 na, .int .i64 nb, .int .i64 nc]).run Try.prog W = .ok (.int .i64 N) W := ⟨_, fun W => run_max_int3 _ _ _ _ _ _ _ _ _⟩
  by_cases h60 : N > 60
  · go_wp2_with fail
    go_ret
    exact ⟨rfl, by rw [← HS.out]; exact HM1.out.low⟩
  have H60 := hide h60
  have G1 : ∀ W, M3 w s ⟨ca, A, na, ka, xs⟩ ⟨cb, B, nb, kb, ys⟩ ⟨cc, C, nc, kc, zs⟩ W → Calls Try.prog 55 #[.int .i64 tag, .int .i64 N, .agg #[.bool ca, .slice A na ka]] W (BoolBelow W (goodB tag N ca na xs)) := fun W hM => good_any s na ka tag N ca A xs W hM.x (by have := hM.size; omega) ha
  have G2 : ∀ W, M3 w s ⟨ca, A, na, ka, xs⟩ ⟨cb, B, nb, kb, ys⟩ ⟨cc, C, nc, kc, zs⟩ W → Calls Try.prog 55 #[.int .i64 tag, .int .i64 N, .agg #[.bool cb, .slice B nb kb]] W (BoolBelow W (goodB tag N cb nb ys)) := fun W hM => good_any s nb kb tag N cb B ys W hM.y (by have := hM.size; omega) hb
  have G3 : ∀ W, M3 w s ⟨ca, A, na, ka, xs⟩ ⟨cb, B, nb, kb, ys⟩ ⟨cc, C, nc, kc, zs⟩ W → Calls Try.prog 55 #[.int .i64 tag, .int .i64 N, .agg #[.bool cc, .slice C nc kc]] W (BoolBelow W (goodB tag N cc nc zs)) := fun W hM => good_any s nc kc tag N cc C zs W hM.z (by have := hM.size; omega) hc
  have G1 := hide (G1 _ HM1.out)
  have G2 := hide G2
  have G3 := hide G3
  cases hga : goodB tag N ca na xs with
  | false =>
    rw [hga] at G1
    clear hga
    go_wp2_with fail
    refine G1.out.mono ?_
    rintro e W2 ⟨rfl, hb2⟩
    have HM2 := hide (HM1.out.step hb2)
    clear hb2
    go_wp2_with fail
    go_ret
    exact ⟨rfl, by rw [← HS.out]; exact HM2.out.low⟩
  | true =>
    rw [hga] at G1
    have GA := hide hga
    clear hga
    go_wp2_with fail
    refine G1.out.mono ?_
    rintro e W2 ⟨rfl, hb2⟩
    have HM2 := hide (HM1.out.step hb2)
    clear hb2 a0 a1 b0 b1 c0 c1
    obtain ⟨a0, a1, b0, b1, c0, c1⟩ := HM2.out.cells
    simp only at a0 a1 b0 b1 c0 c1
    have G2 := hide (G2.out _ HM2.out)
    cases hgb : goodB tag N cb nb ys with
    | false =>
      rw [hgb] at G2
      clear hgb
      go_wp2_with fail
      refine G2.out.mono ?_
      rintro e W3 ⟨rfl, hb3⟩
      have HM3 := hide (HM2.out.step hb3)
      clear hb3
      go_wp2_with fail
      go_ret
      exact ⟨rfl, by rw [← HS.out]; exact HM3.out.low⟩
    | true =>
      rw [hgb] at G2
      have GB := hide hgb
      clear hgb
      go_wp2_with fail
      refine G2.out.mono ?_
      rintro e W3 ⟨rfl, hb3⟩
      have HM3 := hide (HM2.out.step hb3)
      clear hb3 a0 a1 b0 b1 c0 c1
      obtain ⟨a0, a1, b0, b1, c0, c1⟩ := HM3.out.cells
      simp only at a0 a1 b0 b1 c0 c1
      have G3 := hide (G3.out _ HM3.out)
      cases hgc : goodB tag N cc nc zs with
      | false =>
        rw [hgc] at G3
        clear hgc
        go_wp2_with fail
        refine G3.out.mono ?_
        rintro e W4 ⟨rfl, hb4⟩
        have HM4 := hide (HM3.out.step hb4)
        clear hb4
        go_wp2_with fail
        go_ret
        exact ⟨rfl, by rw [← HS.out]; exact HM4.out.low⟩
      | true =>
        rw [hgc] at G3
        have GC := hide hgc
        clear hgc
        go_wp2_with fail
        refine G3.out.mono ?_
        rintro e W4 ⟨rfl, hb4⟩
        have HM4 := hide (HM3.out.step hb4)
        clear hb4 a0 a1 b0 b1 c0 c1
        obtain ⟨a0, a1, b0, b1, c0, c1⟩ := HM4.out.cells
        simp only at a0 a1 b0 b1 c0 c1
        go_wp2_with fail
        have ga : goodB tag N ca xs.length xs = true := by rw [HLX.out]; exact GA.out
        have gb : goodB tag N cb ys.length ys = true := by rw [HLY.out]; exact GB.out
        have gc : goodB tag N cc zs.length zs = true := by rw [HLZ.out]; exact GC.out
        have l1 := good_len GA.out H60.out
        have l2 := good_len GB.out H60.out
        have l3 := good_len GC.out H60.out
        have hl := joinL_len ga gb H60.out
        have hgj := good_join ga gb
        have hbl := fun h1 h2 => below_least ga gb gc h1 h2
        have JN : ∀ W, M3 w s ⟨ca, A, na, ka, xs⟩ ⟨cb, B, nb, kb, ys⟩ ⟨cc, C, nc, kc, zs⟩ W → Calls Try.prog 56 #[.int .i64 tag, .agg #[.bool ca, .slice A na ka], .agg #[.bool cb, .slice B nb kb]] W (JoinPost W (ca || cb) (joinL tag ca xs cb ys)) :=
          fun W hM => join_any tag N na nb ka kb ca cb A B xs ys W (hM.x.more (by have := hM.size; omega)) (hM.y.more (by have := hM.size; omega)) (by omega) (by omega) ga gb
        have BAC : ∀ W, M3 w s ⟨ca, A, na, ka, xs⟩ ⟨cb, B, nb, kb, ys⟩ ⟨cc, C, nc, kc, zs⟩ W → Calls Try.prog 59 #[.int .i64 tag, .agg #[.bool ca, .slice A na ka], .agg #[.bool cc, .slice C nc kc]] W (BoolBelow W (belowB tag ca xs cc zs)) :=
          fun W hM => below_good tag N na nc ka kc ca cc A C xs zs W (hM.x.more (by have := hM.size; omega)) (hM.z.more (by have := hM.size; omega)) (by omega) (by omega) ga gc
        have BBC : ∀ W, M3 w s ⟨ca, A, na, ka, xs⟩ ⟨cb, B, nb, kb, ys⟩ ⟨cc, C, nc, kc, zs⟩ W → Calls Try.prog 59 #[.int .i64 tag, .agg #[.bool cb, .slice B nb kb], .agg #[.bool cc, .slice C nc kc]] W (BoolBelow W (belowB tag cb ys cc zs)) :=
          fun W hM => below_good tag N nb nc kb kc cb cc B C ys zs W (hM.y.more (by have := hM.size; omega)) (hM.z.more (by have := hM.size; omega)) (by omega) (by omega) gb gc
        obtain ⟨L, hL⟩ : ∃ L, L = joinL tag ca xs cb ys := ⟨_, rfl⟩
        obtain ⟨cj, hcj⟩ : ∃ cj, cj = (ca || cb) := ⟨_, rfl⟩
        rw [← hL, ← hcj] at JN hgj hbl
        rw [← hL] at hl
        have BJC : ∀ W m k A1, m = L.length → RI W W.heap.size A1 m L → M3 w s ⟨ca, A, na, ka, xs⟩ ⟨cb, B, nb, kb, ys⟩ ⟨cc, C, nc, kc, zs⟩ W → Calls Try.prog 59 #[.int .i64 tag, .agg #[.bool cj, .slice A1 m k], .agg #[.bool cc, .slice C nc kc]] W (BoolBelow W (belowB tag cj L cc zs)) :=
          fun W m k A1 hm hR hM => below_good tag N m nc k kc cj cc A1 C L zs W hR (hM.z.more (by have := hM.size; omega)) (by omega) (by omega) (by rw [hL, hcj]; exact good_join ga gb) gc
        have GJ : ∀ W m k A1, m = L.length → RI W W.heap.size A1 m L → Calls Try.prog 55 #[.int .i64 tag, .int .i64 N, .agg #[.bool cj, .slice A1 m k]] W (BoolBelow W true) :=
          fun W m k A1 hm hR => by have h := good_any W.heap.size m k tag N cj A1 L W hR (Nat.le_refl _) (by omega); rw [hm] at h; rw [hgj] at h; rw [hm]; exact h
        have HL := hide hl
        have HBL := hide hbl
        have JN := hide JN
        have BAC := hide BAC
        have BBC := hide BBC
        have BJC := hide BJC
        have GJ := hide GJ
        clear hL hcj ga gb gc l1 l2 l3 hl hgj hbl
        refine (JN.out _ HM4.out).mono ?_
        rintro e w5 ⟨A1, k1, rfl, hown, hb5⟩
        obtain ⟨m, hm⟩ : ∃ m, m = L.length := ⟨_, rfl⟩
        rw [← hm] at hown HL ⊢
        have HME := hide hm
        clear hm
        obtain ⟨W5, hW5⟩ : ∃ W5 : World, W5 = w5.alloc (.cells #[.bool cj, .slice A1 m k1] 103) := ⟨_, rfl⟩
        have hlt5 : W4.heap.size ≤ w5.heap.size := hb5.size
        have hb45 : Below W4.heap.size W4 W5 := by rw [hW5]; exact hb5.alloc hlt5 _
        have hbj : Blk W5 w5.heap.size 103 #[.bool cj, .slice A1 m k1] := by rw [hW5]; exact Blk.new _ _ _
        have hrj : RI W5 W5.heap.size A1 m L := by
          rw [hW5]; exact ((RI.own HME.out.symm hown).alloc (Nat.le_refl _) _).more (by simp)
        have HM5 := hide (HM4.out.step hb45)
        obtain ⟨a0, a1, b0, b1, c0, c1⟩ := HM5.out.cells
        simp only at a0 a1 b0 b1 c0 c1
        have p0 := hbj.cell 0
        have p1 := hbj.cell 1
        have f0 := hbj.frozen 0
        have f1 := hbj.frozen 1
        simp at p0 p1
        rw [hW5] at a0 a1 b0 b1 c0 c1 p0 p1 f0 f1
        have HW5 := hide hW5
        have HBJ := hide hbj
        have HRJ := hide hrj
        have HLT5 := hide hlt5
        by_cases hm0 : m = 0
        · subst hm0
          clear hW5 hbj hrj hb45 hb5 hown f0 f1 hlt5
          go_wp2_with fail
          rw [← HW5.out]
          clear a0 a1 b0 b1 c0 c1 p0 p1
          have B1 := BAC.out W5 HM5.out
          cases h1 : belowB tag ca xs cc zs with
          | false =>
            rw [h1] at B1
            have B1 := hide B1
            clear h1
            refine B1.out.mono ?_
            rintro e wa ⟨rfl, hba⟩
            have HMa := hide (HM5.out.step hba)
            clear hba
            go_wp2_with fail
            go_ret
            exact ⟨rfl, by rw [← HS.out]; exact HMa.out.low⟩
          | true =>
            rw [h1] at B1
            have B1 := hide B1
            have H1 := hide h1
            clear h1
            refine B1.out.mono ?_
            rintro e wa ⟨rfl, hba⟩
            have HMa := hide (HM5.out.step hba)
            have HBJa := hide (HBJ.out.below hba HBJ.out.lt)
            have HRJa := hide ((HRJ.out.below hba).more hba.size)
            clear hba
            obtain ⟨a0, a1, b0, b1, c0, c1⟩ := HMa.out.cells
            simp only at a0 a1 b0 b1 c0 c1
            have p0 := HBJa.out.cell 0
            have p1 := HBJa.out.cell 1
            simp at p0 p1
            have B2 := BBC.out wa HMa.out
            cases h2 : belowB tag cb ys cc zs with
            | false =>
              rw [h2] at B2
              have B2 := hide B2
              clear h2
              go_wp2_with fail
              refine B2.out.mono ?_
              rintro e wb ⟨rfl, hbb⟩
              have HMb := hide (HMa.out.step hbb)
              clear hbb
              go_wp2_with fail
              go_ret
              exact ⟨rfl, by rw [← HS.out]; exact HMb.out.low⟩
            | true =>
              rw [h2] at B2
              have B2 := hide B2
              have H2 := hide h2
              clear h2
              go_wp2_with fail
              refine B2.out.mono ?_
              rintro e wb ⟨rfl, hbb⟩
              have HMb := hide (HMa.out.step hbb)
              have HBJb := hide (HBJa.out.below hbb HBJa.out.lt)
              have HRJb := hide ((HRJa.out.below hbb).more hbb.size)
              clear hbb a0 a1 b0 b1 c0 c1 p0 p1
              obtain ⟨a0, a1, b0, b1, c0, c1⟩ := HMb.out.cells
              simp only at a0 a1 b0 b1 c0 c1
              have p0 := HBJb.out.cell 0
              have p1 := HBJb.out.cell 1
              simp at p0 p1
              have B3 := BJC.out wb 0 k1 A1 HME.out HRJb.out HMb.out
              rw [HBL.out H1.out H2.out] at B3
              have B3 := hide B3
              go_wp2_with fail
              refine B3.out.mono ?_
              rintro e wc ⟨rfl, hbc⟩
              have HMc := hide (HMb.out.step hbc)
              clear hbc
              go_wp2_with fail
              go_ret
              exact ⟨rfl, by rw [← HS.out]; exact HMc.out.low⟩
        · have hmp : 0 < m := by omega
          obtain ⟨g, cap, hv, hge, hlt⟩ := hown.form hmp
          injection hv with hA1 _ hk1
          subst hA1
          obtain rfl : cap = k1 := hk1.symm
          have hca := (hown.alloc (.cells #[.bool cj, .slice (some ⟨g, 0, none⟩) m cap] 103)).cellAt 0 (by omega)
          have hfa := (hown.alloc (.cells #[.bool cj, .slice (some ⟨g, 0, none⟩) m cap] 103)).frozenAt 0
          obtain ⟨z, hz0⟩ : ∃ z, L[0]? = some z := ⟨_, List.getElem?_eq_getElem (by rw [← HME.out]; exact hmp)⟩
          rw [List.getElem?_map, hz0] at hca
          simp only [Option.map_some] at hca
          have hb46 : Below W4.heap.size W4 (W5.setCell ⟨g, 0, none⟩ (.int .i64 9)) := hb45.setCell (p := ⟨g, 0, none⟩) hge _
          have HM6 := hide (HM4.out.step hb46)
          have hbj6 := HBJ.out.far (p := ⟨g, 0, none⟩) (show w5.heap.size ≠ g by omega) (.int .i64 9)
          have HBJ6 := hide hbj6
          have HS6 : Hid ((W5.setCell ⟨g, 0, none⟩ (.int .i64 9)).heap.size = W5.heap.size) := hide (by simp [World.setCell])
          obtain ⟨d0, d1, e0, e1, g0, g1⟩ := HM6.out.cells
          simp only at d0 d1 e0 e1 g0 g1
          have u0 := hbj6.cell 0
          have u1 := hbj6.cell 1
          have v0 := hbj6.frozen 0
          have v1 := hbj6.frozen 1
          simp at u0 u1
          rw [hW5] at d0 d1 e0 e1 g0 g1 u0 u1 v0 v1
          clear hW5 hbj hrj hb45 hb5 hown hge hlt hlt5 hz0 hb46 hbj6
          go_wp2_with fail
          rw [← HW5.out]
          clear a0 a1 b0 b1 c0 c1 p0 p1 f0 f1 d0 d1 e0 e1 g0 g1 u0 u1 v0 v1 hca hfa
          obtain ⟨W6, hW6⟩ : ∃ W6 : World, W6 = W5.setCell ⟨g, 0, none⟩ (.int .i64 9) := ⟨_, rfl⟩
          rw [← hW6] at HM6 HBJ6 HS6 ⊢
          clear hW6
          refine (JN.out _ HM6.out).mono ?_
          rintro e w7 ⟨A7, k7, rfl, hown7, hb7⟩
          rw [← HME.out] at hown7 ⊢
          have hj7 := HBJ6.out.below hb7 HBJ6.out.lt
          have HM7' := hide (HM6.out.step hb7)
          have x0 := hj7.cell 0
          have x1 := hj7.cell 1
          have y0 := hj7.frozen 0
          have y1 := hj7.frozen 1
          simp at x0 x1
          obtain ⟨jb, hjb⟩ : ∃ jb, jb = w5.heap.size := ⟨_, rfl⟩
          have hsj : s + 1 + 1 + 1 ≤ jb := by have := HM4.out.size; have := HLT5.out; omega
          rw [← hjb] at hj7 x0 x1 y0 y1 HBJ6 HBJ ⊢
          clear hjb
          obtain ⟨W7, hW7⟩ : ∃ W7 : World, W7 = (w7.setCell ⟨jb, 0, none⟩ (.bool cj)).setCell ⟨jb, 1, none⟩ (.slice A7 m k7) := ⟨_, rfl⟩
          have hne7 : Value.ownBlock (.slice A7 m k7) ≠ some jb := fun e => by have := (hown7.lt jb e).1; have := HBJ6.out.lt; omega
          have hown7' : W7.ownsRow W6.heap.size 3 1 (.slice A7 m k7) m (L.map (Value.int .i64)) := by
            rw [hW7]; exact ownsRow_setCell_other (a := ⟨jb, 1, none⟩) (ownsRow_setCell_other (a := ⟨jb, 0, none⟩) hown7 hne7 _) hne7 _
          have hbj7 : Blk W7 jb 103 #[.bool cj, .slice A7 m k7] := by
            rw [hW7]; have h := (hj7.set_ 0 (.bool cj)).set_ 1 (.slice A7 m k7); simpa using h
          have hbW7 : Below (s + 1 + 1 + 1) w7 W7 := by
            rw [hW7]; exact ((Below.refl _ _).setCell (p := ⟨jb, 0, none⟩) hsj _).setCell (p := ⟨jb, 1, none⟩) hsj _
          have HM7 := hide (HM7'.out.next (Nat.le_refl _) hbW7)
          have hrj7 := RI.own HME.out.symm hown7'
          obtain ⟨a0, a1, b0, b1, c0, c1⟩ := HM7.out.cells
          simp only at a0 a1 b0 b1 c0 c1
          have p0 := hbj7.cell 0
          have p1 := hbj7.cell 1
          simp at p0 p1
          rw [hW7] at a0 a1 b0 b1 c0 c1 p0 p1
          have HW7 := hide hW7
          have HBJ7 := hide hbj7
          have HRJ7 := hide hrj7
          clear hW7 hbj7 hrj7 hbW7 hown7' hown7 hb7 hj7 hne7 hsj
          go_wp2_with fail
          rw [← HW7.out]
          clear a0 a1 b0 b1 c0 c1 p0 p1 x0 x1 y0 y1
          refine (GJ.out W7 m k7 A7 HME.out HRJ7.out).mono ?_
          rintro e w8 ⟨rfl, hb8⟩
          have HM8 := hide (HM7.out.step hb8)
          have HBJ8 := hide (HBJ7.out.below hb8 HBJ7.out.lt)
          have HRJ8 := hide ((HRJ7.out.below hb8).more hb8.size)
          clear hb8
          obtain ⟨a0, a1, b0, b1, c0, c1⟩ := HM8.out.cells
          simp only at a0 a1 b0 b1 c0 c1
          have p0 := HBJ8.out.cell 0
          have p1 := HBJ8.out.cell 1
          simp at p0 p1
          go_wp2_with fail
          clear a0 a1 b0 b1 c0 c1 p0 p1
          have B1 := BAC.out w8 HM8.out
          cases h1 : belowB tag ca xs cc zs with
          | false =>
            rw [h1] at B1
            have B1 := hide B1
            clear h1
            refine B1.out.mono ?_
            rintro e wa ⟨rfl, hba⟩
            have HMa := hide (HM8.out.step hba)
            clear hba
            go_wp2_with fail
            go_ret
            exact ⟨rfl, by rw [← HS.out]; exact HMa.out.low⟩
          | true =>
            rw [h1] at B1
            have B1 := hide B1
            have H1 := hide h1
            clear h1
            refine B1.out.mono ?_
            rintro e wa ⟨rfl, hba⟩
            have HMa := hide (HM8.out.step hba)
            have HBJa := hide (HBJ8.out.below hba HBJ8.out.lt)
            have HRJa := hide ((HRJ8.out.below hba).more hba.size)
            clear hba
            obtain ⟨a0, a1, b0, b1, c0, c1⟩ := HMa.out.cells
            simp only at a0 a1 b0 b1 c0 c1
            have p0 := HBJa.out.cell 0
            have p1 := HBJa.out.cell 1
            simp at p0 p1
            have B2 := BBC.out wa HMa.out
            cases h2 : belowB tag cb ys cc zs with
            | false =>
              rw [h2] at B2
              have B2 := hide B2
              clear h2
              go_wp2_with fail
              refine B2.out.mono ?_
              rintro e wb ⟨rfl, hbb⟩
              have HMb := hide (HMa.out.step hbb)
              clear hbb
              go_wp2_with fail
              go_ret
              exact ⟨rfl, by rw [← HS.out]; exact HMb.out.low⟩
            | true =>
              rw [h2] at B2
              have B2 := hide B2
              have H2 := hide h2
              clear h2
              go_wp2_with fail
              refine B2.out.mono ?_
              rintro e wb ⟨rfl, hbb⟩
              have HMb := hide (HMa.out.step hbb)
              have HBJb := hide (HBJa.out.below hbb HBJa.out.lt)
              have HRJb := hide ((HRJa.out.below hbb).more hbb.size)
              clear hbb a0 a1 b0 b1 c0 c1 p0 p1
              obtain ⟨a0, a1, b0, b1, c0, c1⟩ := HMb.out.cells
              simp only at a0 a1 b0 b1 c0 c1
              have p0 := HBJb.out.cell 0
              have p1 := HBJb.out.cell 1
              simp at p0 p1
              have B3 := BJC.out wb m k7 A7 HME.out HRJb.out HMb.out
              rw [HBL.out H1.out H2.out] at B3
              have B3 := hide B3
              go_wp2_with fail
              refine B3.out.mono ?_
              rintro e wc ⟨rfl, hbc⟩
              have HMc := hide (HMb.out.step hbc)
              clear hbc
              go_wp2_with fail
              go_ret
              exact ⟨rfl, by rw [← HS.out]; exact HMc.out.low⟩

end Go.Proofs.Ytoaajblkbbfikaa
