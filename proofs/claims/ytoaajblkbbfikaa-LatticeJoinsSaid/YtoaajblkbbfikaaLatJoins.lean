/- What LatticeJoins answers. -/
import Derived.Test.YtoaajblkbbfikaaLatLaws
import Derived.Deep.RegionHeld3
import Derived.Deep.DeepCutAuto
namespace Go.Proofs.Ytoaajblkbbfikaa
open Go.RowKit Go.WideShapes Go.ChangeShapes
set_option linter.unusedVariables false
set_option maxRecDepth 100000

theorem MF.next {w W W' : World} {s : Nat} {gs : List (Nat × Fa)} (hs : s ≤ w.heap.size) (hb : Below W.heap.size W W') (h : Hid (MF w s gs W)) : Hid (MF w s gs W') := hide (h.out.step (h.out.size hs) hb)
theorem RI.next {W W' : World} {n : Nat} {A : Option Addr} {xs : List Int} (hb : Below W.heap.size W W') (h : Hid (RI W W.heap.size A n xs)) : Hid (RI W' W'.heap.size A n xs) := hide ((h.out.below hb).more hb.size)
theorem MF.low_ {w W : World} {s : Nat} {gs : List (Nat × Fa)} (h : Hid (MF w s gs W)) : Hid (Below s w W) := hide h.out.low
theorem MF.of_three {w W : World} {s : Nat} {fa fb fc : Fa} (h : M3 w s fa fb fc W) : MF w s [(s, fa), (s + 1, fb), (s + 1 + 1, fc)] W := by
  refine ⟨fun p hp => ?_, h.low⟩
  have hs := h.size
  simp only [List.mem_cons, List.not_mem_nil, or_false] at hp
  rcases hp with rfl | rfl | rfl
  · exact ⟨h.ba, h.x.more (by omega)⟩
  · exact ⟨h.bb, h.y.more (by omega)⟩
  · exact ⟨h.bc, h.z.more (by omega)⟩

set_option maxHeartbeats 8000000 in
theorem joins_walk (tag : Int) (na nb nc ka kb kc : Nat) (ca cb cc : Bool) (A B C : Option Addr) (xs ys zs : List Int) (w : World) (hx : RI w w.heap.size A na xs) (hy : RI w w.heap.size B nb ys) (hz : RI w w.heap.size C nc zs)
    (ha : na ≤ 9223372036854775807) (hb : nb ≤ 9223372036854775807) (hc : nc ≤ 9223372036854775807) :
    Calls Try.prog 12 #[.int .i64 tag, .agg #[.bool ca, .slice A na ka], .agg #[.bool cb, .slice B nb kb], .agg #[.bool cc, .slice C nc kc]] w (BoolBelow w true) := by
  have hm := MF.of_three (M3.new (fa := ⟨ca, A, na, ka, xs⟩) (fb := ⟨cb, B, nb, kb, ys⟩) (fc := ⟨cc, C, nc, kc, zs⟩) hx hy hz)
  have HLX := hide hx.1
  have HLY := hide hy.1
  have HLZ := hide hz.1
  clear hx hy hz
  go_enter Try.func12, Try.ntmps12
  go_wp2_with fail
  obtain ⟨W0, hW0⟩ : ∃ W0 : World, W0 = (((w.alloc (.cells #[.bool ca, .slice A na ka] 103)).alloc (.cells #[.bool cb, .slice B nb kb] 103)).alloc (.cells #[.bool cc, .slice C nc kc] 103)) := ⟨_, rfl⟩
  simp only [← hW0] at hm ⊢
  clear hW0
  obtain ⟨s, hs⟩ : ∃ s, s = w.heap.size := ⟨_, rfl⟩
  rw [← hs] at hm ⊢
  have HS := hide (Nat.le_of_eq hs)
  have HSE := hide hs
  have HM := hide hm
  clear hs hm
  refine (awake20 W0).mono ?_
  rintro e W1 ⟨rfl, hb1⟩
  have HM1 := MF.next HS.out hb1 HM
  clear hb1 HM
  obtain ⟨a0, a1⟩ := HM1.out.cells (g := s) (f := ⟨ca, A, na, ka, xs⟩) (by simp)
  obtain ⟨b0, b1⟩ := HM1.out.cells (g := s + 1) (f := ⟨cb, B, nb, kb, ys⟩) (by simp)
  obtain ⟨c0, c1⟩ := HM1.out.cells (g := s + 1 + 1) (f := ⟨cc, C, nc, kc, zs⟩) (by simp)
  simp only at a0 a1 b0 b1 c0 c1
  go_upto_if 20 with fail
  go_cut [1, 9] (fun s1 s9 wx => s1 = .agg #[.bool ca, .slice A na ka] ∧ ∃ N : Nat, s9 = .int .i64 N ∧ wx = W1)
  case first =>
    go_wp2_with fail
    all_goals
      go_meet
      exact ⟨by first | rfl | simp_all, _, rfl, rfl⟩
  case rest =>
  obtain ⟨rfl, N, rfl, rfl⟩ := hcut
  by_cases h60 : 60 < N
  · have h4 : decide (60 < (N : Int)) = true := by simpa using (by omega : (60 : Int) < N)
    go_wp2_with fail
    go_ret
    exact ⟨rfl, by rw [← HSE.out]; exact HM1.out.low⟩
  have h4 : decide (60 < (N : Int)) = false := by simpa using (by omega : ¬ (60 : Int) < N)
  have HN : Hid ((N : Int) ≤ 60) := hide (by omega)
  clear h60
  have G := mf_good (tag := tag) (N := (N : Int)) HM1.out (g := s) (f := ⟨ca, A, na, ka, xs⟩) (by simp) ha
  simp only at G
  cases hg : goodB tag N ca na xs with
  | false =>
    rw [hg] at G
    replace G := hide G
    clear hg
    go_wp2_with fail
    refine G.out.mono ?_
    rintro e w2 ⟨rfl, hbn⟩
    have HMe := MF.next HS.out hbn HM1
    clear hbn
    go_wp2_with fail
    go_ret
    exact ⟨rfl, by rw [← HSE.out]; exact HMe.out.low⟩
  | true =>
    rw [hg] at G
    replace G := hide G
    have GA := hide hg
    clear hg
    go_wp2_with fail
    refine G.out.mono ?_
    rintro e w2 ⟨rfl, hbn⟩
    have HM2 := MF.next HS.out hbn HM1
    clear hbn G a0 a1 b0 b1 c0 c1
    obtain ⟨a0, a1⟩ := HM2.out.cells (g := s) (f := ⟨ca, A, na, ka, xs⟩) (by simp)
    obtain ⟨b0, b1⟩ := HM2.out.cells (g := s + 1) (f := ⟨cb, B, nb, kb, ys⟩) (by simp)
    obtain ⟨c0, c1⟩ := HM2.out.cells (g := s + 1 + 1) (f := ⟨cc, C, nc, kc, zs⟩) (by simp)
    simp only at a0 a1 b0 b1 c0 c1
    have G := mf_good (tag := tag) (N := (N : Int)) HM2.out (g := s + 1) (f := ⟨cb, B, nb, kb, ys⟩) (by simp) hb
    simp only at G
    cases hg : goodB tag N cb nb ys with
    | false =>
      rw [hg] at G
      replace G := hide G
      clear hg
      go_wp2_with fail
      refine G.out.mono ?_
      rintro e w3 ⟨rfl, hbn⟩
      have HMe := MF.next HS.out hbn HM2
      clear hbn
      go_wp2_with fail
      go_ret
      exact ⟨rfl, by rw [← HSE.out]; exact HMe.out.low⟩
    | true =>
      rw [hg] at G
      replace G := hide G
      have GB := hide hg
      clear hg
      go_wp2_with fail
      refine G.out.mono ?_
      rintro e w3 ⟨rfl, hbn⟩
      have HM3 := MF.next HS.out hbn HM2
      clear hbn G a0 a1 b0 b1 c0 c1
      obtain ⟨a0, a1⟩ := HM3.out.cells (g := s) (f := ⟨ca, A, na, ka, xs⟩) (by simp)
      obtain ⟨b0, b1⟩ := HM3.out.cells (g := s + 1) (f := ⟨cb, B, nb, kb, ys⟩) (by simp)
      obtain ⟨c0, c1⟩ := HM3.out.cells (g := s + 1 + 1) (f := ⟨cc, C, nc, kc, zs⟩) (by simp)
      simp only at a0 a1 b0 b1 c0 c1
      have G := mf_good (tag := tag) (N := (N : Int)) HM3.out (g := s + 1 + 1) (f := ⟨cc, C, nc, kc, zs⟩) (by simp) hc
      simp only at G
      cases hg : goodB tag N cc nc zs with
      | false =>
        rw [hg] at G
        replace G := hide G
        clear hg
        go_wp2_with fail
        refine G.out.mono ?_
        rintro e w4 ⟨rfl, hbn⟩
        have HMe := MF.next HS.out hbn HM3
        clear hbn
        go_wp2_with fail
        go_ret
        exact ⟨rfl, by rw [← HSE.out]; exact HMe.out.low⟩
      | true =>
        rw [hg] at G
        replace G := hide G
        have GC := hide hg
        clear hg
        go_wp2_with fail
        refine G.out.mono ?_
        rintro e w4 ⟨rfl, hbn⟩
        have HM4 := MF.next HS.out hbn HM3
        clear hbn G a0 a1 b0 b1 c0 c1
        obtain ⟨a0, a1⟩ := HM4.out.cells (g := s) (f := ⟨ca, A, na, ka, xs⟩) (by simp)
        obtain ⟨b0, b1⟩ := HM4.out.cells (g := s + 1) (f := ⟨cb, B, nb, kb, ys⟩) (by simp)
        obtain ⟨c0, c1⟩ := HM4.out.cells (g := s + 1 + 1) (f := ⟨cc, C, nc, kc, zs⟩) (by simp)
        simp only at a0 a1 b0 b1 c0 c1
        clear h4
        have ga : goodB tag N ca xs.length xs = true := by rw [HLX.out]; exact GA.out
        have gb : goodB tag N cb ys.length ys = true := by rw [HLY.out]; exact GB.out
        have gc : goodB tag N cc zs.length zs = true := by rw [HLZ.out]; exact GC.out
        have gx := good_join ga gb
        have gy := good_join gb gc
        have EBA := joinL_comm ga gb
        have EAS := joinL_assoc ga gb gc
        have gz := good_join gx gc
        have ht : tag = 2 ∧ (if tag = 2 then (1 : Int) else 3) = 1 ∨ tag = 1 ∧ (if tag = 2 then (1 : Int) else 3) = 3 := by rcases good_tag ga with rfl | rfl <;> simp
        have LAX := below_left ga gb
        have LBX := below_right ga gb
        have LBT := below_both ga gb
        have LTR := below_trans ga gb gc
        obtain ⟨L, hL⟩ : ∃ L, L = joinL tag ca xs cb ys := ⟨_, rfl⟩
        obtain ⟨M, hM⟩ : ∃ M, M = joinL tag cb ys cc zs := ⟨_, rfl⟩
        obtain ⟨cx, hcx⟩ : ∃ c, c = (ca || cb) := ⟨_, rfl⟩
        obtain ⟨cy, hcy⟩ : ∃ c, c = (cb || cc) := ⟨_, rfl⟩
        have JAB := hide (show ∀ (W : World), Hid (MF w s [(s, ⟨ca, A, na, ka, xs⟩), (s + 1, ⟨cb, B, nb, kb, ys⟩), (s + 1 + 1, ⟨cc, C, nc, kc, zs⟩)] W) →  Calls Try.prog 56 #[.int .i64 tag, .agg #[.bool ca, .slice A na ka], .agg #[.bool cb, .slice B nb kb]] W (JoinPost W cx L) from fun W h => by rw [hcx, hL]; exact ri_join ⟨ca, A, na, ka, xs⟩ ⟨cb, B, nb, kb, ys⟩ (h.out.fact (s, ⟨ca, A, na, ka, xs⟩) (by simp)).2 (h.out.fact (s + 1, ⟨cb, B, nb, kb, ys⟩) (by simp)).2 HN.out ga gb)
        have JBC := hide (show ∀ (W : World), Hid (MF w s [(s, ⟨ca, A, na, ka, xs⟩), (s + 1, ⟨cb, B, nb, kb, ys⟩), (s + 1 + 1, ⟨cc, C, nc, kc, zs⟩)] W) →  Calls Try.prog 56 #[.int .i64 tag, .agg #[.bool cb, .slice B nb kb], .agg #[.bool cc, .slice C nc kc]] W (JoinPost W cy M) from fun W h => by rw [hcy, hM]; exact ri_join ⟨cb, B, nb, kb, ys⟩ ⟨cc, C, nc, kc, zs⟩ (h.out.fact (s + 1, ⟨cb, B, nb, kb, ys⟩) (by simp)).2 (h.out.fact (s + 1 + 1, ⟨cc, C, nc, kc, zs⟩) (by simp)).2 HN.out gb gc)
        go_wp2_with fail
        refine (JAB.out _ HM4).mono ?_
        rintro e w5 ⟨A1, k1, rfl, hown, hb5⟩
        have hm6 := HM4.out.put (cj := cx) (HM4.out.size HS.out) hb5 hown
        obtain ⟨W6, hW6⟩ : ∃ W : World, W = w5.alloc (.cells #[.bool cx, .slice A1 L.length k1] 103) := ⟨_, rfl⟩
        rw [← hW6] at hm6
        obtain ⟨gX, hgx⟩ : ∃ g, g = w5.heap.size := ⟨_, rfl⟩
        rw [← hgx] at hm6
        have HM6 := hide hm6
        have HM63 : Hid (MF w s [(s, ⟨ca, A, na, ka, xs⟩), (s + 1, ⟨cb, B, nb, kb, ys⟩), (s + 1 + 1, ⟨cc, C, nc, kc, zs⟩)] W6) := hide ⟨fun p hp => hm6.fact p (List.mem_cons_of_mem _ hp), hm6.low⟩
        clear a0 a1 b0 b1 c0 c1 hown hb5 hm6
        obtain ⟨a0, a1⟩ := HM6.out.cells (g := s) (f := ⟨ca, A, na, ka, xs⟩) (by simp)
        obtain ⟨b0, b1⟩ := HM6.out.cells (g := s + 1) (f := ⟨cb, B, nb, kb, ys⟩) (by simp)
        obtain ⟨c0, c1⟩ := HM6.out.cells (g := s + 1 + 1) (f := ⟨cc, C, nc, kc, zs⟩) (by simp)
        simp only at a0 a1 b0 b1 c0 c1
        rw [hW6] at a0 a1 b0 b1 c0 c1
        have HW6 := hide hW6
        have HGX := hide hgx
        clear hW6 hgx
        have HEQ := hide (And.intro hL (And.intro hM (And.intro hcx hcy)))
        have HLW := hide (And.intro LAX (And.intro LBX (And.intro LBT LTR)))
        have HGD := hide (And.intro ga (And.intro gb (And.intro gc (And.intro gx (And.intro gy gz)))))
        have HEL := hide (And.intro EBA EAS)
        have HT := hide ht
        clear gx gy EBA EAS gz ht LAX LBX LBT LTR hL hM hcx hcy ga gb gc
        go_wp2_with fail
        rw [← HW6.out]
        rw [← HGX.out]
        refine (JBC.out _ HM63).mono ?_
        rintro e w7 ⟨A2, k2, rfl, hown, hb7⟩
        have hm8 := HM6.out.put (cj := cy) (HM6.out.size HS.out) hb7 hown
        obtain ⟨W8, hW8⟩ : ∃ W : World, W = w7.alloc (.cells #[.bool cy, .slice A2 M.length k2] 103) := ⟨_, rfl⟩
        rw [← hW8] at hm8
        obtain ⟨gY, hgy⟩ : ∃ g, g = w7.heap.size := ⟨_, rfl⟩
        rw [← hgy] at hm8
        have HM8 := hide hm8
        clear a0 a1 b0 b1 c0 c1 hown hb7 hm8
        obtain ⟨a0, a1⟩ := HM8.out.cells (g := s) (f := ⟨ca, A, na, ka, xs⟩) (by simp)
        obtain ⟨b0, b1⟩ := HM8.out.cells (g := s + 1) (f := ⟨cb, B, nb, kb, ys⟩) (by simp)
        obtain ⟨c0, c1⟩ := HM8.out.cells (g := s + 1 + 1) (f := ⟨cc, C, nc, kc, zs⟩) (by simp)
        obtain ⟨x0, x1⟩ := HM8.out.cells (g := gX) (f := ⟨cx, A1, L.length, k1, L⟩) (by simp)
        obtain ⟨y0, y1⟩ := HM8.out.cells (g := gY) (f := ⟨cy, A2, M.length, k2, M⟩) (by simp)
        simp only at a0 a1 b0 b1 c0 c1 x0 x1 y0 y1
        rw [hW8] at a0 a1 b0 b1 c0 c1 x0 x1 y0 y1
        have HW8 := hide hW8
        have HGY := hide hgy
        clear hW8 hgy JAB JBC HM1 HM2 HM3 HM4 HM63 HM6 HW6 HGX
        go_upto_region 10 with fail
        rw [← HW8.out]
        rw [← HGY.out]
        clear a0 a1 b0 b1 c0 c1 x0 x1 y0 y1 HW8 HGY
        obtain ⟨hL, hM, hcx, hcy⟩ := HEQ.out
        obtain ⟨ga, gb, gc, gx, gy, gz⟩ := HGD.out
        obtain ⟨EBA, EAS⟩ := HEL.out
        obtain ⟨LAX, LBX, LBT, LTR⟩ := HLW.out
        rw [← hL, ← hcx] at gx gz EAS LAX LBX
        rw [← hL] at EBA
        rw [← hM, ← hcy] at gy EAS
        obtain ⟨Z, hZ⟩ : ∃ Z, Z = joinL tag cx L cc zs := ⟨_, rfl⟩
        obtain ⟨cz, hcz⟩ : ∃ c, c = (cx || cc) := ⟨_, rfl⟩
        have hcz2 : (ca || cy) = cz := by rw [hcz, hcx, hcy, Bool.or_assoc]
        have hcx2 : (cb || ca) = cx := by rw [hcx, Bool.or_comm]
        rw [← hZ] at EAS gz
        rw [← hcz] at gz
        have lx : (L.length : Nat) ≤ 60 := good_len gx HN.out
        have gtp := good_top (tag := tag) (n := N) HT.out
        have btp := below_top (n := N) HT.out ga
        obtain ⟨mt, hmt⟩ : ∃ m : Int, m = (if tag = 2 then 1 else 3) := ⟨_, rfl⟩
        have htt : tag = 2 ∧ mt = 1 ∨ tag = 1 ∧ mt = 3 := by rw [hmt]; exact HT.out
        rw [← hmt] at gtp btp
        obtain ⟨T, hT⟩ : ∃ T, T = List.replicate N mt := ⟨_, rfl⟩
        rw [← hT] at gtp btp
        have JBA := hide (show ∀ (W : World), Hid (MF w s ((gY, (⟨cy, A2, M.length, k2, M⟩ : Fa)) :: (gX, (⟨cx, A1, L.length, k1, L⟩ : Fa)) :: [(s, ⟨ca, A, na, ka, xs⟩), (s + 1, ⟨cb, B, nb, kb, ys⟩), (s + 1 + 1, ⟨cc, C, nc, kc, zs⟩)]) W) →  Calls Try.prog 56 #[.int .i64 tag, .agg #[.bool cb, .slice B nb kb], .agg #[.bool ca, .slice A na ka]] W (JoinPost W cx L) from fun W h => by
          have q := ri_join (W := W) (tag := tag) ⟨cb, B, nb, kb, ys⟩ ⟨ca, A, na, ka, xs⟩ (h.out.fact (s + 1, ⟨cb, B, nb, kb, ys⟩) (by simp)).2 (h.out.fact (s, ⟨ca, A, na, ka, xs⟩) (by simp)).2 HN.out gb ga
          simp only at q
          rw [hcx2, EBA] at q
          exact q)
        have JAA := hide (show ∀ (W : World), Hid (MF w s ((gY, (⟨cy, A2, M.length, k2, M⟩ : Fa)) :: (gX, (⟨cx, A1, L.length, k1, L⟩ : Fa)) :: [(s, ⟨ca, A, na, ka, xs⟩), (s + 1, ⟨cb, B, nb, kb, ys⟩), (s + 1 + 1, ⟨cc, C, nc, kc, zs⟩)]) W) →  Calls Try.prog 56 #[.int .i64 tag, .agg #[.bool ca, .slice A na ka], .agg #[.bool ca, .slice A na ka]] W (JoinPost W ca xs) from fun W h => by
          have q := ri_join (W := W) (tag := tag) ⟨ca, A, na, ka, xs⟩ ⟨ca, A, na, ka, xs⟩ (h.out.fact (s, ⟨ca, A, na, ka, xs⟩) (by simp)).2 (h.out.fact (s, ⟨ca, A, na, ka, xs⟩) (by simp)).2 HN.out ga ga
          simp only at q
          rw [Bool.or_self, joinL_self] at q
          exact q)
        have JXC := hide (show ∀ (W : World), Hid (MF w s ((gY, (⟨cy, A2, M.length, k2, M⟩ : Fa)) :: (gX, (⟨cx, A1, L.length, k1, L⟩ : Fa)) :: [(s, ⟨ca, A, na, ka, xs⟩), (s + 1, ⟨cb, B, nb, kb, ys⟩), (s + 1 + 1, ⟨cc, C, nc, kc, zs⟩)]) W) →  Calls Try.prog 56 #[.int .i64 tag, .agg #[.bool cx, .slice A1 L.length k1], .agg #[.bool cc, .slice C nc kc]] W (JoinPost W cz Z) from fun W h => by
          have q := ri_join (W := W) (tag := tag) ⟨cx, A1, L.length, k1, L⟩ ⟨cc, C, nc, kc, zs⟩ (h.out.fact (gX, ⟨cx, A1, L.length, k1, L⟩) (by simp)).2 (h.out.fact (s + 1 + 1, ⟨cc, C, nc, kc, zs⟩) (by simp)).2 HN.out gx gc
          simp only at q
          rw [← hcz, ← hZ] at q
          exact q)
        have JAY := hide (show ∀ (W : World), Hid (MF w s ((gY, (⟨cy, A2, M.length, k2, M⟩ : Fa)) :: (gX, (⟨cx, A1, L.length, k1, L⟩ : Fa)) :: [(s, ⟨ca, A, na, ka, xs⟩), (s + 1, ⟨cb, B, nb, kb, ys⟩), (s + 1 + 1, ⟨cc, C, nc, kc, zs⟩)]) W) →  Calls Try.prog 56 #[.int .i64 tag, .agg #[.bool ca, .slice A na ka], .agg #[.bool cy, .slice A2 M.length k2]] W (JoinPost W cz Z) from fun W h => by
          have q := ri_join (W := W) (tag := tag) ⟨ca, A, na, ka, xs⟩ ⟨cy, A2, M.length, k2, M⟩ (h.out.fact (s, ⟨ca, A, na, ka, xs⟩) (by simp)).2 (h.out.fact (gY, ⟨cy, A2, M.length, k2, M⟩) (by simp)).2 HN.out ga gy
          simp only at q
          rw [hcz2, ← EAS] at q
          exact q)
        have SXB := hide (show ∀ (W : World) (A8 : Option Addr) (k8 : Nat), Hid (MF w s ((gY, (⟨cy, A2, M.length, k2, M⟩ : Fa)) :: (gX, (⟨cx, A1, L.length, k1, L⟩ : Fa)) :: [(s, ⟨ca, A, na, ka, xs⟩), (s + 1, ⟨cb, B, nb, kb, ys⟩), (s + 1 + 1, ⟨cc, C, nc, kc, zs⟩)]) W) → Hid (RI W W.heap.size A8 L.length L) →  Calls Try.prog 57 #[.agg #[.bool cx, .slice A1 L.length k1], .agg #[.bool cx, .slice A8 L.length k8]] W (BoolBelow W true) from fun W A8 k8 h h1 => by
          have q := ri_same (tag := tag) (N := (N : Int)) (W := W) ⟨cx, A1, L.length, k1, L⟩ ⟨cx, A8, L.length, k8, L⟩ (h.out.fact (gX, ⟨cx, A1, L.length, k1, L⟩) (by simp)).2 h1.out HN.out gx gx
          simpa using q)
        have SAA := hide (show ∀ (W : World) (A8 : Option Addr) (k8 : Nat), Hid (MF w s ((gY, (⟨cy, A2, M.length, k2, M⟩ : Fa)) :: (gX, (⟨cx, A1, L.length, k1, L⟩ : Fa)) :: [(s, ⟨ca, A, na, ka, xs⟩), (s + 1, ⟨cb, B, nb, kb, ys⟩), (s + 1 + 1, ⟨cc, C, nc, kc, zs⟩)]) W) → Hid (RI W W.heap.size A8 xs.length xs) →  Calls Try.prog 57 #[.agg #[.bool ca, .slice A8 xs.length k8], .agg #[.bool ca, .slice A na ka]] W (BoolBelow W true) from fun W A8 k8 h h1 => by
          have q := ri_same (tag := tag) (N := (N : Int)) (W := W) ⟨ca, A8, xs.length, k8, xs⟩ ⟨ca, A, na, ka, xs⟩ h1.out (h.out.fact (s, ⟨ca, A, na, ka, xs⟩) (by simp)).2 HN.out ga ga
          simpa using q)
        have SZZ := hide (show ∀ (W : World) (A8 : Option Addr) (k8 : Nat) (A9 : Option Addr) (k9 : Nat), Hid (MF w s ((gY, (⟨cy, A2, M.length, k2, M⟩ : Fa)) :: (gX, (⟨cx, A1, L.length, k1, L⟩ : Fa)) :: [(s, ⟨ca, A, na, ka, xs⟩), (s + 1, ⟨cb, B, nb, kb, ys⟩), (s + 1 + 1, ⟨cc, C, nc, kc, zs⟩)]) W) → Hid (RI W W.heap.size A8 Z.length Z) → Hid (RI W W.heap.size A9 Z.length Z) →  Calls Try.prog 57 #[.agg #[.bool cz, .slice A8 Z.length k8], .agg #[.bool cz, .slice A9 Z.length k9]] W (BoolBelow W true) from fun W A8 k8 A9 k9 h h1 h2 => by
          have q := ri_same (tag := tag) (N := (N : Int)) (W := W) ⟨cz, A8, Z.length, k8, Z⟩ ⟨cz, A9, Z.length, k9, Z⟩ h1.out h2.out HN.out gz gz
          simpa using q)
        have GDX := hide (show ∀ (W : World), Hid (MF w s ((gY, (⟨cy, A2, M.length, k2, M⟩ : Fa)) :: (gX, (⟨cx, A1, L.length, k1, L⟩ : Fa)) :: [(s, ⟨ca, A, na, ka, xs⟩), (s + 1, ⟨cb, B, nb, kb, ys⟩), (s + 1 + 1, ⟨cc, C, nc, kc, zs⟩)]) W) →  Calls Try.prog 55 #[.int .i64 tag, .int .i64 N, .agg #[.bool cx, .slice A1 L.length k1]] W (BoolBelow W true) from fun W h => by
          have q := mf_good (tag := tag) (N := (N : Int)) h.out (g := gX) (f := ⟨cx, A1, L.length, k1, L⟩) (by simp) (by show L.length ≤ _; omega)
          simp only at q
          rw [gx] at q
          exact q)
        have TEN := hide (show ∀ W : World, Hid (MF w s ((gY, (⟨cy, A2, M.length, k2, M⟩ : Fa)) :: (gX, (⟨cx, A1, L.length, k1, L⟩ : Fa)) :: [(s, ⟨ca, A, na, ka, xs⟩), (s + 1, ⟨cb, B, nb, kb, ys⟩), (s + 1 + 1, ⟨cc, C, nc, kc, zs⟩)]) W) → W.cell? ⟨s, 0, none⟩ = some (.bool ca) ∧ W.cell? ⟨s, 1, none⟩ = some (.slice A na ka) ∧ W.cell? ⟨s + 1, 0, none⟩ = some (.bool cb) ∧ W.cell? ⟨s + 1, 1, none⟩ = some (.slice B nb kb) ∧ W.cell? ⟨s + 1 + 1, 0, none⟩ = some (.bool cc) ∧ W.cell? ⟨s + 1 + 1, 1, none⟩ = some (.slice C nc kc) ∧ W.cell? ⟨gX, 0, none⟩ = some (.bool cx) ∧ W.cell? ⟨gX, 1, none⟩ = some (.slice A1 L.length k1) ∧ W.cell? ⟨gY, 0, none⟩ = some (.bool cy) ∧ W.cell? ⟨gY, 1, none⟩ = some (.slice A2 M.length k2) from fun W h => ⟨(h.out.cells (g := s) (f := ⟨ca, A, na, ka, xs⟩) (by simp)).1, (h.out.cells (g := s) (f := ⟨ca, A, na, ka, xs⟩) (by simp)).2, (h.out.cells (g := s + 1) (f := ⟨cb, B, nb, kb, ys⟩) (by simp)).1, (h.out.cells (g := s + 1) (f := ⟨cb, B, nb, kb, ys⟩) (by simp)).2, (h.out.cells (g := s + 1 + 1) (f := ⟨cc, C, nc, kc, zs⟩) (by simp)).1, (h.out.cells (g := s + 1 + 1) (f := ⟨cc, C, nc, kc, zs⟩) (by simp)).2, (h.out.cells (g := gX) (f := ⟨cx, A1, L.length, k1, L⟩) (by simp)).1, (h.out.cells (g := gX) (f := ⟨cx, A1, L.length, k1, L⟩) (by simp)).2, (h.out.cells (g := gY) (f := ⟨cy, A2, M.length, k2, M⟩) (by simp)).1, (h.out.cells (g := gY) (f := ⟨cy, A2, M.length, k2, M⟩) (by simp)).2⟩)
        have HE1 := hide (And.intro LAX (And.intro LBX (And.intro LBT LTR)))
        have HE2 := hide (And.intro ga (And.intro gb (And.intro gc (And.intro gx (And.intro gtp btp)))))
        have HTT := hide htt
        have HTE := hide hT
        clear hL hM hcx hcy ga gb gc gx gy gz EBA EAS LAX LBX LBT LTR hZ hcz hcz2 hcx2 lx gtp btp hmt htt hT HEL HLW HEQ
        go_cut [93] (fun s93 wx => s93 = .bool false ∧ Hid (MF w s ((gY, (⟨cy, A2, M.length, k2, M⟩ : Fa)) :: (gX, (⟨cx, A1, L.length, k1, L⟩ : Fa)) :: [(s, ⟨ca, A, na, ka, xs⟩), (s + 1, ⟨cb, B, nb, kb, ys⟩), (s + 1 + 1, ⟨cc, C, nc, kc, zs⟩)]) wx))
        case first =>
          have HM9 := MF.next HS.out (Below.refl _ _).drew HM8
          obtain ⟨a0, a1, b0, b1, c0, c1, x0, x1, y0, y1⟩ := TEN.out _ HM8
          go_region_held3 (fun w' => w'.cell? ⟨s, 0, none⟩ = some (.bool ca) ∧ w'.cell? ⟨s, 1, none⟩ = some (.slice A na ka) ∧ w'.cell? ⟨s + 1, 0, none⟩ = some (.bool cb) ∧ w'.cell? ⟨s + 1, 1, none⟩ = some (.slice B nb kb) ∧ w'.cell? ⟨s + 1 + 1, 0, none⟩ = some (.bool cc) ∧ w'.cell? ⟨s + 1 + 1, 1, none⟩ = some (.slice C nc kc) ∧ w'.cell? ⟨gX, 0, none⟩ = some (.bool cx) ∧ w'.cell? ⟨gX, 1, none⟩ = some (.slice A1 L.length k1) ∧ w'.cell? ⟨gY, 0, none⟩ = some (.bool cy) ∧ w'.cell? ⟨gY, 1, none⟩ = some (.slice A2 M.length k2))
            (first | exact TEN.out _ (by assumption))
            (first
              | (go_at_call 56; (with_reducible refine (JBA.out _ (by assumption)).mono ?_); rintro e wba ⟨Aba, kba, rfl, hownba, hbba⟩; have hmba := MF.next HS.out hbba (by assumption); have hrba := hide (RI.own rfl hownba))
              | (go_at_call 56; (with_reducible refine (JAA.out _ (by assumption)).mono ?_); rintro e waa ⟨Aaa, kaa, rfl, hownaa, hbaa⟩; have hmaa := MF.next HS.out hbaa (by assumption); have hraa := hide (RI.own rfl hownaa))
              | (go_at_call 56; (with_reducible refine (JXC.out _ (by assumption)).mono ?_); rintro e wxc ⟨Axc, kxc, rfl, hownxc, hbxc⟩; have hmxc := MF.next HS.out hbxc (by assumption); have hrxc := hide (RI.own rfl hownxc); try have hray := RI.next hbxc hray)
              | (go_at_call 56; (with_reducible refine (JAY.out _ (by assumption)).mono ?_); rintro e way ⟨Aay, kay, rfl, hownay, hbay⟩; have hmay := MF.next HS.out hbay (by assumption); have hray := hide (RI.own rfl hownay); try have hrxc := RI.next hbay hrxc)
              | (go_at_call 57; (with_reducible refine (SXB.out _ _ _ (by assumption) (by assumption)).mono ?_); rintro e ws1 ⟨rfl, hbs1⟩; have hms1 := MF.next HS.out hbs1 (by assumption))
              | (go_at_call 57; (with_reducible refine (SAA.out _ _ _ (by assumption) (by assumption)).mono ?_); rintro e ws2 ⟨rfl, hbs2⟩; have hms2 := MF.next HS.out hbs2 (by assumption))
              | (go_at_call 57; (with_reducible refine (SZZ.out _ _ _ _ _ (by assumption) (by assumption) (by assumption)).mono ?_); rintro e ws3 ⟨rfl, hbs3⟩; have hms3 := MF.next HS.out hbs3 (by assumption))
              | (go_at_call 55; (with_reducible refine (GDX.out _ (by assumption)).mono ?_); rintro e wg ⟨rfl, hbg⟩; have hmg := MF.next HS.out hbg (by assumption)))
          all_goals go_wp2_with fail
          all_goals (go_meet; exact ⟨rfl, by assumption⟩)
        case rest =>
        obtain ⟨rfl, HM10⟩ := hcut
        clear JBA JAA JXC JAY SXB SAA SZZ GDX TEN HM8
        obtain ⟨a0, a1⟩ := HM10.out.cells (g := s) (f := ⟨ca, A, na, ka, xs⟩) (by simp)
        obtain ⟨b0, b1⟩ := HM10.out.cells (g := s + 1) (f := ⟨cb, B, nb, kb, ys⟩) (by simp)
        obtain ⟨c0, c1⟩ := HM10.out.cells (g := s + 1 + 1) (f := ⟨cc, C, nc, kc, zs⟩) (by simp)
        obtain ⟨x0, x1⟩ := HM10.out.cells (g := gX) (f := ⟨cx, A1, L.length, k1, L⟩) (by simp)
        obtain ⟨y0, y1⟩ := HM10.out.cells (g := gY) (f := ⟨cy, A2, M.length, k2, M⟩) (by simp)
        simp only at a0 a1 b0 b1 c0 c1 x0 x1 y0 y1
        have TP := hide (top_of tag mt N (by have := HN.out; omega) HTT.out)
        go_wp2_with fail
        refine (TP.out _).mono ?_
        rintro e w11 ⟨A3, k3, rfl, hown, hb11⟩
        rw [← HTE.out] at hown ⊢
        have hm12 := HM10.out.put (cj := true) (HM10.out.size HS.out) hb11 hown
        obtain ⟨W12, hW12⟩ : ∃ W : World, W = w11.alloc (.cells #[.bool true, .slice A3 T.length k3] 103) := ⟨_, rfl⟩
        rw [← hW12] at hm12
        obtain ⟨gT, hgt⟩ : ∃ g, g = w11.heap.size := ⟨_, rfl⟩
        rw [← hgt] at hm12
        have HM12 := hide hm12
        clear a0 a1 b0 b1 c0 c1 x0 x1 y0 y1 hown hb11 hm12
        obtain ⟨a0, a1⟩ := HM12.out.cells (g := s) (f := ⟨ca, A, na, ka, xs⟩) (by simp)
        obtain ⟨b0, b1⟩ := HM12.out.cells (g := s + 1) (f := ⟨cb, B, nb, kb, ys⟩) (by simp)
        obtain ⟨c0, c1⟩ := HM12.out.cells (g := s + 1 + 1) (f := ⟨cc, C, nc, kc, zs⟩) (by simp)
        obtain ⟨x0, x1⟩ := HM12.out.cells (g := gX) (f := ⟨cx, A1, L.length, k1, L⟩) (by simp)
        obtain ⟨y0, y1⟩ := HM12.out.cells (g := gY) (f := ⟨cy, A2, M.length, k2, M⟩) (by simp)
        obtain ⟨t0, t1⟩ := HM12.out.cells (g := gT) (f := ⟨true, A3, T.length, k3, T⟩) (by simp)
        simp only at a0 a1 b0 b1 c0 c1 x0 x1 y0 y1 t0 t1
        rw [hW12] at a0 a1 b0 b1 c0 c1 x0 x1 y0 y1 t0 t1
        have HW12 := hide hW12
        have HGT := hide hgt
        clear hW12 hgt TP HTT HM10
        go_upto_region 13 with fail
        rw [← HW12.out]
        rw [← HGT.out]
        simp only [List.append_eq, List.cons_append, List.nil_append]
        clear a0 a1 b0 b1 c0 c1 x0 x1 y0 y1 t0 t1 HW12 HGT
        obtain ⟨LAX, LBX, LBT, LTR⟩ := HE1.out
        obtain ⟨ga, gb, gc, gx, gtp, btp⟩ := HE2.out
        have BAX := hide (show ∀ (W : World), Hid (MF w s ((gT, (⟨true, A3, T.length, k3, T⟩ : Fa)) :: (gY, (⟨cy, A2, M.length, k2, M⟩ : Fa)) :: (gX, (⟨cx, A1, L.length, k1, L⟩ : Fa)) :: [(s, ⟨ca, A, na, ka, xs⟩), (s + 1, ⟨cb, B, nb, kb, ys⟩), (s + 1 + 1, ⟨cc, C, nc, kc, zs⟩)]) W) →  Calls Try.prog 59 #[.int .i64 tag, .agg #[.bool ca, .slice A na ka], .agg #[.bool cx, .slice A1 L.length k1]] W (BoolBelow W true) from fun W h => by
          have q := ri_below (W := W) (tag := tag) ⟨ca, A, na, ka, xs⟩ ⟨cx, A1, L.length, k1, L⟩ (h.out.fact (s, ⟨ca, A, na, ka, xs⟩) (by simp)).2 (h.out.fact (gX, ⟨cx, A1, L.length, k1, L⟩) (by simp)).2 HN.out ga gx
          simp only at q
          rw [LAX] at q
          exact q)
        have BBX := hide (show ∀ (W : World), Hid (MF w s ((gT, (⟨true, A3, T.length, k3, T⟩ : Fa)) :: (gY, (⟨cy, A2, M.length, k2, M⟩ : Fa)) :: (gX, (⟨cx, A1, L.length, k1, L⟩ : Fa)) :: [(s, ⟨ca, A, na, ka, xs⟩), (s + 1, ⟨cb, B, nb, kb, ys⟩), (s + 1 + 1, ⟨cc, C, nc, kc, zs⟩)]) W) →  Calls Try.prog 59 #[.int .i64 tag, .agg #[.bool cb, .slice B nb kb], .agg #[.bool cx, .slice A1 L.length k1]] W (BoolBelow W true) from fun W h => by
          have q := ri_below (W := W) (tag := tag) ⟨cb, B, nb, kb, ys⟩ ⟨cx, A1, L.length, k1, L⟩ (h.out.fact (s + 1, ⟨cb, B, nb, kb, ys⟩) (by simp)).2 (h.out.fact (gX, ⟨cx, A1, L.length, k1, L⟩) (by simp)).2 HN.out gb gx
          simp only at q
          rw [LBX] at q
          exact q)
        have BAT := hide (show ∀ (W : World), Hid (MF w s ((gT, (⟨true, A3, T.length, k3, T⟩ : Fa)) :: (gY, (⟨cy, A2, M.length, k2, M⟩ : Fa)) :: (gX, (⟨cx, A1, L.length, k1, L⟩ : Fa)) :: [(s, ⟨ca, A, na, ka, xs⟩), (s + 1, ⟨cb, B, nb, kb, ys⟩), (s + 1 + 1, ⟨cc, C, nc, kc, zs⟩)]) W) →  Calls Try.prog 59 #[.int .i64 tag, .agg #[.bool ca, .slice A na ka], .agg #[.bool true, .slice A3 T.length k3]] W (BoolBelow W true) from fun W h => by
          have q := ri_below (W := W) (tag := tag) ⟨ca, A, na, ka, xs⟩ ⟨true, A3, T.length, k3, T⟩ (h.out.fact (s, ⟨ca, A, na, ka, xs⟩) (by simp)).2 (h.out.fact (gT, ⟨true, A3, T.length, k3, T⟩) (by simp)).2 HN.out ga gtp
          simp only at q
          rw [btp] at q
          exact q)
        have BAA := hide (show ∀ (W : World), Hid (MF w s ((gT, (⟨true, A3, T.length, k3, T⟩ : Fa)) :: (gY, (⟨cy, A2, M.length, k2, M⟩ : Fa)) :: (gX, (⟨cx, A1, L.length, k1, L⟩ : Fa)) :: [(s, ⟨ca, A, na, ka, xs⟩), (s + 1, ⟨cb, B, nb, kb, ys⟩), (s + 1 + 1, ⟨cc, C, nc, kc, zs⟩)]) W) →  Calls Try.prog 59 #[.int .i64 tag, .agg #[.bool ca, .slice A na ka], .agg #[.bool ca, .slice A na ka]] W (BoolBelow W true) from fun W h => by
          have q := ri_below (W := W) (tag := tag) ⟨ca, A, na, ka, xs⟩ ⟨ca, A, na, ka, xs⟩ (h.out.fact (s, ⟨ca, A, na, ka, xs⟩) (by simp)).2 (h.out.fact (s, ⟨ca, A, na, ka, xs⟩) (by simp)).2 HN.out ga ga
          simp only at q
          rw [below_self] at q
          exact q)
        have BAB := hide (show ∀ (W : World), Hid (MF w s ((gT, (⟨true, A3, T.length, k3, T⟩ : Fa)) :: (gY, (⟨cy, A2, M.length, k2, M⟩ : Fa)) :: (gX, (⟨cx, A1, L.length, k1, L⟩ : Fa)) :: [(s, ⟨ca, A, na, ka, xs⟩), (s + 1, ⟨cb, B, nb, kb, ys⟩), (s + 1 + 1, ⟨cc, C, nc, kc, zs⟩)]) W) →  Calls Try.prog 59 #[.int .i64 tag, .agg #[.bool ca, .slice A na ka], .agg #[.bool cb, .slice B nb kb]] W (BoolBelow W (belowB tag ca xs cb ys)) from fun W h => by
          have q := ri_below (W := W) (tag := tag) ⟨ca, A, na, ka, xs⟩ ⟨cb, B, nb, kb, ys⟩ (h.out.fact (s, ⟨ca, A, na, ka, xs⟩) (by simp)).2 (h.out.fact (s + 1, ⟨cb, B, nb, kb, ys⟩) (by simp)).2 HN.out ga gb
          simp only at q
          exact q)
        have BBA := hide (show ∀ (W : World), Hid (MF w s ((gT, (⟨true, A3, T.length, k3, T⟩ : Fa)) :: (gY, (⟨cy, A2, M.length, k2, M⟩ : Fa)) :: (gX, (⟨cx, A1, L.length, k1, L⟩ : Fa)) :: [(s, ⟨ca, A, na, ka, xs⟩), (s + 1, ⟨cb, B, nb, kb, ys⟩), (s + 1 + 1, ⟨cc, C, nc, kc, zs⟩)]) W) →  Calls Try.prog 59 #[.int .i64 tag, .agg #[.bool cb, .slice B nb kb], .agg #[.bool ca, .slice A na ka]] W (BoolBelow W (belowB tag cb ys ca xs)) from fun W h => by
          have q := ri_below (W := W) (tag := tag) ⟨cb, B, nb, kb, ys⟩ ⟨ca, A, na, ka, xs⟩ (h.out.fact (s + 1, ⟨cb, B, nb, kb, ys⟩) (by simp)).2 (h.out.fact (s, ⟨ca, A, na, ka, xs⟩) (by simp)).2 HN.out gb ga
          simp only at q
          exact q)
        have BBC := hide (show ∀ (W : World), Hid (MF w s ((gT, (⟨true, A3, T.length, k3, T⟩ : Fa)) :: (gY, (⟨cy, A2, M.length, k2, M⟩ : Fa)) :: (gX, (⟨cx, A1, L.length, k1, L⟩ : Fa)) :: [(s, ⟨ca, A, na, ka, xs⟩), (s + 1, ⟨cb, B, nb, kb, ys⟩), (s + 1 + 1, ⟨cc, C, nc, kc, zs⟩)]) W) →  Calls Try.prog 59 #[.int .i64 tag, .agg #[.bool cb, .slice B nb kb], .agg #[.bool cc, .slice C nc kc]] W (BoolBelow W (belowB tag cb ys cc zs)) from fun W h => by
          have q := ri_below (W := W) (tag := tag) ⟨cb, B, nb, kb, ys⟩ ⟨cc, C, nc, kc, zs⟩ (h.out.fact (s + 1, ⟨cb, B, nb, kb, ys⟩) (by simp)).2 (h.out.fact (s + 1 + 1, ⟨cc, C, nc, kc, zs⟩) (by simp)).2 HN.out gb gc
          simp only at q
          exact q)
        have BAC := hide (show ∀ (W : World), Hid (MF w s ((gT, (⟨true, A3, T.length, k3, T⟩ : Fa)) :: (gY, (⟨cy, A2, M.length, k2, M⟩ : Fa)) :: (gX, (⟨cx, A1, L.length, k1, L⟩ : Fa)) :: [(s, ⟨ca, A, na, ka, xs⟩), (s + 1, ⟨cb, B, nb, kb, ys⟩), (s + 1 + 1, ⟨cc, C, nc, kc, zs⟩)]) W) →  Calls Try.prog 59 #[.int .i64 tag, .agg #[.bool ca, .slice A na ka], .agg #[.bool cc, .slice C nc kc]] W (BoolBelow W (belowB tag ca xs cc zs)) from fun W h => by
          have q := ri_below (W := W) (tag := tag) ⟨ca, A, na, ka, xs⟩ ⟨cc, C, nc, kc, zs⟩ (h.out.fact (s, ⟨ca, A, na, ka, xs⟩) (by simp)).2 (h.out.fact (s + 1 + 1, ⟨cc, C, nc, kc, zs⟩) (by simp)).2 HN.out ga gc
          simp only at q
          exact q)
        have SAB := hide (show ∀ (W : World), Hid (MF w s ((gT, (⟨true, A3, T.length, k3, T⟩ : Fa)) :: (gY, (⟨cy, A2, M.length, k2, M⟩ : Fa)) :: (gX, (⟨cx, A1, L.length, k1, L⟩ : Fa)) :: [(s, ⟨ca, A, na, ka, xs⟩), (s + 1, ⟨cb, B, nb, kb, ys⟩), (s + 1 + 1, ⟨cc, C, nc, kc, zs⟩)]) W) →  Calls Try.prog 57 #[.agg #[.bool ca, .slice A na ka], .agg #[.bool cb, .slice B nb kb]] W (BoolBelow W (ca == cb && decide (xs = ys))) from fun W h => by
          have q := ri_same (tag := tag) (N := (N : Int)) (W := W) ⟨ca, A, na, ka, xs⟩ ⟨cb, B, nb, kb, ys⟩ (h.out.fact (s, ⟨ca, A, na, ka, xs⟩) (by simp)).2 (h.out.fact (s + 1, ⟨cb, B, nb, kb, ys⟩) (by simp)).2 HN.out ga gb
          simpa using q)
        have gbt : goodB tag N false ([] : List Int).length [] = true := by rcases good_tag ga with rfl | rfl <;> simp [goodB]
        have BTA := hide (show ∀ (W : World), Hid (MF w s ((gT, (⟨true, A3, T.length, k3, T⟩ : Fa)) :: (gY, (⟨cy, A2, M.length, k2, M⟩ : Fa)) :: (gX, (⟨cx, A1, L.length, k1, L⟩ : Fa)) :: [(s, ⟨ca, A, na, ka, xs⟩), (s + 1, ⟨cb, B, nb, kb, ys⟩), (s + 1 + 1, ⟨cc, C, nc, kc, zs⟩)]) W) →  Calls Try.prog 59 #[.int .i64 tag, .agg #[.bool false, .slice none 0 0], .agg #[.bool ca, .slice A na ka]] W (BoolBelow W true) from fun W h => by
          have q := ri_below (W := W) (tag := tag) ⟨false, none, 0, 0, []⟩ ⟨ca, A, na, ka, xs⟩ ⟨rfl, Reads.none_⟩ (h.out.fact (s, ⟨ca, A, na, ka, xs⟩) (by simp)).2 HN.out gbt ga
          simp only at q
          rw [below_bottom] at q
          exact q)
        have BTN := hide (bottom_any (N : Int))
        have TEN := hide (show ∀ W : World, Hid (MF w s ((gT, (⟨true, A3, T.length, k3, T⟩ : Fa)) :: (gY, (⟨cy, A2, M.length, k2, M⟩ : Fa)) :: (gX, (⟨cx, A1, L.length, k1, L⟩ : Fa)) :: [(s, ⟨ca, A, na, ka, xs⟩), (s + 1, ⟨cb, B, nb, kb, ys⟩), (s + 1 + 1, ⟨cc, C, nc, kc, zs⟩)]) W) → W.cell? ⟨s, 0, none⟩ = some (.bool ca) ∧ W.cell? ⟨s, 1, none⟩ = some (.slice A na ka) ∧ W.cell? ⟨s + 1, 0, none⟩ = some (.bool cb) ∧ W.cell? ⟨s + 1, 1, none⟩ = some (.slice B nb kb) ∧ W.cell? ⟨s + 1 + 1, 0, none⟩ = some (.bool cc) ∧ W.cell? ⟨s + 1 + 1, 1, none⟩ = some (.slice C nc kc) ∧ W.cell? ⟨gX, 0, none⟩ = some (.bool cx) ∧ W.cell? ⟨gX, 1, none⟩ = some (.slice A1 L.length k1) ∧ W.cell? ⟨gT, 0, none⟩ = some (.bool true) ∧ W.cell? ⟨gT, 1, none⟩ = some (.slice A3 T.length k3) from fun W h => ⟨(h.out.cells (g := s) (f := ⟨ca, A, na, ka, xs⟩) (by simp)).1, (h.out.cells (g := s) (f := ⟨ca, A, na, ka, xs⟩) (by simp)).2, (h.out.cells (g := s + 1) (f := ⟨cb, B, nb, kb, ys⟩) (by simp)).1, (h.out.cells (g := s + 1) (f := ⟨cb, B, nb, kb, ys⟩) (by simp)).2, (h.out.cells (g := s + 1 + 1) (f := ⟨cc, C, nc, kc, zs⟩) (by simp)).1, (h.out.cells (g := s + 1 + 1) (f := ⟨cc, C, nc, kc, zs⟩) (by simp)).2, (h.out.cells (g := gX) (f := ⟨cx, A1, L.length, k1, L⟩) (by simp)).1, (h.out.cells (g := gX) (f := ⟨cx, A1, L.length, k1, L⟩) (by simp)).2, (h.out.cells (g := gT) (f := ⟨true, A3, T.length, k3, T⟩) (by simp)).1, (h.out.cells (g := gT) (f := ⟨true, A3, T.length, k3, T⟩) (by simp)).2⟩)
        have HM13 := MF.next HS.out (Below.refl _ _).drew HM12
        obtain ⟨a0, a1, b0, b1, c0, c1, x0, x1, t0, t1⟩ := TEN.out _ HM12
        clear ga gb gc gx gtp btp gbt LAX LBX HE1 HE2 HN HLX HLY HLZ HTE GA GB GC
        have LBT := hide LBT
        have LTR := hide LTR
        refine wp_region_held_drew (S := fun w' => w'.cell? ⟨s, 0, none⟩ = some (.bool ca) ∧ w'.cell? ⟨s, 1, none⟩ = some (.slice A na ka) ∧ w'.cell? ⟨s + 1, 0, none⟩ = some (.bool cb) ∧ w'.cell? ⟨s + 1, 1, none⟩ = some (.slice B nb kb) ∧ w'.cell? ⟨s + 1 + 1, 0, none⟩ = some (.bool cc) ∧ w'.cell? ⟨s + 1 + 1, 1, none⟩ = some (.slice C nc kc) ∧ w'.cell? ⟨gX, 0, none⟩ = some (.bool cx) ∧ w'.cell? ⟨gX, 1, none⟩ = some (.slice A1 L.length k1) ∧ w'.cell? ⟨gT, 0, none⟩ = some (.bool true) ∧ w'.cell? ⟨gT, 1, none⟩ = some (.slice A3 T.length k3)) (by kernel_rfl) (TEN.out _ HM13) (fun hHeld => ?_)
        try simp only [Act.put, List.setIfInBounds_toArray, List.set_cons_zero, List.set_cons_succ]
        refine' wpAnyH_take (i := 0) (oi := _) ?hi ?hs ?hf ?hr ?hQ (v := _) (Or.inl ⟨?hw, ?hy⟩) (by assumption) ?_
        case hi => (simp only [List.getElem?_toArray, List.getElem?_cons_zero]; exact rfl)
        case hs => kernel_rfl
        case hf => kernel_rfl
        case hr => kernel_rfl
        case hQ => exact fun _ _ _ h => h
        case hw => rfl
        case hy => (intro w hSw; (try dsimp only at hSw); go_simp; (try with_reducible rfl))
        try simp only [Act.put, List.setIfInBounds_toArray, List.set_cons_zero, List.set_cons_succ]
        refine' wpAnyH_take (i := 1) (oi := _) ?hi ?hs ?hf ?hr ?hQ (v := _) (Or.inl ⟨?hw, ?hy⟩) (by assumption) ?_
        case hi => (simp only [List.getElem?_toArray, List.getElem?_cons_succ, List.getElem?_cons_zero]; exact rfl)
        case hs => kernel_rfl
        case hf => kernel_rfl
        case hr => kernel_rfl
        case hQ => exact fun _ _ _ h => h
        case hw => rfl
        case hy => (intro w hSw; (try dsimp only at hSw); go_simp; (try with_reducible rfl))
        try simp only [Act.put, List.setIfInBounds_toArray, List.set_cons_zero, List.set_cons_succ]
        refine' wpAnyH_take (i := 2) (oi := _) ?hi ?hs ?hf ?hr ?hQ (v := _) (Or.inl ⟨?hw, ?hy⟩) (by assumption) ?_
        case hi => (simp only [List.getElem?_toArray, List.getElem?_cons_succ, List.getElem?_cons_zero]; exact rfl)
        case hs => kernel_rfl
        case hf => kernel_rfl
        case hr => kernel_rfl
        case hQ => exact fun _ _ _ h => h
        case hw => rfl
        case hy => (intro w hSw; (try dsimp only at hSw); go_simp; (try with_reducible rfl))
        try simp only [Act.put, List.setIfInBounds_toArray, List.set_cons_zero, List.set_cons_succ]
        refine wpAnyH_ready (rs := [3]) (by kernel_rfl) (by simp) ?_
        refine' AllReadyH.cons (o := _) ?ho (fun K hK => ?_) AllReadyH.nil
        case ho => (simp only [List.getElem?_toArray, List.getElem?_cons_succ, List.getElem?_cons_zero]; exact rfl)
        go_simp
        (with_reducible refine (BAX.out _ (by assumption)).mono ?_)
        rintro e w103 ⟨rfl, hbq⟩
        have HMq := MF.next HS.out hbq (by assumption)
        refine hK.out _ _ (TEN.out _ HMq) (fun hHeld => ?_)
        clear hK K hbq
        try simp only [Act.put, List.setIfInBounds_toArray, List.set_cons_zero, List.set_cons_succ]
        refine' wpAnyH_take (i := 4) (oi := _) ?hi ?hs ?hf ?hr ?hQ (v := _) (Or.inl ⟨?hw, ?hy⟩) (by assumption) ?_
        case hi => (simp only [List.getElem?_toArray, List.getElem?_cons_succ, List.getElem?_cons_zero]; exact rfl)
        case hs => kernel_rfl
        case hf => kernel_rfl
        case hr => kernel_rfl
        case hQ => exact fun _ _ _ h => h
        case hw => rfl
        case hy => (intro w hSw; (try dsimp only at hSw); go_simp; (try with_reducible rfl))
        try simp only [Act.put, List.setIfInBounds_toArray, List.set_cons_zero, List.set_cons_succ]
        refine' wpAnyH_take (i := 5) (oi := _) ?hi ?hs ?hf ?hr ?hQ (v := _) (Or.inl ⟨?hw, ?hy⟩) (by assumption) ?_
        case hi => (simp only [List.getElem?_toArray, List.getElem?_cons_succ, List.getElem?_cons_zero]; exact rfl)
        case hs => kernel_rfl
        case hf => kernel_rfl
        case hr => kernel_rfl
        case hQ => exact fun _ _ _ h => h
        case hw => rfl
        case hy => (intro w hSw; (try dsimp only at hSw); go_simp; (try with_reducible rfl))
        try simp only [Act.put, List.setIfInBounds_toArray, List.set_cons_zero, List.set_cons_succ]
        refine' wpAnyH_take (i := 6) (oi := _) ?hi ?hs ?hf ?hr ?hQ (v := _) (Or.inl ⟨?hw, ?hy⟩) (by assumption) ?_
        case hi => (simp only [List.getElem?_toArray, List.getElem?_cons_succ, List.getElem?_cons_zero]; exact rfl)
        case hs => kernel_rfl
        case hf => kernel_rfl
        case hr => kernel_rfl
        case hQ => exact fun _ _ _ h => h
        case hw => rfl
        case hy => (intro w hSw; (try dsimp only at hSw); go_simp; (try with_reducible rfl))
        try simp only [Act.put, List.setIfInBounds_toArray, List.set_cons_zero, List.set_cons_succ]
        refine' wpAnyH_take (i := 7) (oi := _) ?hi ?hs ?hf ?hr ?hQ (v := _) (Or.inl ⟨?hw, ?hy⟩) (by assumption) ?_
        case hi => (simp only [List.getElem?_toArray, List.getElem?_cons_succ, List.getElem?_cons_zero]; exact rfl)
        case hs => kernel_rfl
        case hf => kernel_rfl
        case hr => kernel_rfl
        case hQ => exact fun _ _ _ h => h
        case hw => rfl
        case hy => (intro w hSw; (try dsimp only at hSw); go_simp; (try with_reducible rfl))
        try simp only [Act.put, List.setIfInBounds_toArray, List.set_cons_zero, List.set_cons_succ]
        refine wpAnyH_ready (rs := [8]) (by kernel_rfl) (by simp) ?_
        refine' AllReadyH.cons (o := _) ?ho (fun K hK => ?_) AllReadyH.nil
        case ho => (simp only [List.getElem?_toArray, List.getElem?_cons_succ, List.getElem?_cons_zero]; exact rfl)
        go_simp
        (with_reducible refine (BBX.out _ (by assumption)).mono ?_)
        rintro e w108 ⟨rfl, hbq⟩
        have HMq := MF.next HS.out hbq (by assumption)
        refine hK.out _ _ (TEN.out _ HMq) (fun hHeld => ?_)
        clear hK K hbq
        try simp only [Act.put, List.setIfInBounds_toArray, List.set_cons_zero, List.set_cons_succ]
        refine' wpAnyH_take (i := 9) (oi := _) ?hi ?hs ?hf ?hr ?hQ (v := _) (Or.inl ⟨?hw, ?hy⟩) (by assumption) ?_
        case hi => (simp only [List.getElem?_toArray, List.getElem?_cons_succ, List.getElem?_cons_zero]; exact rfl)
        case hs => kernel_rfl
        case hf => kernel_rfl
        case hr => kernel_rfl
        case hQ => exact fun _ _ _ h => h
        case hw => rfl
        case hy => (intro w hSw; (try dsimp only at hSw); go_simp; (try with_reducible rfl))
        try simp only [Act.put, List.setIfInBounds_toArray, List.set_cons_zero, List.set_cons_succ]
        refine' wpAnyH_take (i := 10) (oi := _) ?hi ?hs ?hf ?hr ?hQ (v := _) (Or.inl ⟨?hw, ?hy⟩) (by assumption) ?_
        case hi => (simp only [List.getElem?_toArray, List.getElem?_cons_succ, List.getElem?_cons_zero]; exact rfl)
        case hs => kernel_rfl
        case hf => kernel_rfl
        case hr => kernel_rfl
        case hQ => exact fun _ _ _ h => h
        case hw => rfl
        case hy => (intro w hSw; (try dsimp only at hSw); go_simp; (try with_reducible rfl))
        try simp only [Act.put, List.setIfInBounds_toArray, List.set_cons_zero, List.set_cons_succ]
        refine' wpAnyH_take (i := 11) (oi := _) ?hi ?hs ?hf ?hr ?hQ (v := _) (Or.inl ⟨?hw, ?hy⟩) (by assumption) ?_
        case hi => (simp only [List.getElem?_toArray, List.getElem?_cons_succ, List.getElem?_cons_zero]; exact rfl)
        case hs => kernel_rfl
        case hf => kernel_rfl
        case hr => kernel_rfl
        case hQ => exact fun _ _ _ h => h
        case hw => rfl
        case hy => (intro w hSw; (try dsimp only at hSw); go_simp; (try with_reducible rfl))
        try simp only [Act.put, List.setIfInBounds_toArray, List.set_cons_zero, List.set_cons_succ]
        refine' wpAnyH_take (i := 12) (oi := _) ?hi ?hs ?hf ?hr ?hQ (v := _) (Or.inl ⟨?hw, ?hy⟩) (by assumption) ?_
        case hi => (simp only [List.getElem?_toArray, List.getElem?_cons_succ, List.getElem?_cons_zero]; exact rfl)
        case hs => kernel_rfl
        case hf => kernel_rfl
        case hr => kernel_rfl
        case hQ => exact fun _ _ _ h => h
        case hw => rfl
        case hy => (intro w hSw; (try dsimp only at hSw); go_simp; (try with_reducible rfl))
        try simp only [Act.put, List.setIfInBounds_toArray, List.set_cons_zero, List.set_cons_succ]
        refine' wpAnyH_take (i := 14) (oi := _) ?hi ?hs ?hf ?hr ?hQ (v := _) (Or.inl ⟨?hw, ?hy⟩) (by assumption) ?_
        case hi => (simp only [List.getElem?_toArray, List.getElem?_cons_succ, List.getElem?_cons_zero]; exact rfl)
        case hs => kernel_rfl
        case hf => kernel_rfl
        case hr => kernel_rfl
        case hQ => exact fun _ _ _ h => h
        case hw => rfl
        case hy => (intro w hSw; (try dsimp only at hSw); go_simp; (try with_reducible rfl))
        try simp only [Act.put, List.setIfInBounds_toArray, List.set_cons_zero, List.set_cons_succ]
        refine wpAnyH_ready (rs := [13]) (by kernel_rfl) (by simp) ?_
        refine' AllReadyH.cons (o := _) ?ho (fun K hK => ?_) AllReadyH.nil
        case ho => (simp only [List.getElem?_toArray, List.getElem?_cons_succ, List.getElem?_cons_zero]; exact rfl)
        go_simp
        (with_reducible refine (BTN.out _).mono ?_)
        rintro e w113 ⟨rfl, hbq⟩
        have HMq := MF.next HS.out hbq (by assumption)
        refine hK.out _ _ (TEN.out _ HMq) (fun hHeld => ?_)
        clear hK K hbq
        try simp only [Act.put, List.setIfInBounds_toArray, List.set_cons_zero, List.set_cons_succ]
        refine wpAnyH_ready (rs := [15]) (by kernel_rfl) (by simp) ?_
        refine' AllReadyH.cons (o := _) ?ho (fun K hK => ?_) AllReadyH.nil
        case ho => (simp only [List.getElem?_toArray, List.getElem?_cons_succ, List.getElem?_cons_zero]; exact rfl)
        go_simp
        (with_reducible refine (BTA.out _ (by assumption)).mono ?_)
        rintro e w115 ⟨rfl, hbq⟩
        have HMq := MF.next HS.out hbq (by assumption)
        refine hK.out _ _ (TEN.out _ HMq) (fun hHeld => ?_)
        clear hK K hbq
        try simp only [Act.put, List.setIfInBounds_toArray, List.set_cons_zero, List.set_cons_succ]
        refine' wpAnyH_take (i := 16) (oi := _) ?hi ?hs ?hf ?hr ?hQ (v := _) (Or.inl ⟨?hw, ?hy⟩) (by assumption) ?_
        case hi => (simp only [List.getElem?_toArray, List.getElem?_cons_succ, List.getElem?_cons_zero]; exact rfl)
        case hs => kernel_rfl
        case hf => kernel_rfl
        case hr => kernel_rfl
        case hQ => exact fun _ _ _ h => h
        case hw => rfl
        case hy => (intro w hSw; (try dsimp only at hSw); go_simp; (try with_reducible rfl))
        try simp only [Act.put, List.setIfInBounds_toArray, List.set_cons_zero, List.set_cons_succ]
        refine' wpAnyH_take (i := 17) (oi := _) ?hi ?hs ?hf ?hr ?hQ (v := _) (Or.inl ⟨?hw, ?hy⟩) (by assumption) ?_
        case hi => (simp only [List.getElem?_toArray, List.getElem?_cons_succ, List.getElem?_cons_zero]; exact rfl)
        case hs => kernel_rfl
        case hf => kernel_rfl
        case hr => kernel_rfl
        case hQ => exact fun _ _ _ h => h
        case hw => rfl
        case hy => (intro w hSw; (try dsimp only at hSw); go_simp; (try with_reducible rfl))
        try simp only [Act.put, List.setIfInBounds_toArray, List.set_cons_zero, List.set_cons_succ]
        refine' wpAnyH_take (i := 18) (oi := _) ?hi ?hs ?hf ?hr ?hQ (v := _) (Or.inl ⟨?hw, ?hy⟩) (by assumption) ?_
        case hi => (simp only [List.getElem?_toArray, List.getElem?_cons_succ, List.getElem?_cons_zero]; exact rfl)
        case hs => kernel_rfl
        case hf => kernel_rfl
        case hr => kernel_rfl
        case hQ => exact fun _ _ _ h => h
        case hw => rfl
        case hy => (intro w hSw; (try dsimp only at hSw); go_simp; (try with_reducible rfl))
        try simp only [Act.put, List.setIfInBounds_toArray, List.set_cons_zero, List.set_cons_succ]
        refine' wpAnyH_take (i := 19) (oi := _) ?hi ?hs ?hf ?hr ?hQ (v := _) (Or.inl ⟨?hw, ?hy⟩) (by assumption) ?_
        case hi => (simp only [List.getElem?_toArray, List.getElem?_cons_succ, List.getElem?_cons_zero]; exact rfl)
        case hs => kernel_rfl
        case hf => kernel_rfl
        case hr => kernel_rfl
        case hQ => exact fun _ _ _ h => h
        case hw => rfl
        case hy => (intro w hSw; (try dsimp only at hSw); go_simp; (try with_reducible rfl))
        try simp only [Act.put, List.setIfInBounds_toArray, List.set_cons_zero, List.set_cons_succ]
        refine' wpAnyH_take (i := 20) (oi := _) ?hi ?hs ?hf ?hr ?hQ (v := _) (Or.inl ⟨?hw, ?hy⟩) (by assumption) ?_
        case hi => (simp only [List.getElem?_toArray, List.getElem?_cons_succ, List.getElem?_cons_zero]; exact rfl)
        case hs => kernel_rfl
        case hf => kernel_rfl
        case hr => kernel_rfl
        case hQ => exact fun _ _ _ h => h
        case hw => rfl
        case hy => (intro w hSw; (try dsimp only at hSw); go_simp; (try with_reducible rfl))
        try simp only [Act.put, List.setIfInBounds_toArray, List.set_cons_zero, List.set_cons_succ]
        refine wpAnyH_ready (rs := [21]) (by kernel_rfl) (by simp) ?_
        refine' AllReadyH.cons (o := _) ?ho (fun K hK => ?_) AllReadyH.nil
        case ho => (simp only [List.getElem?_toArray, List.getElem?_cons_succ, List.getElem?_cons_zero]; exact rfl)
        go_simp
        (with_reducible refine (BAT.out _ (by assumption)).mono ?_)
        rintro e w121 ⟨rfl, hbq⟩
        have HMq := MF.next HS.out hbq (by assumption)
        refine hK.out _ _ (TEN.out _ HMq) (fun hHeld => ?_)
        clear hK K hbq
        try simp only [Act.put, List.setIfInBounds_toArray, List.set_cons_zero, List.set_cons_succ]
        refine' wpAnyH_take (i := 22) (oi := _) ?hi ?hs ?hf ?hr ?hQ (v := _) (Or.inl ⟨?hw, ?hy⟩) (by assumption) ?_
        case hi => (simp only [List.getElem?_toArray, List.getElem?_cons_succ, List.getElem?_cons_zero]; exact rfl)
        case hs => kernel_rfl
        case hf => kernel_rfl
        case hr => kernel_rfl
        case hQ => exact fun _ _ _ h => h
        case hw => rfl
        case hy => (intro w hSw; (try dsimp only at hSw); go_simp; (try with_reducible rfl))
        try simp only [Act.put, List.setIfInBounds_toArray, List.set_cons_zero, List.set_cons_succ]
        refine' wpAnyH_take (i := 23) (oi := _) ?hi ?hs ?hf ?hr ?hQ (v := _) (Or.inl ⟨?hw, ?hy⟩) (by assumption) ?_
        case hi => (simp only [List.getElem?_toArray, List.getElem?_cons_succ, List.getElem?_cons_zero]; exact rfl)
        case hs => kernel_rfl
        case hf => kernel_rfl
        case hr => kernel_rfl
        case hQ => exact fun _ _ _ h => h
        case hw => rfl
        case hy => (intro w hSw; (try dsimp only at hSw); go_simp; (try with_reducible rfl))
        try simp only [Act.put, List.setIfInBounds_toArray, List.set_cons_zero, List.set_cons_succ]
        refine' wpAnyH_take (i := 24) (oi := _) ?hi ?hs ?hf ?hr ?hQ (v := _) (Or.inl ⟨?hw, ?hy⟩) (by assumption) ?_
        case hi => (simp only [List.getElem?_toArray, List.getElem?_cons_succ, List.getElem?_cons_zero]; exact rfl)
        case hs => kernel_rfl
        case hf => kernel_rfl
        case hr => kernel_rfl
        case hQ => exact fun _ _ _ h => h
        case hw => rfl
        case hy => (intro w hSw; (try dsimp only at hSw); go_simp; (try with_reducible rfl))
        try simp only [Act.put, List.setIfInBounds_toArray, List.set_cons_zero, List.set_cons_succ]
        refine' wpAnyH_take (i := 25) (oi := _) ?hi ?hs ?hf ?hr ?hQ (v := _) (Or.inl ⟨?hw, ?hy⟩) (by assumption) ?_
        case hi => (simp only [List.getElem?_toArray, List.getElem?_cons_succ, List.getElem?_cons_zero]; exact rfl)
        case hs => kernel_rfl
        case hf => kernel_rfl
        case hr => kernel_rfl
        case hQ => exact fun _ _ _ h => h
        case hw => rfl
        case hy => (intro w hSw; (try dsimp only at hSw); go_simp; (try with_reducible rfl))
        try simp only [Act.put, List.setIfInBounds_toArray, List.set_cons_zero, List.set_cons_succ]
        refine' wpAnyH_take (i := 26) (oi := _) ?hi ?hs ?hf ?hr ?hQ (v := _) (Or.inl ⟨?hw, ?hy⟩) (by assumption) ?_
        case hi => (simp only [List.getElem?_toArray, List.getElem?_cons_succ, List.getElem?_cons_zero]; exact rfl)
        case hs => kernel_rfl
        case hf => kernel_rfl
        case hr => kernel_rfl
        case hQ => exact fun _ _ _ h => h
        case hw => rfl
        case hy => (intro w hSw; (try dsimp only at hSw); go_simp; (try with_reducible rfl))
        try simp only [Act.put, List.setIfInBounds_toArray, List.set_cons_zero, List.set_cons_succ]
        refine wpAnyH_ready (rs := [27]) (by kernel_rfl) (by simp) ?_
        refine' AllReadyH.cons (o := _) ?ho (fun K hK => ?_) AllReadyH.nil
        case ho => (simp only [List.getElem?_toArray, List.getElem?_cons_succ, List.getElem?_cons_zero]; exact rfl)
        go_simp
        (with_reducible refine (BAA.out _ (by assumption)).mono ?_)
        rintro e w127 ⟨rfl, hbq⟩
        have HMq := MF.next HS.out hbq (by assumption)
        refine hK.out _ _ (TEN.out _ HMq) (fun hHeld => ?_)
        clear hK K hbq
        try simp only [Act.put, List.setIfInBounds_toArray, List.set_cons_zero, List.set_cons_succ]
        refine' wpAnyH_take (i := 28) (oi := _) ?hi ?hs ?hf ?hr ?hQ (v := _) (Or.inl ⟨?hw, ?hy⟩) (by assumption) ?_
        case hi => (simp only [List.getElem?_toArray, List.getElem?_cons_succ, List.getElem?_cons_zero]; exact rfl)
        case hs => kernel_rfl
        case hf => kernel_rfl
        case hr => kernel_rfl
        case hQ => exact fun _ _ _ h => h
        case hw => rfl
        case hy => (intro w hSw; (try dsimp only at hSw); go_simp; (try with_reducible rfl))
        try simp only [Act.put, List.setIfInBounds_toArray, List.set_cons_zero, List.set_cons_succ]
        refine' wpAnyH_take (i := 29) (oi := _) ?hi ?hs ?hf ?hr ?hQ (v := _) (Or.inl ⟨?hw, ?hy⟩) (by assumption) ?_
        case hi => (simp only [List.getElem?_toArray, List.getElem?_cons_succ, List.getElem?_cons_zero]; exact rfl)
        case hs => kernel_rfl
        case hf => kernel_rfl
        case hr => kernel_rfl
        case hQ => exact fun _ _ _ h => h
        case hw => rfl
        case hy => (intro w hSw; (try dsimp only at hSw); go_simp; (try with_reducible rfl))
        try simp only [Act.put, List.setIfInBounds_toArray, List.set_cons_zero, List.set_cons_succ]
        refine' wpAnyH_take (i := 30) (oi := _) ?hi ?hs ?hf ?hr ?hQ (v := _) (Or.inl ⟨?hw, ?hy⟩) (by assumption) ?_
        case hi => (simp only [List.getElem?_toArray, List.getElem?_cons_succ, List.getElem?_cons_zero]; exact rfl)
        case hs => kernel_rfl
        case hf => kernel_rfl
        case hr => kernel_rfl
        case hQ => exact fun _ _ _ h => h
        case hw => rfl
        case hy => (intro w hSw; (try dsimp only at hSw); go_simp; (try with_reducible rfl))
        try simp only [Act.put, List.setIfInBounds_toArray, List.set_cons_zero, List.set_cons_succ]
        refine' wpAnyH_take (i := 31) (oi := _) ?hi ?hs ?hf ?hr ?hQ (v := _) (Or.inl ⟨?hw, ?hy⟩) (by assumption) ?_
        case hi => (simp only [List.getElem?_toArray, List.getElem?_cons_succ, List.getElem?_cons_zero]; exact rfl)
        case hs => kernel_rfl
        case hf => kernel_rfl
        case hr => kernel_rfl
        case hQ => exact fun _ _ _ h => h
        case hw => rfl
        case hy => (intro w hSw; (try dsimp only at hSw); go_simp; (try with_reducible rfl))
        try simp only [Act.put, List.setIfInBounds_toArray, List.set_cons_zero, List.set_cons_succ]
        refine' wpAnyH_take (i := 32) (oi := _) ?hi ?hs ?hf ?hr ?hQ (v := _) (Or.inl ⟨?hw, ?hy⟩) (by assumption) ?_
        case hi => (simp only [List.getElem?_toArray, List.getElem?_cons_succ, List.getElem?_cons_zero]; exact rfl)
        case hs => kernel_rfl
        case hf => kernel_rfl
        case hr => kernel_rfl
        case hQ => exact fun _ _ _ h => h
        case hw => rfl
        case hy => (intro w hSw; (try dsimp only at hSw); go_simp; (try with_reducible rfl))
        try simp only [Act.put, List.setIfInBounds_toArray, List.set_cons_zero, List.set_cons_succ]
        cases hp : belowB tag ca xs cb ys with
        | false =>
          simp only [hp] at BAB
          replace hp := hide hp
          refine wpAnyH_ready (rs := [33]) (by kernel_rfl) (by simp) ?_
          refine' AllReadyH.cons (o := _) ?ho (fun K hK => ?_) AllReadyH.nil
          case ho => (simp only [List.getElem?_toArray, List.getElem?_cons_succ, List.getElem?_cons_zero]; exact rfl)
          go_simp
          (with_reducible refine (BAB.out _ (by assumption)).mono ?_)
          rintro e w133 ⟨rfl, hbq⟩
          have HMq := MF.next HS.out hbq (by assumption)
          refine hK.out _ _ (TEN.out _ HMq) (fun hHeld => ?_)
          clear hK K hbq
          try simp only [Act.put, List.setIfInBounds_toArray, List.set_cons_zero, List.set_cons_succ]
          refine' wpAnyH_take (i := 34) (oi := _) ?hi ?hs ?hf ?hr ?hQ (v := _) (Or.inl ⟨?hw, ?hy⟩) (by assumption) ?_
          case hi => (simp only [List.getElem?_toArray, List.getElem?_cons_succ, List.getElem?_cons_zero]; exact rfl)
          case hs => kernel_rfl
          case hf => kernel_rfl
          case hr => kernel_rfl
          case hQ => exact fun _ _ _ h => h
          case hw => rfl
          case hy => (intro w hSw; (try dsimp only at hSw); go_simp; (try with_reducible rfl))
          try simp only [Act.put, List.setIfInBounds_toArray, List.set_cons_zero, List.set_cons_succ]
          refine' wpAnyH_take (i := 35) (oi := _) ?hi ?hs ?hf ?hr ?hQ (v := _) (Or.inl ⟨?hw, ?hy⟩) (by assumption) ?_
          case hi => (simp only [List.getElem?_toArray, List.getElem?_cons_succ, List.getElem?_cons_zero]; exact rfl)
          case hs => kernel_rfl
          case hf => kernel_rfl
          case hr => kernel_rfl
          case hQ => exact fun _ _ _ h => h
          case hw => rfl
          case hy => (intro w hSw; (try dsimp only at hSw); go_simp; (try with_reducible rfl))
          try simp only [Act.put, List.setIfInBounds_toArray, List.set_cons_zero, List.set_cons_succ]
          refine' wpAnyH_take (i := 36) (oi := _) ?hi ?hs ?hf ?hr ?hQ (v := undef) (Or.inr ⟨?hw, rfl⟩) (by assumption) ?_
          case hi => (simp only [List.getElem?_toArray, List.getElem?_cons_succ, List.getElem?_cons_zero]; exact rfl)
          case hs => kernel_rfl
          case hf => kernel_rfl
          case hr => kernel_rfl
          case hQ => exact fun _ _ _ h => h
          case hw => rfl
          try simp only [Act.put, List.setIfInBounds_toArray, List.set_cons_zero, List.set_cons_succ]
          refine' wpAnyH_take (i := 37) (oi := _) ?hi ?hs ?hf ?hr ?hQ (v := undef) (Or.inr ⟨?hw, rfl⟩) (by assumption) ?_
          case hi => (simp only [List.getElem?_toArray, List.getElem?_cons_succ, List.getElem?_cons_zero]; exact rfl)
          case hs => kernel_rfl
          case hf => kernel_rfl
          case hr => kernel_rfl
          case hQ => exact fun _ _ _ h => h
          case hw => rfl
          try simp only [Act.put, List.setIfInBounds_toArray, List.set_cons_zero, List.set_cons_succ]
          refine' wpAnyH_take (i := 38) (oi := _) ?hi ?hs ?hf ?hr ?hQ (v := undef) (Or.inr ⟨?hw, rfl⟩) (by assumption) ?_
          case hi => (simp only [List.getElem?_toArray, List.getElem?_cons_succ, List.getElem?_cons_zero]; exact rfl)
          case hs => kernel_rfl
          case hf => kernel_rfl
          case hr => kernel_rfl
          case hQ => exact fun _ _ _ h => h
          case hw => rfl
          try simp only [Act.put, List.setIfInBounds_toArray, List.set_cons_zero, List.set_cons_succ]
          refine' wpAnyH_take (i := 39) (oi := _) ?hi ?hs ?hf ?hr ?hQ (v := undef) (Or.inr ⟨?hw, rfl⟩) (by assumption) ?_
          case hi => (simp only [List.getElem?_toArray, List.getElem?_cons_succ, List.getElem?_cons_zero]; exact rfl)
          case hs => kernel_rfl
          case hf => kernel_rfl
          case hr => kernel_rfl
          case hQ => exact fun _ _ _ h => h
          case hw => rfl
          try simp only [Act.put, List.setIfInBounds_toArray, List.set_cons_zero, List.set_cons_succ]
          refine' wpAnyH_take (i := 40) (oi := _) ?hi ?hs ?hf ?hr ?hQ (v := undef) (Or.inr ⟨?hw, rfl⟩) (by assumption) ?_
          case hi => (simp only [List.getElem?_toArray, List.getElem?_cons_succ, List.getElem?_cons_zero]; exact rfl)
          case hs => kernel_rfl
          case hf => kernel_rfl
          case hr => kernel_rfl
          case hQ => exact fun _ _ _ h => h
          case hw => rfl
          try simp only [Act.put, List.setIfInBounds_toArray, List.set_cons_zero, List.set_cons_succ]
          refine' wpAnyH_take (i := 41) (oi := _) ?hi ?hs ?hf ?hr ?hQ (v := _) (Or.inl ⟨?hw, ?hy⟩) (by assumption) ?_
          case hi => (simp only [List.getElem?_toArray, List.getElem?_cons_succ, List.getElem?_cons_zero]; exact rfl)
          case hs => kernel_rfl
          case hf => kernel_rfl
          case hr => kernel_rfl
          case hQ => exact fun _ _ _ h => h
          case hw => rfl
          case hy => (intro w hSw; (try dsimp only at hSw); go_simp; (try with_reducible rfl))
          try simp only [Act.put, List.setIfInBounds_toArray, List.set_cons_zero, List.set_cons_succ]
          refine' wpAnyH_take (i := 42) (oi := _) ?hi ?hs ?hf ?hr ?hQ (v := _) (Or.inl ⟨?hw, ?hy⟩) (by assumption) ?_
          case hi => (simp only [List.getElem?_toArray, List.getElem?_cons_succ, List.getElem?_cons_zero]; exact rfl)
          case hs => kernel_rfl
          case hf => kernel_rfl
          case hr => kernel_rfl
          case hQ => exact fun _ _ _ h => h
          case hw => rfl
          case hy => (intro w hSw; (try dsimp only at hSw); go_simp; (try with_reducible rfl))
          try simp only [Act.put, List.setIfInBounds_toArray, List.set_cons_zero, List.set_cons_succ]
          refine' wpAnyH_take (i := 43) (oi := _) ?hi ?hs ?hf ?hr ?hQ (v := undef) (Or.inr ⟨?hw, rfl⟩) (by assumption) ?_
          case hi => (simp only [List.getElem?_toArray, List.getElem?_cons_succ, List.getElem?_cons_zero]; exact rfl)
          case hs => kernel_rfl
          case hf => kernel_rfl
          case hr => kernel_rfl
          case hQ => exact fun _ _ _ h => h
          case hw => rfl
          try simp only [Act.put, List.setIfInBounds_toArray, List.set_cons_zero, List.set_cons_succ]
          refine' wpAnyH_take (i := 44) (oi := _) ?hi ?hs ?hf ?hr ?hQ (v := undef) (Or.inr ⟨?hw, rfl⟩) (by assumption) ?_
          case hi => (simp only [List.getElem?_toArray, List.getElem?_cons_succ, List.getElem?_cons_zero]; exact rfl)
          case hs => kernel_rfl
          case hf => kernel_rfl
          case hr => kernel_rfl
          case hQ => exact fun _ _ _ h => h
          case hw => rfl
          try simp only [Act.put, List.setIfInBounds_toArray, List.set_cons_zero, List.set_cons_succ]
          refine' wpAnyH_take (i := 45) (oi := _) ?hi ?hs ?hf ?hr ?hQ (v := undef) (Or.inr ⟨?hw, rfl⟩) (by assumption) ?_
          case hi => (simp only [List.getElem?_toArray, List.getElem?_cons_succ, List.getElem?_cons_zero]; exact rfl)
          case hs => kernel_rfl
          case hf => kernel_rfl
          case hr => kernel_rfl
          case hQ => exact fun _ _ _ h => h
          case hw => rfl
          try simp only [Act.put, List.setIfInBounds_toArray, List.set_cons_zero, List.set_cons_succ]
          refine' wpAnyH_take (i := 46) (oi := _) ?hi ?hs ?hf ?hr ?hQ (v := _) (Or.inl ⟨?hw, ?hy⟩) (by assumption) ?_
          case hi => (simp only [List.getElem?_toArray, List.getElem?_cons_succ, List.getElem?_cons_zero]; exact rfl)
          case hs => kernel_rfl
          case hf => kernel_rfl
          case hr => kernel_rfl
          case hQ => exact fun _ _ _ h => h
          case hw => rfl
          case hy => (intro w hSw; (try dsimp only at hSw); go_simp; (try with_reducible rfl))
          try simp only [Act.put, List.setIfInBounds_toArray, List.set_cons_zero, List.set_cons_succ]
          refine' wpAnyH_take (i := 47) (oi := _) ?hi ?hs ?hf ?hr ?hQ (v := _) (Or.inl ⟨?hw, ?hy⟩) (by assumption) ?_
          case hi => (simp only [List.getElem?_toArray, List.getElem?_cons_succ, List.getElem?_cons_zero]; exact rfl)
          case hs => kernel_rfl
          case hf => kernel_rfl
          case hr => kernel_rfl
          case hQ => exact fun _ _ _ h => h
          case hw => rfl
          case hy => (intro w hSw; (try dsimp only at hSw); go_simp; (try with_reducible rfl))
          try simp only [Act.put, List.setIfInBounds_toArray, List.set_cons_zero, List.set_cons_succ]
          refine' wpAnyH_take (i := 48) (oi := _) ?hi ?hs ?hf ?hr ?hQ (v := _) (Or.inl ⟨?hw, ?hy⟩) (by assumption) ?_
          case hi => (simp only [List.getElem?_toArray, List.getElem?_cons_succ, List.getElem?_cons_zero]; exact rfl)
          case hs => kernel_rfl
          case hf => kernel_rfl
          case hr => kernel_rfl
          case hQ => exact fun _ _ _ h => h
          case hw => rfl
          case hy => (intro w hSw; (try dsimp only at hSw); go_simp; (try with_reducible rfl))
          try simp only [Act.put, List.setIfInBounds_toArray, List.set_cons_zero, List.set_cons_succ]
          refine' wpAnyH_take (i := 49) (oi := _) ?hi ?hs ?hf ?hr ?hQ (v := _) (Or.inl ⟨?hw, ?hy⟩) (by assumption) ?_
          case hi => (simp only [List.getElem?_toArray, List.getElem?_cons_succ, List.getElem?_cons_zero]; exact rfl)
          case hs => kernel_rfl
          case hf => kernel_rfl
          case hr => kernel_rfl
          case hQ => exact fun _ _ _ h => h
          case hw => rfl
          case hy => (intro w hSw; (try dsimp only at hSw); go_simp; (try with_reducible rfl))
          try simp only [Act.put, List.setIfInBounds_toArray, List.set_cons_zero, List.set_cons_succ]
          refine' wpAnyH_take (i := 50) (oi := _) ?hi ?hs ?hf ?hr ?hQ (v := _) (Or.inl ⟨?hw, ?hy⟩) (by assumption) ?_
          case hi => (simp only [List.getElem?_toArray, List.getElem?_cons_succ, List.getElem?_cons_zero]; exact rfl)
          case hs => kernel_rfl
          case hf => kernel_rfl
          case hr => kernel_rfl
          case hQ => exact fun _ _ _ h => h
          case hw => rfl
          case hy => (intro w hSw; (try dsimp only at hSw); go_simp; (try with_reducible rfl))
          try simp only [Act.put, List.setIfInBounds_toArray, List.set_cons_zero, List.set_cons_succ]
          refine' wpAnyH_take (i := 51) (oi := _) ?hi ?hs ?hf ?hr ?hQ (v := _) (Or.inl ⟨?hw, ?hy⟩) (by assumption) ?_
          case hi => (simp only [List.getElem?_toArray, List.getElem?_cons_succ, List.getElem?_cons_zero]; exact rfl)
          case hs => kernel_rfl
          case hf => kernel_rfl
          case hr => kernel_rfl
          case hQ => exact fun _ _ _ h => h
          case hw => rfl
          case hy => (intro w hSw; (try dsimp only at hSw); go_simp; (try with_reducible rfl))
          try simp only [Act.put, List.setIfInBounds_toArray, List.set_cons_zero, List.set_cons_succ]
          refine wpAnyH_ready (rs := [52]) (by kernel_rfl) (by simp) ?_
          refine' AllReadyH.cons (o := _) ?ho (fun K hK => ?_) AllReadyH.nil
          case ho => (simp only [List.getElem?_toArray, List.getElem?_cons_succ, List.getElem?_cons_zero]; exact rfl)
          go_simp
          (with_reducible refine (BAB.out _ (by assumption)).mono ?_)
          rintro e w152 ⟨rfl, hbq⟩
          have HMq := MF.next HS.out hbq (by assumption)
          refine hK.out _ _ (TEN.out _ HMq) (fun hHeld => ?_)
          clear hK K hbq
          try simp only [Act.put, List.setIfInBounds_toArray, List.set_cons_zero, List.set_cons_succ]
          refine' wpAnyH_take (i := 53) (oi := _) ?hi ?hs ?hf ?hr ?hQ (v := _) (Or.inl ⟨?hw, ?hy⟩) (by assumption) ?_
          case hi => (simp only [List.getElem?_toArray, List.getElem?_cons_succ, List.getElem?_cons_zero]; exact rfl)
          case hs => kernel_rfl
          case hf => kernel_rfl
          case hr => kernel_rfl
          case hQ => exact fun _ _ _ h => h
          case hw => rfl
          case hy => (intro w hSw; (try dsimp only at hSw); go_simp; (try with_reducible rfl))
          try simp only [Act.put, List.setIfInBounds_toArray, List.set_cons_zero, List.set_cons_succ]
          refine' wpAnyH_take (i := 54) (oi := _) ?hi ?hs ?hf ?hr ?hQ (v := _) (Or.inl ⟨?hw, ?hy⟩) (by assumption) ?_
          case hi => (simp only [List.getElem?_toArray, List.getElem?_cons_succ, List.getElem?_cons_zero]; exact rfl)
          case hs => kernel_rfl
          case hf => kernel_rfl
          case hr => kernel_rfl
          case hQ => exact fun _ _ _ h => h
          case hw => rfl
          case hy => (intro w hSw; (try dsimp only at hSw); go_simp; (try with_reducible rfl))
          try simp only [Act.put, List.setIfInBounds_toArray, List.set_cons_zero, List.set_cons_succ]
          refine' wpAnyH_take (i := 55) (oi := _) ?hi ?hs ?hf ?hr ?hQ (v := undef) (Or.inr ⟨?hw, rfl⟩) (by assumption) ?_
          case hi => (simp only [List.getElem?_toArray, List.getElem?_cons_succ, List.getElem?_cons_zero]; exact rfl)
          case hs => kernel_rfl
          case hf => kernel_rfl
          case hr => kernel_rfl
          case hQ => exact fun _ _ _ h => h
          case hw => rfl
          try simp only [Act.put, List.setIfInBounds_toArray, List.set_cons_zero, List.set_cons_succ]
          refine' wpAnyH_take (i := 56) (oi := _) ?hi ?hs ?hf ?hr ?hQ (v := undef) (Or.inr ⟨?hw, rfl⟩) (by assumption) ?_
          case hi => (simp only [List.getElem?_toArray, List.getElem?_cons_succ, List.getElem?_cons_zero]; exact rfl)
          case hs => kernel_rfl
          case hf => kernel_rfl
          case hr => kernel_rfl
          case hQ => exact fun _ _ _ h => h
          case hw => rfl
          try simp only [Act.put, List.setIfInBounds_toArray, List.set_cons_zero, List.set_cons_succ]
          refine' wpAnyH_take (i := 57) (oi := _) ?hi ?hs ?hf ?hr ?hQ (v := undef) (Or.inr ⟨?hw, rfl⟩) (by assumption) ?_
          case hi => (simp only [List.getElem?_toArray, List.getElem?_cons_succ, List.getElem?_cons_zero]; exact rfl)
          case hs => kernel_rfl
          case hf => kernel_rfl
          case hr => kernel_rfl
          case hQ => exact fun _ _ _ h => h
          case hw => rfl
          try simp only [Act.put, List.setIfInBounds_toArray, List.set_cons_zero, List.set_cons_succ]
          refine' wpAnyH_take (i := 58) (oi := _) ?hi ?hs ?hf ?hr ?hQ (v := undef) (Or.inr ⟨?hw, rfl⟩) (by assumption) ?_
          case hi => (simp only [List.getElem?_toArray, List.getElem?_cons_succ, List.getElem?_cons_zero]; exact rfl)
          case hs => kernel_rfl
          case hf => kernel_rfl
          case hr => kernel_rfl
          case hQ => exact fun _ _ _ h => h
          case hw => rfl
          try simp only [Act.put, List.setIfInBounds_toArray, List.set_cons_zero, List.set_cons_succ]
          refine' wpAnyH_take (i := 59) (oi := _) ?hi ?hs ?hf ?hr ?hQ (v := undef) (Or.inr ⟨?hw, rfl⟩) (by assumption) ?_
          case hi => (simp only [List.getElem?_toArray, List.getElem?_cons_succ, List.getElem?_cons_zero]; exact rfl)
          case hs => kernel_rfl
          case hf => kernel_rfl
          case hr => kernel_rfl
          case hQ => exact fun _ _ _ h => h
          case hw => rfl
          try simp only [Act.put, List.setIfInBounds_toArray, List.set_cons_zero, List.set_cons_succ]
          refine' wpAnyH_take (i := 60) (oi := _) ?hi ?hs ?hf ?hr ?hQ (v := _) (Or.inl ⟨?hw, ?hy⟩) (by assumption) ?_
          case hi => (simp only [List.getElem?_toArray, List.getElem?_cons_succ, List.getElem?_cons_zero]; exact rfl)
          case hs => kernel_rfl
          case hf => kernel_rfl
          case hr => kernel_rfl
          case hQ => exact fun _ _ _ h => h
          case hw => rfl
          case hy => (intro w hSw; (try dsimp only at hSw); go_simp; (try with_reducible rfl))
          try simp only [Act.put, List.setIfInBounds_toArray, List.set_cons_zero, List.set_cons_succ]
          refine' wpAnyH_take (i := 61) (oi := _) ?hi ?hs ?hf ?hr ?hQ (v := _) (Or.inl ⟨?hw, ?hy⟩) (by assumption) ?_
          case hi => (simp only [List.getElem?_toArray, List.getElem?_cons_succ, List.getElem?_cons_zero]; exact rfl)
          case hs => kernel_rfl
          case hf => kernel_rfl
          case hr => kernel_rfl
          case hQ => exact fun _ _ _ h => h
          case hw => rfl
          case hy => (intro w hSw; (try dsimp only at hSw); go_simp; (try with_reducible rfl))
          try simp only [Act.put, List.setIfInBounds_toArray, List.set_cons_zero, List.set_cons_succ]
          refine' wpAnyH_take (i := 62) (oi := _) ?hi ?hs ?hf ?hr ?hQ (v := undef) (Or.inr ⟨?hw, rfl⟩) (by assumption) ?_
          case hi => (simp only [List.getElem?_toArray, List.getElem?_cons_succ, List.getElem?_cons_zero]; exact rfl)
          case hs => kernel_rfl
          case hf => kernel_rfl
          case hr => kernel_rfl
          case hQ => exact fun _ _ _ h => h
          case hw => rfl
          try simp only [Act.put, List.setIfInBounds_toArray, List.set_cons_zero, List.set_cons_succ]
          refine' wpAnyH_take (i := 63) (oi := _) ?hi ?hs ?hf ?hr ?hQ (v := undef) (Or.inr ⟨?hw, rfl⟩) (by assumption) ?_
          case hi => (simp only [List.getElem?_toArray, List.getElem?_cons_succ, List.getElem?_cons_zero]; exact rfl)
          case hs => kernel_rfl
          case hf => kernel_rfl
          case hr => kernel_rfl
          case hQ => exact fun _ _ _ h => h
          case hw => rfl
          try simp only [Act.put, List.setIfInBounds_toArray, List.set_cons_zero, List.set_cons_succ]
          refine' wpAnyH_take (i := 64) (oi := _) ?hi ?hs ?hf ?hr ?hQ (v := undef) (Or.inr ⟨?hw, rfl⟩) (by assumption) ?_
          case hi => (simp only [List.getElem?_toArray, List.getElem?_cons_succ, List.getElem?_cons_zero]; exact rfl)
          case hs => kernel_rfl
          case hf => kernel_rfl
          case hr => kernel_rfl
          case hQ => exact fun _ _ _ h => h
          case hw => rfl
          try simp only [Act.put, List.setIfInBounds_toArray, List.set_cons_zero, List.set_cons_succ]
          refine' wpAnyH_take (i := 65) (oi := _) ?hi ?hs ?hf ?hr ?hQ (v := undef) (Or.inr ⟨?hw, rfl⟩) (by assumption) ?_
          case hi => (simp only [List.getElem?_toArray, List.getElem?_cons_succ, List.getElem?_cons_zero]; exact rfl)
          case hs => kernel_rfl
          case hf => kernel_rfl
          case hr => kernel_rfl
          case hQ => exact fun _ _ _ h => h
          case hw => rfl
          try simp only [Act.put, List.setIfInBounds_toArray, List.set_cons_zero, List.set_cons_succ]
          refine' wpAnyH_take (i := 66) (oi := _) ?hi ?hs ?hf ?hr ?hQ (v := _) (Or.inl ⟨?hw, ?hy⟩) (by assumption) ?_
          case hi => (simp only [List.getElem?_toArray, List.getElem?_cons_succ, List.getElem?_cons_zero]; exact rfl)
          case hs => kernel_rfl
          case hf => kernel_rfl
          case hr => kernel_rfl
          case hQ => exact fun _ _ _ h => h
          case hw => rfl
          case hy => (intro w hSw; (try dsimp only at hSw); go_simp; (try with_reducible rfl))
          try simp only [Act.put, List.setIfInBounds_toArray, List.set_cons_zero, List.set_cons_succ]
          refine' wpAnyH_take (i := 67) (oi := _) ?hi ?hs ?hf ?hr ?hQ (v := _) (Or.inl ⟨?hw, ?hy⟩) (by assumption) ?_
          case hi => (simp only [List.getElem?_toArray, List.getElem?_cons_succ, List.getElem?_cons_zero]; exact rfl)
          case hs => kernel_rfl
          case hf => kernel_rfl
          case hr => kernel_rfl
          case hQ => exact fun _ _ _ h => h
          case hw => rfl
          case hy => (intro w hSw; (try dsimp only at hSw); go_simp; (try with_reducible rfl))
          try simp only [Act.put, List.setIfInBounds_toArray, List.set_cons_zero, List.set_cons_succ]
          refine' wpAnyH_take (i := 68) (oi := _) ?hi ?hs ?hf ?hr ?hQ (v := _) (Or.inl ⟨?hw, ?hy⟩) (by assumption) ?_
          case hi => (simp only [List.getElem?_toArray, List.getElem?_cons_succ, List.getElem?_cons_zero]; exact rfl)
          case hs => kernel_rfl
          case hf => kernel_rfl
          case hr => kernel_rfl
          case hQ => exact fun _ _ _ h => h
          case hw => rfl
          case hy => (intro w hSw; (try dsimp only at hSw); go_simp; (try with_reducible rfl))
          try simp only [Act.put, List.setIfInBounds_toArray, List.set_cons_zero, List.set_cons_succ]
          refine wpAnyH_done (by kernel_rfl) ?_ _
          go_wp2_with fail
          go_ret
          refine ⟨rfl, ?_⟩
          rw [← HSE.out]
          exact Hid.out (MF.low_ (by assumption))
        | true =>
          simp only [hp] at BAB
          replace hp := hide hp
          refine wpAnyH_ready (rs := [33]) (by kernel_rfl) (by simp) ?_
          refine' AllReadyH.cons (o := _) ?ho (fun K hK => ?_) AllReadyH.nil
          case ho => (simp only [List.getElem?_toArray, List.getElem?_cons_succ, List.getElem?_cons_zero]; exact rfl)
          go_simp
          (with_reducible refine (BAB.out _ (by assumption)).mono ?_)
          rintro e w133 ⟨rfl, hbq⟩
          have HMq := MF.next HS.out hbq (by assumption)
          refine hK.out _ _ (TEN.out _ HMq) (fun hHeld => ?_)
          clear hK K hbq
          try simp only [Act.put, List.setIfInBounds_toArray, List.set_cons_zero, List.set_cons_succ]
          refine' wpAnyH_take (i := 34) (oi := _) ?hi ?hs ?hf ?hr ?hQ (v := _) (Or.inl ⟨?hw, ?hy⟩) (by assumption) ?_
          case hi => (simp only [List.getElem?_toArray, List.getElem?_cons_succ, List.getElem?_cons_zero]; exact rfl)
          case hs => kernel_rfl
          case hf => kernel_rfl
          case hr => kernel_rfl
          case hQ => exact fun _ _ _ h => h
          case hw => rfl
          case hy => (intro w hSw; (try dsimp only at hSw); go_simp; (try with_reducible rfl))
          try simp only [Act.put, List.setIfInBounds_toArray, List.set_cons_zero, List.set_cons_succ]
          refine' wpAnyH_take (i := 35) (oi := _) ?hi ?hs ?hf ?hr ?hQ (v := _) (Or.inl ⟨?hw, ?hy⟩) (by assumption) ?_
          case hi => (simp only [List.getElem?_toArray, List.getElem?_cons_succ, List.getElem?_cons_zero]; exact rfl)
          case hs => kernel_rfl
          case hf => kernel_rfl
          case hr => kernel_rfl
          case hQ => exact fun _ _ _ h => h
          case hw => rfl
          case hy => (intro w hSw; (try dsimp only at hSw); go_simp; (try with_reducible rfl))
          try simp only [Act.put, List.setIfInBounds_toArray, List.set_cons_zero, List.set_cons_succ]
          refine' wpAnyH_take (i := 36) (oi := _) ?hi ?hs ?hf ?hr ?hQ (v := _) (Or.inl ⟨?hw, ?hy⟩) (by assumption) ?_
          case hi => (simp only [List.getElem?_toArray, List.getElem?_cons_succ, List.getElem?_cons_zero]; exact rfl)
          case hs => kernel_rfl
          case hf => kernel_rfl
          case hr => kernel_rfl
          case hQ => exact fun _ _ _ h => h
          case hw => rfl
          case hy => (intro w hSw; (try dsimp only at hSw); go_simp; (try with_reducible rfl))
          try simp only [Act.put, List.setIfInBounds_toArray, List.set_cons_zero, List.set_cons_succ]
          refine' wpAnyH_take (i := 37) (oi := _) ?hi ?hs ?hf ?hr ?hQ (v := _) (Or.inl ⟨?hw, ?hy⟩) (by assumption) ?_
          case hi => (simp only [List.getElem?_toArray, List.getElem?_cons_succ, List.getElem?_cons_zero]; exact rfl)
          case hs => kernel_rfl
          case hf => kernel_rfl
          case hr => kernel_rfl
          case hQ => exact fun _ _ _ h => h
          case hw => rfl
          case hy => (intro w hSw; (try dsimp only at hSw); go_simp; (try with_reducible rfl))
          try simp only [Act.put, List.setIfInBounds_toArray, List.set_cons_zero, List.set_cons_succ]
          refine' wpAnyH_take (i := 38) (oi := _) ?hi ?hs ?hf ?hr ?hQ (v := _) (Or.inl ⟨?hw, ?hy⟩) (by assumption) ?_
          case hi => (simp only [List.getElem?_toArray, List.getElem?_cons_succ, List.getElem?_cons_zero]; exact rfl)
          case hs => kernel_rfl
          case hf => kernel_rfl
          case hr => kernel_rfl
          case hQ => exact fun _ _ _ h => h
          case hw => rfl
          case hy => (intro w hSw; (try dsimp only at hSw); go_simp; (try with_reducible rfl))
          try simp only [Act.put, List.setIfInBounds_toArray, List.set_cons_zero, List.set_cons_succ]
          cases hq : belowB tag cb ys ca xs with
          | false =>
            simp only [hq] at BBA
            replace hq := hide hq
            refine wpAnyH_ready (rs := [39]) (by kernel_rfl) (by simp) ?_
            refine' AllReadyH.cons (o := _) ?ho (fun K hK => ?_) AllReadyH.nil
            case ho => (simp only [List.getElem?_toArray, List.getElem?_cons_succ, List.getElem?_cons_zero]; exact rfl)
            go_simp
            (with_reducible refine (BBA.out _ (by assumption)).mono ?_)
            rintro e w139 ⟨rfl, hbq⟩
            have HMq := MF.next HS.out hbq (by assumption)
            refine hK.out _ _ (TEN.out _ HMq) (fun hHeld => ?_)
            clear hK K hbq
            try simp only [Act.put, List.setIfInBounds_toArray, List.set_cons_zero, List.set_cons_succ]
            refine' wpAnyH_take (i := 40) (oi := _) ?hi ?hs ?hf ?hr ?hQ (v := _) (Or.inl ⟨?hw, ?hy⟩) (by assumption) ?_
            case hi => (simp only [List.getElem?_toArray, List.getElem?_cons_succ, List.getElem?_cons_zero]; exact rfl)
            case hs => kernel_rfl
            case hf => kernel_rfl
            case hr => kernel_rfl
            case hQ => exact fun _ _ _ h => h
            case hw => rfl
            case hy => (intro w hSw; (try dsimp only at hSw); go_simp; (try with_reducible rfl))
            try simp only [Act.put, List.setIfInBounds_toArray, List.set_cons_zero, List.set_cons_succ]
            refine' wpAnyH_take (i := 41) (oi := _) ?hi ?hs ?hf ?hr ?hQ (v := _) (Or.inl ⟨?hw, ?hy⟩) (by assumption) ?_
            case hi => (simp only [List.getElem?_toArray, List.getElem?_cons_succ, List.getElem?_cons_zero]; exact rfl)
            case hs => kernel_rfl
            case hf => kernel_rfl
            case hr => kernel_rfl
            case hQ => exact fun _ _ _ h => h
            case hw => rfl
            case hy => (intro w hSw; (try dsimp only at hSw); go_simp; (try with_reducible rfl))
            try simp only [Act.put, List.setIfInBounds_toArray, List.set_cons_zero, List.set_cons_succ]
            refine' wpAnyH_take (i := 42) (oi := _) ?hi ?hs ?hf ?hr ?hQ (v := _) (Or.inl ⟨?hw, ?hy⟩) (by assumption) ?_
            case hi => (simp only [List.getElem?_toArray, List.getElem?_cons_succ, List.getElem?_cons_zero]; exact rfl)
            case hs => kernel_rfl
            case hf => kernel_rfl
            case hr => kernel_rfl
            case hQ => exact fun _ _ _ h => h
            case hw => rfl
            case hy => (intro w hSw; (try dsimp only at hSw); go_simp; (try with_reducible rfl))
            try simp only [Act.put, List.setIfInBounds_toArray, List.set_cons_zero, List.set_cons_succ]
            refine' wpAnyH_take (i := 43) (oi := _) ?hi ?hs ?hf ?hr ?hQ (v := undef) (Or.inr ⟨?hw, rfl⟩) (by assumption) ?_
            case hi => (simp only [List.getElem?_toArray, List.getElem?_cons_succ, List.getElem?_cons_zero]; exact rfl)
            case hs => kernel_rfl
            case hf => kernel_rfl
            case hr => kernel_rfl
            case hQ => exact fun _ _ _ h => h
            case hw => rfl
            try simp only [Act.put, List.setIfInBounds_toArray, List.set_cons_zero, List.set_cons_succ]
            refine' wpAnyH_take (i := 44) (oi := _) ?hi ?hs ?hf ?hr ?hQ (v := undef) (Or.inr ⟨?hw, rfl⟩) (by assumption) ?_
            case hi => (simp only [List.getElem?_toArray, List.getElem?_cons_succ, List.getElem?_cons_zero]; exact rfl)
            case hs => kernel_rfl
            case hf => kernel_rfl
            case hr => kernel_rfl
            case hQ => exact fun _ _ _ h => h
            case hw => rfl
            try simp only [Act.put, List.setIfInBounds_toArray, List.set_cons_zero, List.set_cons_succ]
            refine' wpAnyH_take (i := 45) (oi := _) ?hi ?hs ?hf ?hr ?hQ (v := undef) (Or.inr ⟨?hw, rfl⟩) (by assumption) ?_
            case hi => (simp only [List.getElem?_toArray, List.getElem?_cons_succ, List.getElem?_cons_zero]; exact rfl)
            case hs => kernel_rfl
            case hf => kernel_rfl
            case hr => kernel_rfl
            case hQ => exact fun _ _ _ h => h
            case hw => rfl
            try simp only [Act.put, List.setIfInBounds_toArray, List.set_cons_zero, List.set_cons_succ]
            refine' wpAnyH_take (i := 46) (oi := _) ?hi ?hs ?hf ?hr ?hQ (v := _) (Or.inl ⟨?hw, ?hy⟩) (by assumption) ?_
            case hi => (simp only [List.getElem?_toArray, List.getElem?_cons_succ, List.getElem?_cons_zero]; exact rfl)
            case hs => kernel_rfl
            case hf => kernel_rfl
            case hr => kernel_rfl
            case hQ => exact fun _ _ _ h => h
            case hw => rfl
            case hy => (intro w hSw; (try dsimp only at hSw); go_simp; (try with_reducible rfl))
            try simp only [Act.put, List.setIfInBounds_toArray, List.set_cons_zero, List.set_cons_succ]
            refine' wpAnyH_take (i := 47) (oi := _) ?hi ?hs ?hf ?hr ?hQ (v := _) (Or.inl ⟨?hw, ?hy⟩) (by assumption) ?_
            case hi => (simp only [List.getElem?_toArray, List.getElem?_cons_succ, List.getElem?_cons_zero]; exact rfl)
            case hs => kernel_rfl
            case hf => kernel_rfl
            case hr => kernel_rfl
            case hQ => exact fun _ _ _ h => h
            case hw => rfl
            case hy => (intro w hSw; (try dsimp only at hSw); go_simp; (try with_reducible rfl))
            try simp only [Act.put, List.setIfInBounds_toArray, List.set_cons_zero, List.set_cons_succ]
            refine' wpAnyH_take (i := 48) (oi := _) ?hi ?hs ?hf ?hr ?hQ (v := _) (Or.inl ⟨?hw, ?hy⟩) (by assumption) ?_
            case hi => (simp only [List.getElem?_toArray, List.getElem?_cons_succ, List.getElem?_cons_zero]; exact rfl)
            case hs => kernel_rfl
            case hf => kernel_rfl
            case hr => kernel_rfl
            case hQ => exact fun _ _ _ h => h
            case hw => rfl
            case hy => (intro w hSw; (try dsimp only at hSw); go_simp; (try with_reducible rfl))
            try simp only [Act.put, List.setIfInBounds_toArray, List.set_cons_zero, List.set_cons_succ]
            refine' wpAnyH_take (i := 49) (oi := _) ?hi ?hs ?hf ?hr ?hQ (v := _) (Or.inl ⟨?hw, ?hy⟩) (by assumption) ?_
            case hi => (simp only [List.getElem?_toArray, List.getElem?_cons_succ, List.getElem?_cons_zero]; exact rfl)
            case hs => kernel_rfl
            case hf => kernel_rfl
            case hr => kernel_rfl
            case hQ => exact fun _ _ _ h => h
            case hw => rfl
            case hy => (intro w hSw; (try dsimp only at hSw); go_simp; (try with_reducible rfl))
            try simp only [Act.put, List.setIfInBounds_toArray, List.set_cons_zero, List.set_cons_succ]
            refine' wpAnyH_take (i := 50) (oi := _) ?hi ?hs ?hf ?hr ?hQ (v := _) (Or.inl ⟨?hw, ?hy⟩) (by assumption) ?_
            case hi => (simp only [List.getElem?_toArray, List.getElem?_cons_succ, List.getElem?_cons_zero]; exact rfl)
            case hs => kernel_rfl
            case hf => kernel_rfl
            case hr => kernel_rfl
            case hQ => exact fun _ _ _ h => h
            case hw => rfl
            case hy => (intro w hSw; (try dsimp only at hSw); go_simp; (try with_reducible rfl))
            try simp only [Act.put, List.setIfInBounds_toArray, List.set_cons_zero, List.set_cons_succ]
            refine' wpAnyH_take (i := 51) (oi := _) ?hi ?hs ?hf ?hr ?hQ (v := _) (Or.inl ⟨?hw, ?hy⟩) (by assumption) ?_
            case hi => (simp only [List.getElem?_toArray, List.getElem?_cons_succ, List.getElem?_cons_zero]; exact rfl)
            case hs => kernel_rfl
            case hf => kernel_rfl
            case hr => kernel_rfl
            case hQ => exact fun _ _ _ h => h
            case hw => rfl
            case hy => (intro w hSw; (try dsimp only at hSw); go_simp; (try with_reducible rfl))
            try simp only [Act.put, List.setIfInBounds_toArray, List.set_cons_zero, List.set_cons_succ]
            refine wpAnyH_ready (rs := [52]) (by kernel_rfl) (by simp) ?_
            refine' AllReadyH.cons (o := _) ?ho (fun K hK => ?_) AllReadyH.nil
            case ho => (simp only [List.getElem?_toArray, List.getElem?_cons_succ, List.getElem?_cons_zero]; exact rfl)
            go_simp
            (with_reducible refine (BAB.out _ (by assumption)).mono ?_)
            rintro e w152 ⟨rfl, hbq⟩
            have HMq := MF.next HS.out hbq (by assumption)
            refine hK.out _ _ (TEN.out _ HMq) (fun hHeld => ?_)
            clear hK K hbq
            try simp only [Act.put, List.setIfInBounds_toArray, List.set_cons_zero, List.set_cons_succ]
            refine' wpAnyH_take (i := 53) (oi := _) ?hi ?hs ?hf ?hr ?hQ (v := _) (Or.inl ⟨?hw, ?hy⟩) (by assumption) ?_
            case hi => (simp only [List.getElem?_toArray, List.getElem?_cons_succ, List.getElem?_cons_zero]; exact rfl)
            case hs => kernel_rfl
            case hf => kernel_rfl
            case hr => kernel_rfl
            case hQ => exact fun _ _ _ h => h
            case hw => rfl
            case hy => (intro w hSw; (try dsimp only at hSw); go_simp; (try with_reducible rfl))
            try simp only [Act.put, List.setIfInBounds_toArray, List.set_cons_zero, List.set_cons_succ]
            refine' wpAnyH_take (i := 54) (oi := _) ?hi ?hs ?hf ?hr ?hQ (v := _) (Or.inl ⟨?hw, ?hy⟩) (by assumption) ?_
            case hi => (simp only [List.getElem?_toArray, List.getElem?_cons_succ, List.getElem?_cons_zero]; exact rfl)
            case hs => kernel_rfl
            case hf => kernel_rfl
            case hr => kernel_rfl
            case hQ => exact fun _ _ _ h => h
            case hw => rfl
            case hy => (intro w hSw; (try dsimp only at hSw); go_simp; (try with_reducible rfl))
            try simp only [Act.put, List.setIfInBounds_toArray, List.set_cons_zero, List.set_cons_succ]
            refine' wpAnyH_take (i := 55) (oi := _) ?hi ?hs ?hf ?hr ?hQ (v := _) (Or.inl ⟨?hw, ?hy⟩) (by assumption) ?_
            case hi => (simp only [List.getElem?_toArray, List.getElem?_cons_succ, List.getElem?_cons_zero]; exact rfl)
            case hs => kernel_rfl
            case hf => kernel_rfl
            case hr => kernel_rfl
            case hQ => exact fun _ _ _ h => h
            case hw => rfl
            case hy => (intro w hSw; (try dsimp only at hSw); go_simp; (try with_reducible rfl))
            try simp only [Act.put, List.setIfInBounds_toArray, List.set_cons_zero, List.set_cons_succ]
            refine' wpAnyH_take (i := 56) (oi := _) ?hi ?hs ?hf ?hr ?hQ (v := _) (Or.inl ⟨?hw, ?hy⟩) (by assumption) ?_
            case hi => (simp only [List.getElem?_toArray, List.getElem?_cons_succ, List.getElem?_cons_zero]; exact rfl)
            case hs => kernel_rfl
            case hf => kernel_rfl
            case hr => kernel_rfl
            case hQ => exact fun _ _ _ h => h
            case hw => rfl
            case hy => (intro w hSw; (try dsimp only at hSw); go_simp; (try with_reducible rfl))
            try simp only [Act.put, List.setIfInBounds_toArray, List.set_cons_zero, List.set_cons_succ]
            refine' wpAnyH_take (i := 57) (oi := _) ?hi ?hs ?hf ?hr ?hQ (v := _) (Or.inl ⟨?hw, ?hy⟩) (by assumption) ?_
            case hi => (simp only [List.getElem?_toArray, List.getElem?_cons_succ, List.getElem?_cons_zero]; exact rfl)
            case hs => kernel_rfl
            case hf => kernel_rfl
            case hr => kernel_rfl
            case hQ => exact fun _ _ _ h => h
            case hw => rfl
            case hy => (intro w hSw; (try dsimp only at hSw); go_simp; (try with_reducible rfl))
            try simp only [Act.put, List.setIfInBounds_toArray, List.set_cons_zero, List.set_cons_succ]
            cases hs : belowB tag cb ys cc zs with
            | false =>
              simp only [hs] at BBC
              replace hs := hide hs
              refine wpAnyH_ready (rs := [58]) (by kernel_rfl) (by simp) ?_
              refine' AllReadyH.cons (o := _) ?ho (fun K hK => ?_) AllReadyH.nil
              case ho => (simp only [List.getElem?_toArray, List.getElem?_cons_succ, List.getElem?_cons_zero]; exact rfl)
              go_simp
              (with_reducible refine (BBC.out _ (by assumption)).mono ?_)
              rintro e w158 ⟨rfl, hbq⟩
              have HMq := MF.next HS.out hbq (by assumption)
              refine hK.out _ _ (TEN.out _ HMq) (fun hHeld => ?_)
              clear hK K hbq
              try simp only [Act.put, List.setIfInBounds_toArray, List.set_cons_zero, List.set_cons_succ]
              refine' wpAnyH_take (i := 59) (oi := _) ?hi ?hs ?hf ?hr ?hQ (v := _) (Or.inl ⟨?hw, ?hy⟩) (by assumption) ?_
              case hi => (simp only [List.getElem?_toArray, List.getElem?_cons_succ, List.getElem?_cons_zero]; exact rfl)
              case hs => kernel_rfl
              case hf => kernel_rfl
              case hr => kernel_rfl
              case hQ => exact fun _ _ _ h => h
              case hw => rfl
              case hy => (intro w hSw; (try dsimp only at hSw); go_simp; (try with_reducible rfl))
              try simp only [Act.put, List.setIfInBounds_toArray, List.set_cons_zero, List.set_cons_succ]
              refine' wpAnyH_take (i := 60) (oi := _) ?hi ?hs ?hf ?hr ?hQ (v := _) (Or.inl ⟨?hw, ?hy⟩) (by assumption) ?_
              case hi => (simp only [List.getElem?_toArray, List.getElem?_cons_succ, List.getElem?_cons_zero]; exact rfl)
              case hs => kernel_rfl
              case hf => kernel_rfl
              case hr => kernel_rfl
              case hQ => exact fun _ _ _ h => h
              case hw => rfl
              case hy => (intro w hSw; (try dsimp only at hSw); go_simp; (try with_reducible rfl))
              try simp only [Act.put, List.setIfInBounds_toArray, List.set_cons_zero, List.set_cons_succ]
              refine' wpAnyH_take (i := 61) (oi := _) ?hi ?hs ?hf ?hr ?hQ (v := _) (Or.inl ⟨?hw, ?hy⟩) (by assumption) ?_
              case hi => (simp only [List.getElem?_toArray, List.getElem?_cons_succ, List.getElem?_cons_zero]; exact rfl)
              case hs => kernel_rfl
              case hf => kernel_rfl
              case hr => kernel_rfl
              case hQ => exact fun _ _ _ h => h
              case hw => rfl
              case hy => (intro w hSw; (try dsimp only at hSw); go_simp; (try with_reducible rfl))
              try simp only [Act.put, List.setIfInBounds_toArray, List.set_cons_zero, List.set_cons_succ]
              refine' wpAnyH_take (i := 62) (oi := _) ?hi ?hs ?hf ?hr ?hQ (v := undef) (Or.inr ⟨?hw, rfl⟩) (by assumption) ?_
              case hi => (simp only [List.getElem?_toArray, List.getElem?_cons_succ, List.getElem?_cons_zero]; exact rfl)
              case hs => kernel_rfl
              case hf => kernel_rfl
              case hr => kernel_rfl
              case hQ => exact fun _ _ _ h => h
              case hw => rfl
              try simp only [Act.put, List.setIfInBounds_toArray, List.set_cons_zero, List.set_cons_succ]
              refine' wpAnyH_take (i := 63) (oi := _) ?hi ?hs ?hf ?hr ?hQ (v := undef) (Or.inr ⟨?hw, rfl⟩) (by assumption) ?_
              case hi => (simp only [List.getElem?_toArray, List.getElem?_cons_succ, List.getElem?_cons_zero]; exact rfl)
              case hs => kernel_rfl
              case hf => kernel_rfl
              case hr => kernel_rfl
              case hQ => exact fun _ _ _ h => h
              case hw => rfl
              try simp only [Act.put, List.setIfInBounds_toArray, List.set_cons_zero, List.set_cons_succ]
              refine' wpAnyH_take (i := 64) (oi := _) ?hi ?hs ?hf ?hr ?hQ (v := undef) (Or.inr ⟨?hw, rfl⟩) (by assumption) ?_
              case hi => (simp only [List.getElem?_toArray, List.getElem?_cons_succ, List.getElem?_cons_zero]; exact rfl)
              case hs => kernel_rfl
              case hf => kernel_rfl
              case hr => kernel_rfl
              case hQ => exact fun _ _ _ h => h
              case hw => rfl
              try simp only [Act.put, List.setIfInBounds_toArray, List.set_cons_zero, List.set_cons_succ]
              refine' wpAnyH_take (i := 65) (oi := _) ?hi ?hs ?hf ?hr ?hQ (v := undef) (Or.inr ⟨?hw, rfl⟩) (by assumption) ?_
              case hi => (simp only [List.getElem?_toArray, List.getElem?_cons_succ, List.getElem?_cons_zero]; exact rfl)
              case hs => kernel_rfl
              case hf => kernel_rfl
              case hr => kernel_rfl
              case hQ => exact fun _ _ _ h => h
              case hw => rfl
              try simp only [Act.put, List.setIfInBounds_toArray, List.set_cons_zero, List.set_cons_succ]
              refine' wpAnyH_take (i := 66) (oi := _) ?hi ?hs ?hf ?hr ?hQ (v := _) (Or.inl ⟨?hw, ?hy⟩) (by assumption) ?_
              case hi => (simp only [List.getElem?_toArray, List.getElem?_cons_succ, List.getElem?_cons_zero]; exact rfl)
              case hs => kernel_rfl
              case hf => kernel_rfl
              case hr => kernel_rfl
              case hQ => exact fun _ _ _ h => h
              case hw => rfl
              case hy => (intro w hSw; (try dsimp only at hSw); go_simp; (try with_reducible rfl))
              try simp only [Act.put, List.setIfInBounds_toArray, List.set_cons_zero, List.set_cons_succ]
              refine' wpAnyH_take (i := 67) (oi := _) ?hi ?hs ?hf ?hr ?hQ (v := _) (Or.inl ⟨?hw, ?hy⟩) (by assumption) ?_
              case hi => (simp only [List.getElem?_toArray, List.getElem?_cons_succ, List.getElem?_cons_zero]; exact rfl)
              case hs => kernel_rfl
              case hf => kernel_rfl
              case hr => kernel_rfl
              case hQ => exact fun _ _ _ h => h
              case hw => rfl
              case hy => (intro w hSw; (try dsimp only at hSw); go_simp; (try with_reducible rfl))
              try simp only [Act.put, List.setIfInBounds_toArray, List.set_cons_zero, List.set_cons_succ]
              refine' wpAnyH_take (i := 68) (oi := _) ?hi ?hs ?hf ?hr ?hQ (v := _) (Or.inl ⟨?hw, ?hy⟩) (by assumption) ?_
              case hi => (simp only [List.getElem?_toArray, List.getElem?_cons_succ, List.getElem?_cons_zero]; exact rfl)
              case hs => kernel_rfl
              case hf => kernel_rfl
              case hr => kernel_rfl
              case hQ => exact fun _ _ _ h => h
              case hw => rfl
              case hy => (intro w hSw; (try dsimp only at hSw); go_simp; (try with_reducible rfl))
              try simp only [Act.put, List.setIfInBounds_toArray, List.set_cons_zero, List.set_cons_succ]
              refine wpAnyH_done (by kernel_rfl) ?_ _
              go_wp2_with fail
              go_ret
              refine ⟨rfl, ?_⟩
              rw [← HSE.out]
              exact Hid.out (MF.low_ (by assumption))
            | true =>
              simp only [hs] at BBC
              replace hs := hide hs
              simp only [LTR.out hp.out hs.out] at BAC
              refine wpAnyH_ready (rs := [58]) (by kernel_rfl) (by simp) ?_
              refine' AllReadyH.cons (o := _) ?ho (fun K hK => ?_) AllReadyH.nil
              case ho => (simp only [List.getElem?_toArray, List.getElem?_cons_succ, List.getElem?_cons_zero]; exact rfl)
              go_simp
              (with_reducible refine (BBC.out _ (by assumption)).mono ?_)
              rintro e w158 ⟨rfl, hbq⟩
              have HMq := MF.next HS.out hbq (by assumption)
              refine hK.out _ _ (TEN.out _ HMq) (fun hHeld => ?_)
              clear hK K hbq
              try simp only [Act.put, List.setIfInBounds_toArray, List.set_cons_zero, List.set_cons_succ]
              refine' wpAnyH_take (i := 59) (oi := _) ?hi ?hs ?hf ?hr ?hQ (v := _) (Or.inl ⟨?hw, ?hy⟩) (by assumption) ?_
              case hi => (simp only [List.getElem?_toArray, List.getElem?_cons_succ, List.getElem?_cons_zero]; exact rfl)
              case hs => kernel_rfl
              case hf => kernel_rfl
              case hr => kernel_rfl
              case hQ => exact fun _ _ _ h => h
              case hw => rfl
              case hy => (intro w hSw; (try dsimp only at hSw); go_simp; (try with_reducible rfl))
              try simp only [Act.put, List.setIfInBounds_toArray, List.set_cons_zero, List.set_cons_succ]
              refine' wpAnyH_take (i := 60) (oi := _) ?hi ?hs ?hf ?hr ?hQ (v := _) (Or.inl ⟨?hw, ?hy⟩) (by assumption) ?_
              case hi => (simp only [List.getElem?_toArray, List.getElem?_cons_succ, List.getElem?_cons_zero]; exact rfl)
              case hs => kernel_rfl
              case hf => kernel_rfl
              case hr => kernel_rfl
              case hQ => exact fun _ _ _ h => h
              case hw => rfl
              case hy => (intro w hSw; (try dsimp only at hSw); go_simp; (try with_reducible rfl))
              try simp only [Act.put, List.setIfInBounds_toArray, List.set_cons_zero, List.set_cons_succ]
              refine' wpAnyH_take (i := 61) (oi := _) ?hi ?hs ?hf ?hr ?hQ (v := _) (Or.inl ⟨?hw, ?hy⟩) (by assumption) ?_
              case hi => (simp only [List.getElem?_toArray, List.getElem?_cons_succ, List.getElem?_cons_zero]; exact rfl)
              case hs => kernel_rfl
              case hf => kernel_rfl
              case hr => kernel_rfl
              case hQ => exact fun _ _ _ h => h
              case hw => rfl
              case hy => (intro w hSw; (try dsimp only at hSw); go_simp; (try with_reducible rfl))
              try simp only [Act.put, List.setIfInBounds_toArray, List.set_cons_zero, List.set_cons_succ]
              refine' wpAnyH_take (i := 62) (oi := _) ?hi ?hs ?hf ?hr ?hQ (v := _) (Or.inl ⟨?hw, ?hy⟩) (by assumption) ?_
              case hi => (simp only [List.getElem?_toArray, List.getElem?_cons_succ, List.getElem?_cons_zero]; exact rfl)
              case hs => kernel_rfl
              case hf => kernel_rfl
              case hr => kernel_rfl
              case hQ => exact fun _ _ _ h => h
              case hw => rfl
              case hy => (intro w hSw; (try dsimp only at hSw); go_simp; (try with_reducible rfl))
              try simp only [Act.put, List.setIfInBounds_toArray, List.set_cons_zero, List.set_cons_succ]
              refine' wpAnyH_take (i := 63) (oi := _) ?hi ?hs ?hf ?hr ?hQ (v := _) (Or.inl ⟨?hw, ?hy⟩) (by assumption) ?_
              case hi => (simp only [List.getElem?_toArray, List.getElem?_cons_succ, List.getElem?_cons_zero]; exact rfl)
              case hs => kernel_rfl
              case hf => kernel_rfl
              case hr => kernel_rfl
              case hQ => exact fun _ _ _ h => h
              case hw => rfl
              case hy => (intro w hSw; (try dsimp only at hSw); go_simp; (try with_reducible rfl))
              try simp only [Act.put, List.setIfInBounds_toArray, List.set_cons_zero, List.set_cons_succ]
              refine' wpAnyH_take (i := 64) (oi := _) ?hi ?hs ?hf ?hr ?hQ (v := _) (Or.inl ⟨?hw, ?hy⟩) (by assumption) ?_
              case hi => (simp only [List.getElem?_toArray, List.getElem?_cons_succ, List.getElem?_cons_zero]; exact rfl)
              case hs => kernel_rfl
              case hf => kernel_rfl
              case hr => kernel_rfl
              case hQ => exact fun _ _ _ h => h
              case hw => rfl
              case hy => (intro w hSw; (try dsimp only at hSw); go_simp; (try with_reducible rfl))
              try simp only [Act.put, List.setIfInBounds_toArray, List.set_cons_zero, List.set_cons_succ]
              refine wpAnyH_ready (rs := [65]) (by kernel_rfl) (by simp) ?_
              refine' AllReadyH.cons (o := _) ?ho (fun K hK => ?_) AllReadyH.nil
              case ho => (simp only [List.getElem?_toArray, List.getElem?_cons_succ, List.getElem?_cons_zero]; exact rfl)
              go_simp
              (with_reducible refine (BAC.out _ (by assumption)).mono ?_)
              rintro e w165 ⟨rfl, hbq⟩
              have HMq := MF.next HS.out hbq (by assumption)
              refine hK.out _ _ (TEN.out _ HMq) (fun hHeld => ?_)
              clear hK K hbq
              try simp only [Act.put, List.setIfInBounds_toArray, List.set_cons_zero, List.set_cons_succ]
              refine' wpAnyH_take (i := 66) (oi := _) ?hi ?hs ?hf ?hr ?hQ (v := _) (Or.inl ⟨?hw, ?hy⟩) (by assumption) ?_
              case hi => (simp only [List.getElem?_toArray, List.getElem?_cons_succ, List.getElem?_cons_zero]; exact rfl)
              case hs => kernel_rfl
              case hf => kernel_rfl
              case hr => kernel_rfl
              case hQ => exact fun _ _ _ h => h
              case hw => rfl
              case hy => (intro w hSw; (try dsimp only at hSw); go_simp; (try with_reducible rfl))
              try simp only [Act.put, List.setIfInBounds_toArray, List.set_cons_zero, List.set_cons_succ]
              refine' wpAnyH_take (i := 67) (oi := _) ?hi ?hs ?hf ?hr ?hQ (v := _) (Or.inl ⟨?hw, ?hy⟩) (by assumption) ?_
              case hi => (simp only [List.getElem?_toArray, List.getElem?_cons_succ, List.getElem?_cons_zero]; exact rfl)
              case hs => kernel_rfl
              case hf => kernel_rfl
              case hr => kernel_rfl
              case hQ => exact fun _ _ _ h => h
              case hw => rfl
              case hy => (intro w hSw; (try dsimp only at hSw); go_simp; (try with_reducible rfl))
              try simp only [Act.put, List.setIfInBounds_toArray, List.set_cons_zero, List.set_cons_succ]
              refine' wpAnyH_take (i := 68) (oi := _) ?hi ?hs ?hf ?hr ?hQ (v := _) (Or.inl ⟨?hw, ?hy⟩) (by assumption) ?_
              case hi => (simp only [List.getElem?_toArray, List.getElem?_cons_succ, List.getElem?_cons_zero]; exact rfl)
              case hs => kernel_rfl
              case hf => kernel_rfl
              case hr => kernel_rfl
              case hQ => exact fun _ _ _ h => h
              case hw => rfl
              case hy => (intro w hSw; (try dsimp only at hSw); go_simp; (try with_reducible rfl))
              try simp only [Act.put, List.setIfInBounds_toArray, List.set_cons_zero, List.set_cons_succ]
              refine wpAnyH_done (by kernel_rfl) ?_ _
              go_wp2_with fail
              go_ret
              refine ⟨rfl, ?_⟩
              rw [← HSE.out]
              exact Hid.out (MF.low_ (by assumption))
          | true =>
            simp only [hq] at BBA
            replace hq := hide hq
            simp only [LBT.out hp.out hq.out] at SAB
            refine wpAnyH_ready (rs := [39]) (by kernel_rfl) (by simp) ?_
            refine' AllReadyH.cons (o := _) ?ho (fun K hK => ?_) AllReadyH.nil
            case ho => (simp only [List.getElem?_toArray, List.getElem?_cons_succ, List.getElem?_cons_zero]; exact rfl)
            go_simp
            (with_reducible refine (BBA.out _ (by assumption)).mono ?_)
            rintro e w139 ⟨rfl, hbq⟩
            have HMq := MF.next HS.out hbq (by assumption)
            refine hK.out _ _ (TEN.out _ HMq) (fun hHeld => ?_)
            clear hK K hbq
            try simp only [Act.put, List.setIfInBounds_toArray, List.set_cons_zero, List.set_cons_succ]
            refine' wpAnyH_take (i := 40) (oi := _) ?hi ?hs ?hf ?hr ?hQ (v := _) (Or.inl ⟨?hw, ?hy⟩) (by assumption) ?_
            case hi => (simp only [List.getElem?_toArray, List.getElem?_cons_succ, List.getElem?_cons_zero]; exact rfl)
            case hs => kernel_rfl
            case hf => kernel_rfl
            case hr => kernel_rfl
            case hQ => exact fun _ _ _ h => h
            case hw => rfl
            case hy => (intro w hSw; (try dsimp only at hSw); go_simp; (try with_reducible rfl))
            try simp only [Act.put, List.setIfInBounds_toArray, List.set_cons_zero, List.set_cons_succ]
            refine' wpAnyH_take (i := 41) (oi := _) ?hi ?hs ?hf ?hr ?hQ (v := _) (Or.inl ⟨?hw, ?hy⟩) (by assumption) ?_
            case hi => (simp only [List.getElem?_toArray, List.getElem?_cons_succ, List.getElem?_cons_zero]; exact rfl)
            case hs => kernel_rfl
            case hf => kernel_rfl
            case hr => kernel_rfl
            case hQ => exact fun _ _ _ h => h
            case hw => rfl
            case hy => (intro w hSw; (try dsimp only at hSw); go_simp; (try with_reducible rfl))
            try simp only [Act.put, List.setIfInBounds_toArray, List.set_cons_zero, List.set_cons_succ]
            refine' wpAnyH_take (i := 42) (oi := _) ?hi ?hs ?hf ?hr ?hQ (v := _) (Or.inl ⟨?hw, ?hy⟩) (by assumption) ?_
            case hi => (simp only [List.getElem?_toArray, List.getElem?_cons_succ, List.getElem?_cons_zero]; exact rfl)
            case hs => kernel_rfl
            case hf => kernel_rfl
            case hr => kernel_rfl
            case hQ => exact fun _ _ _ h => h
            case hw => rfl
            case hy => (intro w hSw; (try dsimp only at hSw); go_simp; (try with_reducible rfl))
            try simp only [Act.put, List.setIfInBounds_toArray, List.set_cons_zero, List.set_cons_succ]
            refine' wpAnyH_take (i := 43) (oi := _) ?hi ?hs ?hf ?hr ?hQ (v := _) (Or.inl ⟨?hw, ?hy⟩) (by assumption) ?_
            case hi => (simp only [List.getElem?_toArray, List.getElem?_cons_succ, List.getElem?_cons_zero]; exact rfl)
            case hs => kernel_rfl
            case hf => kernel_rfl
            case hr => kernel_rfl
            case hQ => exact fun _ _ _ h => h
            case hw => rfl
            case hy => (intro w hSw; (try dsimp only at hSw); go_simp; (try with_reducible rfl))
            try simp only [Act.put, List.setIfInBounds_toArray, List.set_cons_zero, List.set_cons_succ]
            refine' wpAnyH_take (i := 44) (oi := _) ?hi ?hs ?hf ?hr ?hQ (v := _) (Or.inl ⟨?hw, ?hy⟩) (by assumption) ?_
            case hi => (simp only [List.getElem?_toArray, List.getElem?_cons_succ, List.getElem?_cons_zero]; exact rfl)
            case hs => kernel_rfl
            case hf => kernel_rfl
            case hr => kernel_rfl
            case hQ => exact fun _ _ _ h => h
            case hw => rfl
            case hy => (intro w hSw; (try dsimp only at hSw); go_simp; (try with_reducible rfl))
            try simp only [Act.put, List.setIfInBounds_toArray, List.set_cons_zero, List.set_cons_succ]
            refine wpAnyH_ready (rs := [45]) (by kernel_rfl) (by simp) ?_
            refine' AllReadyH.cons (o := _) ?ho (fun K hK => ?_) AllReadyH.nil
            case ho => (simp only [List.getElem?_toArray, List.getElem?_cons_succ, List.getElem?_cons_zero]; exact rfl)
            go_simp
            (with_reducible refine (SAB.out _ (by assumption)).mono ?_)
            rintro e w145 ⟨rfl, hbq⟩
            have HMq := MF.next HS.out hbq (by assumption)
            refine hK.out _ _ (TEN.out _ HMq) (fun hHeld => ?_)
            clear hK K hbq
            try simp only [Act.put, List.setIfInBounds_toArray, List.set_cons_zero, List.set_cons_succ]
            refine' wpAnyH_take (i := 46) (oi := _) ?hi ?hs ?hf ?hr ?hQ (v := _) (Or.inl ⟨?hw, ?hy⟩) (by assumption) ?_
            case hi => (simp only [List.getElem?_toArray, List.getElem?_cons_succ, List.getElem?_cons_zero]; exact rfl)
            case hs => kernel_rfl
            case hf => kernel_rfl
            case hr => kernel_rfl
            case hQ => exact fun _ _ _ h => h
            case hw => rfl
            case hy => (intro w hSw; (try dsimp only at hSw); go_simp; (try with_reducible rfl))
            try simp only [Act.put, List.setIfInBounds_toArray, List.set_cons_zero, List.set_cons_succ]
            refine' wpAnyH_take (i := 47) (oi := _) ?hi ?hs ?hf ?hr ?hQ (v := _) (Or.inl ⟨?hw, ?hy⟩) (by assumption) ?_
            case hi => (simp only [List.getElem?_toArray, List.getElem?_cons_succ, List.getElem?_cons_zero]; exact rfl)
            case hs => kernel_rfl
            case hf => kernel_rfl
            case hr => kernel_rfl
            case hQ => exact fun _ _ _ h => h
            case hw => rfl
            case hy => (intro w hSw; (try dsimp only at hSw); go_simp; (try with_reducible rfl))
            try simp only [Act.put, List.setIfInBounds_toArray, List.set_cons_zero, List.set_cons_succ]
            refine' wpAnyH_take (i := 48) (oi := _) ?hi ?hs ?hf ?hr ?hQ (v := _) (Or.inl ⟨?hw, ?hy⟩) (by assumption) ?_
            case hi => (simp only [List.getElem?_toArray, List.getElem?_cons_succ, List.getElem?_cons_zero]; exact rfl)
            case hs => kernel_rfl
            case hf => kernel_rfl
            case hr => kernel_rfl
            case hQ => exact fun _ _ _ h => h
            case hw => rfl
            case hy => (intro w hSw; (try dsimp only at hSw); go_simp; (try with_reducible rfl))
            try simp only [Act.put, List.setIfInBounds_toArray, List.set_cons_zero, List.set_cons_succ]
            refine' wpAnyH_take (i := 49) (oi := _) ?hi ?hs ?hf ?hr ?hQ (v := _) (Or.inl ⟨?hw, ?hy⟩) (by assumption) ?_
            case hi => (simp only [List.getElem?_toArray, List.getElem?_cons_succ, List.getElem?_cons_zero]; exact rfl)
            case hs => kernel_rfl
            case hf => kernel_rfl
            case hr => kernel_rfl
            case hQ => exact fun _ _ _ h => h
            case hw => rfl
            case hy => (intro w hSw; (try dsimp only at hSw); go_simp; (try with_reducible rfl))
            try simp only [Act.put, List.setIfInBounds_toArray, List.set_cons_zero, List.set_cons_succ]
            refine' wpAnyH_take (i := 50) (oi := _) ?hi ?hs ?hf ?hr ?hQ (v := _) (Or.inl ⟨?hw, ?hy⟩) (by assumption) ?_
            case hi => (simp only [List.getElem?_toArray, List.getElem?_cons_succ, List.getElem?_cons_zero]; exact rfl)
            case hs => kernel_rfl
            case hf => kernel_rfl
            case hr => kernel_rfl
            case hQ => exact fun _ _ _ h => h
            case hw => rfl
            case hy => (intro w hSw; (try dsimp only at hSw); go_simp; (try with_reducible rfl))
            try simp only [Act.put, List.setIfInBounds_toArray, List.set_cons_zero, List.set_cons_succ]
            refine' wpAnyH_take (i := 51) (oi := _) ?hi ?hs ?hf ?hr ?hQ (v := _) (Or.inl ⟨?hw, ?hy⟩) (by assumption) ?_
            case hi => (simp only [List.getElem?_toArray, List.getElem?_cons_succ, List.getElem?_cons_zero]; exact rfl)
            case hs => kernel_rfl
            case hf => kernel_rfl
            case hr => kernel_rfl
            case hQ => exact fun _ _ _ h => h
            case hw => rfl
            case hy => (intro w hSw; (try dsimp only at hSw); go_simp; (try with_reducible rfl))
            try simp only [Act.put, List.setIfInBounds_toArray, List.set_cons_zero, List.set_cons_succ]
            refine wpAnyH_ready (rs := [52]) (by kernel_rfl) (by simp) ?_
            refine' AllReadyH.cons (o := _) ?ho (fun K hK => ?_) AllReadyH.nil
            case ho => (simp only [List.getElem?_toArray, List.getElem?_cons_succ, List.getElem?_cons_zero]; exact rfl)
            go_simp
            (with_reducible refine (BAB.out _ (by assumption)).mono ?_)
            rintro e w152 ⟨rfl, hbq⟩
            have HMq := MF.next HS.out hbq (by assumption)
            refine hK.out _ _ (TEN.out _ HMq) (fun hHeld => ?_)
            clear hK K hbq
            try simp only [Act.put, List.setIfInBounds_toArray, List.set_cons_zero, List.set_cons_succ]
            refine' wpAnyH_take (i := 53) (oi := _) ?hi ?hs ?hf ?hr ?hQ (v := _) (Or.inl ⟨?hw, ?hy⟩) (by assumption) ?_
            case hi => (simp only [List.getElem?_toArray, List.getElem?_cons_succ, List.getElem?_cons_zero]; exact rfl)
            case hs => kernel_rfl
            case hf => kernel_rfl
            case hr => kernel_rfl
            case hQ => exact fun _ _ _ h => h
            case hw => rfl
            case hy => (intro w hSw; (try dsimp only at hSw); go_simp; (try with_reducible rfl))
            try simp only [Act.put, List.setIfInBounds_toArray, List.set_cons_zero, List.set_cons_succ]
            refine' wpAnyH_take (i := 54) (oi := _) ?hi ?hs ?hf ?hr ?hQ (v := _) (Or.inl ⟨?hw, ?hy⟩) (by assumption) ?_
            case hi => (simp only [List.getElem?_toArray, List.getElem?_cons_succ, List.getElem?_cons_zero]; exact rfl)
            case hs => kernel_rfl
            case hf => kernel_rfl
            case hr => kernel_rfl
            case hQ => exact fun _ _ _ h => h
            case hw => rfl
            case hy => (intro w hSw; (try dsimp only at hSw); go_simp; (try with_reducible rfl))
            try simp only [Act.put, List.setIfInBounds_toArray, List.set_cons_zero, List.set_cons_succ]
            refine' wpAnyH_take (i := 55) (oi := _) ?hi ?hs ?hf ?hr ?hQ (v := _) (Or.inl ⟨?hw, ?hy⟩) (by assumption) ?_
            case hi => (simp only [List.getElem?_toArray, List.getElem?_cons_succ, List.getElem?_cons_zero]; exact rfl)
            case hs => kernel_rfl
            case hf => kernel_rfl
            case hr => kernel_rfl
            case hQ => exact fun _ _ _ h => h
            case hw => rfl
            case hy => (intro w hSw; (try dsimp only at hSw); go_simp; (try with_reducible rfl))
            try simp only [Act.put, List.setIfInBounds_toArray, List.set_cons_zero, List.set_cons_succ]
            refine' wpAnyH_take (i := 56) (oi := _) ?hi ?hs ?hf ?hr ?hQ (v := _) (Or.inl ⟨?hw, ?hy⟩) (by assumption) ?_
            case hi => (simp only [List.getElem?_toArray, List.getElem?_cons_succ, List.getElem?_cons_zero]; exact rfl)
            case hs => kernel_rfl
            case hf => kernel_rfl
            case hr => kernel_rfl
            case hQ => exact fun _ _ _ h => h
            case hw => rfl
            case hy => (intro w hSw; (try dsimp only at hSw); go_simp; (try with_reducible rfl))
            try simp only [Act.put, List.setIfInBounds_toArray, List.set_cons_zero, List.set_cons_succ]
            refine' wpAnyH_take (i := 57) (oi := _) ?hi ?hs ?hf ?hr ?hQ (v := _) (Or.inl ⟨?hw, ?hy⟩) (by assumption) ?_
            case hi => (simp only [List.getElem?_toArray, List.getElem?_cons_succ, List.getElem?_cons_zero]; exact rfl)
            case hs => kernel_rfl
            case hf => kernel_rfl
            case hr => kernel_rfl
            case hQ => exact fun _ _ _ h => h
            case hw => rfl
            case hy => (intro w hSw; (try dsimp only at hSw); go_simp; (try with_reducible rfl))
            try simp only [Act.put, List.setIfInBounds_toArray, List.set_cons_zero, List.set_cons_succ]
            cases hs : belowB tag cb ys cc zs with
            | false =>
              simp only [hs] at BBC
              replace hs := hide hs
              refine wpAnyH_ready (rs := [58]) (by kernel_rfl) (by simp) ?_
              refine' AllReadyH.cons (o := _) ?ho (fun K hK => ?_) AllReadyH.nil
              case ho => (simp only [List.getElem?_toArray, List.getElem?_cons_succ, List.getElem?_cons_zero]; exact rfl)
              go_simp
              (with_reducible refine (BBC.out _ (by assumption)).mono ?_)
              rintro e w158 ⟨rfl, hbq⟩
              have HMq := MF.next HS.out hbq (by assumption)
              refine hK.out _ _ (TEN.out _ HMq) (fun hHeld => ?_)
              clear hK K hbq
              try simp only [Act.put, List.setIfInBounds_toArray, List.set_cons_zero, List.set_cons_succ]
              refine' wpAnyH_take (i := 59) (oi := _) ?hi ?hs ?hf ?hr ?hQ (v := _) (Or.inl ⟨?hw, ?hy⟩) (by assumption) ?_
              case hi => (simp only [List.getElem?_toArray, List.getElem?_cons_succ, List.getElem?_cons_zero]; exact rfl)
              case hs => kernel_rfl
              case hf => kernel_rfl
              case hr => kernel_rfl
              case hQ => exact fun _ _ _ h => h
              case hw => rfl
              case hy => (intro w hSw; (try dsimp only at hSw); go_simp; (try with_reducible rfl))
              try simp only [Act.put, List.setIfInBounds_toArray, List.set_cons_zero, List.set_cons_succ]
              refine' wpAnyH_take (i := 60) (oi := _) ?hi ?hs ?hf ?hr ?hQ (v := _) (Or.inl ⟨?hw, ?hy⟩) (by assumption) ?_
              case hi => (simp only [List.getElem?_toArray, List.getElem?_cons_succ, List.getElem?_cons_zero]; exact rfl)
              case hs => kernel_rfl
              case hf => kernel_rfl
              case hr => kernel_rfl
              case hQ => exact fun _ _ _ h => h
              case hw => rfl
              case hy => (intro w hSw; (try dsimp only at hSw); go_simp; (try with_reducible rfl))
              try simp only [Act.put, List.setIfInBounds_toArray, List.set_cons_zero, List.set_cons_succ]
              refine' wpAnyH_take (i := 61) (oi := _) ?hi ?hs ?hf ?hr ?hQ (v := _) (Or.inl ⟨?hw, ?hy⟩) (by assumption) ?_
              case hi => (simp only [List.getElem?_toArray, List.getElem?_cons_succ, List.getElem?_cons_zero]; exact rfl)
              case hs => kernel_rfl
              case hf => kernel_rfl
              case hr => kernel_rfl
              case hQ => exact fun _ _ _ h => h
              case hw => rfl
              case hy => (intro w hSw; (try dsimp only at hSw); go_simp; (try with_reducible rfl))
              try simp only [Act.put, List.setIfInBounds_toArray, List.set_cons_zero, List.set_cons_succ]
              refine' wpAnyH_take (i := 62) (oi := _) ?hi ?hs ?hf ?hr ?hQ (v := undef) (Or.inr ⟨?hw, rfl⟩) (by assumption) ?_
              case hi => (simp only [List.getElem?_toArray, List.getElem?_cons_succ, List.getElem?_cons_zero]; exact rfl)
              case hs => kernel_rfl
              case hf => kernel_rfl
              case hr => kernel_rfl
              case hQ => exact fun _ _ _ h => h
              case hw => rfl
              try simp only [Act.put, List.setIfInBounds_toArray, List.set_cons_zero, List.set_cons_succ]
              refine' wpAnyH_take (i := 63) (oi := _) ?hi ?hs ?hf ?hr ?hQ (v := undef) (Or.inr ⟨?hw, rfl⟩) (by assumption) ?_
              case hi => (simp only [List.getElem?_toArray, List.getElem?_cons_succ, List.getElem?_cons_zero]; exact rfl)
              case hs => kernel_rfl
              case hf => kernel_rfl
              case hr => kernel_rfl
              case hQ => exact fun _ _ _ h => h
              case hw => rfl
              try simp only [Act.put, List.setIfInBounds_toArray, List.set_cons_zero, List.set_cons_succ]
              refine' wpAnyH_take (i := 64) (oi := _) ?hi ?hs ?hf ?hr ?hQ (v := undef) (Or.inr ⟨?hw, rfl⟩) (by assumption) ?_
              case hi => (simp only [List.getElem?_toArray, List.getElem?_cons_succ, List.getElem?_cons_zero]; exact rfl)
              case hs => kernel_rfl
              case hf => kernel_rfl
              case hr => kernel_rfl
              case hQ => exact fun _ _ _ h => h
              case hw => rfl
              try simp only [Act.put, List.setIfInBounds_toArray, List.set_cons_zero, List.set_cons_succ]
              refine' wpAnyH_take (i := 65) (oi := _) ?hi ?hs ?hf ?hr ?hQ (v := undef) (Or.inr ⟨?hw, rfl⟩) (by assumption) ?_
              case hi => (simp only [List.getElem?_toArray, List.getElem?_cons_succ, List.getElem?_cons_zero]; exact rfl)
              case hs => kernel_rfl
              case hf => kernel_rfl
              case hr => kernel_rfl
              case hQ => exact fun _ _ _ h => h
              case hw => rfl
              try simp only [Act.put, List.setIfInBounds_toArray, List.set_cons_zero, List.set_cons_succ]
              refine' wpAnyH_take (i := 66) (oi := _) ?hi ?hs ?hf ?hr ?hQ (v := _) (Or.inl ⟨?hw, ?hy⟩) (by assumption) ?_
              case hi => (simp only [List.getElem?_toArray, List.getElem?_cons_succ, List.getElem?_cons_zero]; exact rfl)
              case hs => kernel_rfl
              case hf => kernel_rfl
              case hr => kernel_rfl
              case hQ => exact fun _ _ _ h => h
              case hw => rfl
              case hy => (intro w hSw; (try dsimp only at hSw); go_simp; (try with_reducible rfl))
              try simp only [Act.put, List.setIfInBounds_toArray, List.set_cons_zero, List.set_cons_succ]
              refine' wpAnyH_take (i := 67) (oi := _) ?hi ?hs ?hf ?hr ?hQ (v := _) (Or.inl ⟨?hw, ?hy⟩) (by assumption) ?_
              case hi => (simp only [List.getElem?_toArray, List.getElem?_cons_succ, List.getElem?_cons_zero]; exact rfl)
              case hs => kernel_rfl
              case hf => kernel_rfl
              case hr => kernel_rfl
              case hQ => exact fun _ _ _ h => h
              case hw => rfl
              case hy => (intro w hSw; (try dsimp only at hSw); go_simp; (try with_reducible rfl))
              try simp only [Act.put, List.setIfInBounds_toArray, List.set_cons_zero, List.set_cons_succ]
              refine' wpAnyH_take (i := 68) (oi := _) ?hi ?hs ?hf ?hr ?hQ (v := _) (Or.inl ⟨?hw, ?hy⟩) (by assumption) ?_
              case hi => (simp only [List.getElem?_toArray, List.getElem?_cons_succ, List.getElem?_cons_zero]; exact rfl)
              case hs => kernel_rfl
              case hf => kernel_rfl
              case hr => kernel_rfl
              case hQ => exact fun _ _ _ h => h
              case hw => rfl
              case hy => (intro w hSw; (try dsimp only at hSw); go_simp; (try with_reducible rfl))
              try simp only [Act.put, List.setIfInBounds_toArray, List.set_cons_zero, List.set_cons_succ]
              refine wpAnyH_done (by kernel_rfl) ?_ _
              go_wp2_with fail
              go_ret
              refine ⟨rfl, ?_⟩
              rw [← HSE.out]
              exact Hid.out (MF.low_ (by assumption))
            | true =>
              simp only [hs] at BBC
              replace hs := hide hs
              simp only [LTR.out hp.out hs.out] at BAC
              refine wpAnyH_ready (rs := [58]) (by kernel_rfl) (by simp) ?_
              refine' AllReadyH.cons (o := _) ?ho (fun K hK => ?_) AllReadyH.nil
              case ho => (simp only [List.getElem?_toArray, List.getElem?_cons_succ, List.getElem?_cons_zero]; exact rfl)
              go_simp
              (with_reducible refine (BBC.out _ (by assumption)).mono ?_)
              rintro e w158 ⟨rfl, hbq⟩
              have HMq := MF.next HS.out hbq (by assumption)
              refine hK.out _ _ (TEN.out _ HMq) (fun hHeld => ?_)
              clear hK K hbq
              try simp only [Act.put, List.setIfInBounds_toArray, List.set_cons_zero, List.set_cons_succ]
              refine' wpAnyH_take (i := 59) (oi := _) ?hi ?hs ?hf ?hr ?hQ (v := _) (Or.inl ⟨?hw, ?hy⟩) (by assumption) ?_
              case hi => (simp only [List.getElem?_toArray, List.getElem?_cons_succ, List.getElem?_cons_zero]; exact rfl)
              case hs => kernel_rfl
              case hf => kernel_rfl
              case hr => kernel_rfl
              case hQ => exact fun _ _ _ h => h
              case hw => rfl
              case hy => (intro w hSw; (try dsimp only at hSw); go_simp; (try with_reducible rfl))
              try simp only [Act.put, List.setIfInBounds_toArray, List.set_cons_zero, List.set_cons_succ]
              refine' wpAnyH_take (i := 60) (oi := _) ?hi ?hs ?hf ?hr ?hQ (v := _) (Or.inl ⟨?hw, ?hy⟩) (by assumption) ?_
              case hi => (simp only [List.getElem?_toArray, List.getElem?_cons_succ, List.getElem?_cons_zero]; exact rfl)
              case hs => kernel_rfl
              case hf => kernel_rfl
              case hr => kernel_rfl
              case hQ => exact fun _ _ _ h => h
              case hw => rfl
              case hy => (intro w hSw; (try dsimp only at hSw); go_simp; (try with_reducible rfl))
              try simp only [Act.put, List.setIfInBounds_toArray, List.set_cons_zero, List.set_cons_succ]
              refine' wpAnyH_take (i := 61) (oi := _) ?hi ?hs ?hf ?hr ?hQ (v := _) (Or.inl ⟨?hw, ?hy⟩) (by assumption) ?_
              case hi => (simp only [List.getElem?_toArray, List.getElem?_cons_succ, List.getElem?_cons_zero]; exact rfl)
              case hs => kernel_rfl
              case hf => kernel_rfl
              case hr => kernel_rfl
              case hQ => exact fun _ _ _ h => h
              case hw => rfl
              case hy => (intro w hSw; (try dsimp only at hSw); go_simp; (try with_reducible rfl))
              try simp only [Act.put, List.setIfInBounds_toArray, List.set_cons_zero, List.set_cons_succ]
              refine' wpAnyH_take (i := 62) (oi := _) ?hi ?hs ?hf ?hr ?hQ (v := _) (Or.inl ⟨?hw, ?hy⟩) (by assumption) ?_
              case hi => (simp only [List.getElem?_toArray, List.getElem?_cons_succ, List.getElem?_cons_zero]; exact rfl)
              case hs => kernel_rfl
              case hf => kernel_rfl
              case hr => kernel_rfl
              case hQ => exact fun _ _ _ h => h
              case hw => rfl
              case hy => (intro w hSw; (try dsimp only at hSw); go_simp; (try with_reducible rfl))
              try simp only [Act.put, List.setIfInBounds_toArray, List.set_cons_zero, List.set_cons_succ]
              refine' wpAnyH_take (i := 63) (oi := _) ?hi ?hs ?hf ?hr ?hQ (v := _) (Or.inl ⟨?hw, ?hy⟩) (by assumption) ?_
              case hi => (simp only [List.getElem?_toArray, List.getElem?_cons_succ, List.getElem?_cons_zero]; exact rfl)
              case hs => kernel_rfl
              case hf => kernel_rfl
              case hr => kernel_rfl
              case hQ => exact fun _ _ _ h => h
              case hw => rfl
              case hy => (intro w hSw; (try dsimp only at hSw); go_simp; (try with_reducible rfl))
              try simp only [Act.put, List.setIfInBounds_toArray, List.set_cons_zero, List.set_cons_succ]
              refine' wpAnyH_take (i := 64) (oi := _) ?hi ?hs ?hf ?hr ?hQ (v := _) (Or.inl ⟨?hw, ?hy⟩) (by assumption) ?_
              case hi => (simp only [List.getElem?_toArray, List.getElem?_cons_succ, List.getElem?_cons_zero]; exact rfl)
              case hs => kernel_rfl
              case hf => kernel_rfl
              case hr => kernel_rfl
              case hQ => exact fun _ _ _ h => h
              case hw => rfl
              case hy => (intro w hSw; (try dsimp only at hSw); go_simp; (try with_reducible rfl))
              try simp only [Act.put, List.setIfInBounds_toArray, List.set_cons_zero, List.set_cons_succ]
              refine wpAnyH_ready (rs := [65]) (by kernel_rfl) (by simp) ?_
              refine' AllReadyH.cons (o := _) ?ho (fun K hK => ?_) AllReadyH.nil
              case ho => (simp only [List.getElem?_toArray, List.getElem?_cons_succ, List.getElem?_cons_zero]; exact rfl)
              go_simp
              (with_reducible refine (BAC.out _ (by assumption)).mono ?_)
              rintro e w165 ⟨rfl, hbq⟩
              have HMq := MF.next HS.out hbq (by assumption)
              refine hK.out _ _ (TEN.out _ HMq) (fun hHeld => ?_)
              clear hK K hbq
              try simp only [Act.put, List.setIfInBounds_toArray, List.set_cons_zero, List.set_cons_succ]
              refine' wpAnyH_take (i := 66) (oi := _) ?hi ?hs ?hf ?hr ?hQ (v := _) (Or.inl ⟨?hw, ?hy⟩) (by assumption) ?_
              case hi => (simp only [List.getElem?_toArray, List.getElem?_cons_succ, List.getElem?_cons_zero]; exact rfl)
              case hs => kernel_rfl
              case hf => kernel_rfl
              case hr => kernel_rfl
              case hQ => exact fun _ _ _ h => h
              case hw => rfl
              case hy => (intro w hSw; (try dsimp only at hSw); go_simp; (try with_reducible rfl))
              try simp only [Act.put, List.setIfInBounds_toArray, List.set_cons_zero, List.set_cons_succ]
              refine' wpAnyH_take (i := 67) (oi := _) ?hi ?hs ?hf ?hr ?hQ (v := _) (Or.inl ⟨?hw, ?hy⟩) (by assumption) ?_
              case hi => (simp only [List.getElem?_toArray, List.getElem?_cons_succ, List.getElem?_cons_zero]; exact rfl)
              case hs => kernel_rfl
              case hf => kernel_rfl
              case hr => kernel_rfl
              case hQ => exact fun _ _ _ h => h
              case hw => rfl
              case hy => (intro w hSw; (try dsimp only at hSw); go_simp; (try with_reducible rfl))
              try simp only [Act.put, List.setIfInBounds_toArray, List.set_cons_zero, List.set_cons_succ]
              refine' wpAnyH_take (i := 68) (oi := _) ?hi ?hs ?hf ?hr ?hQ (v := _) (Or.inl ⟨?hw, ?hy⟩) (by assumption) ?_
              case hi => (simp only [List.getElem?_toArray, List.getElem?_cons_succ, List.getElem?_cons_zero]; exact rfl)
              case hs => kernel_rfl
              case hf => kernel_rfl
              case hr => kernel_rfl
              case hQ => exact fun _ _ _ h => h
              case hw => rfl
              case hy => (intro w hSw; (try dsimp only at hSw); go_simp; (try with_reducible rfl))
              try simp only [Act.put, List.setIfInBounds_toArray, List.set_cons_zero, List.set_cons_succ]
              refine wpAnyH_done (by kernel_rfl) ?_ _
              go_wp2_with fail
              go_ret
              refine ⟨rfl, ?_⟩
              rw [← HSE.out]
              exact Hid.out (MF.low_ (by assumption))

end Go.Proofs.Ytoaajblkbbfikaa
