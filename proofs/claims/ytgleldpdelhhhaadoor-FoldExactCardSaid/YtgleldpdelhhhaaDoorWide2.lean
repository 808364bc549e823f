/- Package wide: signed, bit, times; conditions: none but that numbers are of 64 bits. -/
import Derived.Test.YtgleldpdelhhhaaDoorWide
namespace Go.Proofs.YtgleldpdelhhhaaDoor
open Go.RowKit Go.WideShapes Go.ChangeShapes
set_option linter.unusedVariables false
set_option maxRecDepth 100000

theorem ret_eq {v v' : Value} (h : v = v') : Ending.returned v = Ending.returned v' := by rw [h]
/-- What stands at the end of signed. -/
def signV (a b : Int) (below : Bool) : Value := if a = 0 ∧ b = 0 then .tuple #[wv 0 0, .int .i64 0] else if decide (9223372036854775808 ≤ a) = below then .tuple #[wv a b, .int .i64 0] else .tuple #[wv 0 0, .int .i64 10]
theorem signV_eq {n : Int} (below : Bool) (hn : Big n) : signV (hiW (if below = true then -n else n)) (loW (if below = true then -n else n)) below = ansW (if below = true then -n else n) := by
  have hz := signed_zero hn below
  have hf := signed_fits hn below
  generalize (if below = true then -n else n) = z at *
  unfold signV ansW
  by_cases h : hiW z = 0 ∧ loW z = 0
  · rw [if_pos h, if_pos (hz h.1 h.2), h.1, h.2]
  · rw [if_neg h]
    by_cases h2 : decide (9223372036854775808 ≤ hiW z) = below
    · rw [if_pos h2, if_pos ((hf h).2 h2)]
    · rw [if_neg h2, if_neg (fun e => h2 ((hf h).1 e))]
theorem nz_parts {a b : Int} (h : ¬ (a = 0 ∧ b = 0)) : (¬ a = 0) ∨ (a = 0 ∧ ¬ b = 0) := by omega
theorem signV_zero (s : Bool) : signV 0 0 s = .tuple #[wv 0 0, .int .i64 0] := rfl
theorem signV_yes {a b : Int} {s : Bool} (h : ¬ (a = 0 ∧ b = 0)) (h2 : decide (9223372036854775808 ≤ a) = s) : signV a b s = .tuple #[wv a b, .int .i64 0] := by unfold signV; rw [if_neg h, if_pos h2]
theorem signV_no {a b : Int} {s : Bool} (h : ¬ (a = 0 ∧ b = 0)) (h2 : ¬ decide (9223372036854775808 ≤ a) = s) : signV a b s = .tuple #[wv 0 0, .int .i64 10] := by unfold signV; rw [if_neg h, if_neg h2]

theorem signed_false (a b : Int) (ha : Word a) (w : World) :
    Calls Tryd.prog 65 #[wv a b, .bool false] w fun e w' => e = .returned (signV a b false) ∧ Below w.heap.size w w' := by
  have HW := hide ha
  clear ha
  by_cases h0 : a = 0 ∧ b = 0
  · obtain ⟨rfl, rfl⟩ := h0
    rw [signV_zero]
    go_enter Tryd.func65, Tryd.ntmps65
    go_wp2_with fail
    exact ret_wt (v := .int .i64 0) rfl rfl rfl rfl (blk_at1 _ _ _) ⟨rfl, below2 _ _ _⟩
  · have HN := hide h0
    rcases nz_parts h0 with h0 | ⟨rfl, h0⟩
    · skip
      obtain ⟨r, hr⟩ : ∃ r, r = decide (9223372036854775808 ≤ a) := ⟨_, rfl⟩
      have HB := hide (fun W => below_any a b HW.out W)
      rw [← hr] at HB
      have HR := hide hr
      clear hr
      cases r with
      | true =>
        rw [signV_no HN.out (by rw [← HR.out]; decide)]
        go_enter Tryd.func65, Tryd.ntmps65
        go_wp2_with fail
        refine (HB.out _).mono ?_
        rintro e w1 ⟨rfl, hb1⟩
        obtain ⟨B0, B1, hb, hz⟩ := behind2 hb1
        have H1 := hide B1
        have HBE := hide hb
        obtain ⟨c0, c1, _, _⟩ := two_cells B0
        obtain ⟨d0, d1, f0, f1⟩ := two_cells B1
        clear hb1 B0 B1 hb hz
        go_wp2_with fail
        have h := below_set2 HBE.out (Nat.le_succ _) (.int .u64 0) (.int .u64 0)
        exact ret_wt (v := .int .i64 10) rfl rfl rfl rfl (set_two H1.out _ _) ⟨rfl, h⟩
      | false =>
        rw [signV_yes HN.out (by rw [← HR.out])]
        go_enter Tryd.func65, Tryd.ntmps65
        go_wp2_with fail
        refine (HB.out _).mono ?_
        rintro e w1 ⟨rfl, hb1⟩
        obtain ⟨B0, B1, hb, hz⟩ := behind2 hb1
        have H1 := hide B1
        have HBE := hide hb
        obtain ⟨c0, c1, _, _⟩ := two_cells B0
        obtain ⟨d0, d1, f0, f1⟩ := two_cells B1
        clear hb1 B0 B1 hb hz
        go_wp2_with fail
        have h := below_set2 HBE.out (Nat.le_succ _) (.int .u64 a) (.int .u64 b)
        exact ret_wt (v := .int .i64 0) rfl rfl rfl rfl (set_two H1.out _ _) ⟨rfl, h⟩
    · skip
      obtain ⟨r, hr⟩ : ∃ r, r = decide (9223372036854775808 ≤ (0 : Int)) := ⟨_, rfl⟩
      have HB := hide (fun W => below_any (0 : Int) b HW.out W)
      rw [← hr] at HB
      have HR := hide hr
      clear hr
      cases r with
      | true =>
        rw [signV_no HN.out (by rw [← HR.out]; decide)]
        go_enter Tryd.func65, Tryd.ntmps65
        go_wp2_with fail
        refine (HB.out _).mono ?_
        rintro e w1 ⟨rfl, hb1⟩
        obtain ⟨B0, B1, hb, hz⟩ := behind2 hb1
        have H1 := hide B1
        have HBE := hide hb
        obtain ⟨c0, c1, _, _⟩ := two_cells B0
        obtain ⟨d0, d1, f0, f1⟩ := two_cells B1
        clear hb1 B0 B1 hb hz
        go_wp2_with fail
        have h := below_set2 HBE.out (Nat.le_succ _) (.int .u64 0) (.int .u64 0)
        exact ret_wt (v := .int .i64 10) rfl rfl rfl rfl (set_two H1.out _ _) ⟨rfl, h⟩
      | false =>
        rw [signV_yes HN.out (by rw [← HR.out])]
        go_enter Tryd.func65, Tryd.ntmps65
        go_wp2_with fail
        refine (HB.out _).mono ?_
        rintro e w1 ⟨rfl, hb1⟩
        obtain ⟨B0, B1, hb, hz⟩ := behind2 hb1
        have H1 := hide B1
        have HBE := hide hb
        obtain ⟨c0, c1, _, _⟩ := two_cells B0
        obtain ⟨d0, d1, f0, f1⟩ := two_cells B1
        clear hb1 B0 B1 hb hz
        go_wp2_with fail
        have h := below_set2 HBE.out (Nat.le_succ _) (.int .u64 (0 : Int)) (.int .u64 b)
        exact ret_wt (v := .int .i64 0) rfl rfl rfl rfl (set_two H1.out _ _) ⟨rfl, h⟩

theorem signed_true (a0 b0 a b : Int) (ha : Word a) (ht : ∀ W, Calls Tryd.prog 80 #[wv a0 b0] W fun e w' => e = .returned (wv a b) ∧ Below W.heap.size W w') (w : World) :
    Calls Tryd.prog 65 #[wv a0 b0, .bool true] w fun e w' => e = .returned (signV a b true) ∧ Below w.heap.size w w' := by
  have HW := hide ha
  have HT := hide ht
  clear ha ht
  by_cases h0 : a = 0 ∧ b = 0
  · obtain ⟨rfl, rfl⟩ := h0
    rw [signV_zero]
    go_enter Tryd.func65, Tryd.ntmps65
    go_wp2_with fail
    refine (HT.out _).mono ?_
    rintro e w1 ⟨rfl, hb1⟩
    obtain ⟨B0, B1, hb, hz⟩ := behind2 hb1
    have D1 := ((B1.far (p := ⟨w.heap.size, 0, none⟩) (by simp) (.int .u64 0)).far (p := ⟨w.heap.size, 1, none⟩) (by simp) (.int .u64 0))
    have HD1 := hide D1
    have HBE := hide (below_set2 hb (Nat.le_refl _) (.int .u64 0) (.int .u64 0))
    obtain ⟨c0, c1, f0, f1⟩ := two_cells B0
    obtain ⟨d0, d1, g0, g1⟩ := two_cells D1
    obtain ⟨d0', d1', g0', g1'⟩ := two_cells B1
    clear hb1 B0 B1 hb hz D1
    go_wp2_with fail
    have h := below_set2 HBE.out (Nat.le_succ _) (.int .u64 0) (.int .u64 0)
    exact ret_wt (v := .int .i64 0) rfl rfl rfl rfl (set_two HD1.out _ _) ⟨rfl, h⟩
  · have HN := hide h0
    rcases nz_parts h0 with h0 | ⟨rfl, h0⟩
    · skip
      obtain ⟨r, hr⟩ : ∃ r, r = decide (9223372036854775808 ≤ a) := ⟨_, rfl⟩
      have HB := hide (fun W => below_any a b HW.out W)
      rw [← hr] at HB
      have HR := hide hr
      clear hr
      cases r with
      | true =>
        rw [signV_yes HN.out (by rw [← HR.out])]
        go_enter Tryd.func65, Tryd.ntmps65
        go_wp2_with fail
        refine (HT.out _).mono ?_
        rintro e w1 ⟨rfl, hb1⟩
        obtain ⟨B0, B1, hb, hz⟩ := behind2 hb1
        have H0 := hide B0
        have H1 := hide B1
        have HZ := hide hz
        have HBE := hide hb
        obtain ⟨c0, c1, f0, f1⟩ := two_cells B0
        clear hb1 B0 B1 hb hz
        go_wp2_with fail
        refine (HB.out _).mono ?_
        rintro e w2 ⟨rfl, hb2⟩
        have D0 := (set_two H0.out (.int .u64 a) (.int .u64 b)).below hb2 (by simp; have := HZ.out; omega)
        have D1 := ((H1.out.far (p := ⟨w.heap.size, 0, none⟩) (by simp) (.int .u64 a)).far (p := ⟨w.heap.size, 1, none⟩) (by simp) (.int .u64 b)).below hb2 (by simp; have := HZ.out; omega)
        have hbe := (below_set2 HBE.out (Nat.le_refl _) (.int .u64 a) (.int .u64 b)).trans (hb2.mono (by simp; have := HZ.out; omega))
        have HD1 := hide D1
        have HBE2 := hide hbe
        obtain ⟨e0, e1, _, _⟩ := two_cells D0
        obtain ⟨d0, d1, g0, g1⟩ := two_cells D1
        clear D0 D1 hbe hb2 H0 H1 HBE c0 c1 f0 f1
        go_wp2_with fail
        have h := below_set2 HBE2.out (Nat.le_succ _) (.int .u64 a) (.int .u64 b)
        exact ret_wt (v := .int .i64 0) rfl rfl rfl rfl (set_two HD1.out _ _) ⟨rfl, h⟩
      | false =>
        rw [signV_no HN.out (by rw [← HR.out]; decide)]
        go_enter Tryd.func65, Tryd.ntmps65
        go_wp2_with fail
        refine (HT.out _).mono ?_
        rintro e w1 ⟨rfl, hb1⟩
        obtain ⟨B0, B1, hb, hz⟩ := behind2 hb1
        have H0 := hide B0
        have H1 := hide B1
        have HZ := hide hz
        have HBE := hide hb
        obtain ⟨c0, c1, f0, f1⟩ := two_cells B0
        clear hb1 B0 B1 hb hz
        go_wp2_with fail
        refine (HB.out _).mono ?_
        rintro e w2 ⟨rfl, hb2⟩
        have D0 := (set_two H0.out (.int .u64 a) (.int .u64 b)).below hb2 (by simp; have := HZ.out; omega)
        have D1 := ((H1.out.far (p := ⟨w.heap.size, 0, none⟩) (by simp) (.int .u64 a)).far (p := ⟨w.heap.size, 1, none⟩) (by simp) (.int .u64 b)).below hb2 (by simp; have := HZ.out; omega)
        have hbe := (below_set2 HBE.out (Nat.le_refl _) (.int .u64 a) (.int .u64 b)).trans (hb2.mono (by simp; have := HZ.out; omega))
        have HD1 := hide D1
        have HBE2 := hide hbe
        obtain ⟨e0, e1, _, _⟩ := two_cells D0
        obtain ⟨d0, d1, g0, g1⟩ := two_cells D1
        clear D0 D1 hbe hb2 H0 H1 HBE c0 c1 f0 f1
        go_wp2_with fail
        have h := below_set2 HBE2.out (Nat.le_succ _) (.int .u64 0) (.int .u64 0)
        exact ret_wt (v := .int .i64 10) rfl rfl rfl rfl (set_two HD1.out _ _) ⟨rfl, h⟩
    · skip
      obtain ⟨r, hr⟩ : ∃ r, r = decide (9223372036854775808 ≤ (0 : Int)) := ⟨_, rfl⟩
      have HB := hide (fun W => below_any (0 : Int) b HW.out W)
      rw [← hr] at HB
      have HR := hide hr
      clear hr
      cases r with
      | true =>
        rw [signV_yes HN.out (by rw [← HR.out])]
        go_enter Tryd.func65, Tryd.ntmps65
        go_wp2_with fail
        refine (HT.out _).mono ?_
        rintro e w1 ⟨rfl, hb1⟩
        obtain ⟨B0, B1, hb, hz⟩ := behind2 hb1
        have H0 := hide B0
        have H1 := hide B1
        have HZ := hide hz
        have HBE := hide hb
        obtain ⟨c0, c1, f0, f1⟩ := two_cells B0
        clear hb1 B0 B1 hb hz
        go_wp2_with fail
        refine (HB.out _).mono ?_
        rintro e w2 ⟨rfl, hb2⟩
        have D0 := (set_two H0.out (.int .u64 (0 : Int)) (.int .u64 b)).below hb2 (by simp; have := HZ.out; omega)
        have D1 := ((H1.out.far (p := ⟨w.heap.size, 0, none⟩) (by simp) (.int .u64 (0 : Int))).far (p := ⟨w.heap.size, 1, none⟩) (by simp) (.int .u64 b)).below hb2 (by simp; have := HZ.out; omega)
        have hbe := (below_set2 HBE.out (Nat.le_refl _) (.int .u64 (0 : Int)) (.int .u64 b)).trans (hb2.mono (by simp; have := HZ.out; omega))
        have HD1 := hide D1
        have HBE2 := hide hbe
        obtain ⟨e0, e1, _, _⟩ := two_cells D0
        obtain ⟨d0, d1, g0, g1⟩ := two_cells D1
        clear D0 D1 hbe hb2 H0 H1 HBE c0 c1 f0 f1
        go_wp2_with fail
        have h := below_set2 HBE2.out (Nat.le_succ _) (.int .u64 (0 : Int)) (.int .u64 b)
        exact ret_wt (v := .int .i64 0) rfl rfl rfl rfl (set_two HD1.out _ _) ⟨rfl, h⟩
      | false =>
        rw [signV_no HN.out (by rw [← HR.out]; decide)]
        go_enter Tryd.func65, Tryd.ntmps65
        go_wp2_with fail
        refine (HT.out _).mono ?_
        rintro e w1 ⟨rfl, hb1⟩
        obtain ⟨B0, B1, hb, hz⟩ := behind2 hb1
        have H0 := hide B0
        have H1 := hide B1
        have HZ := hide hz
        have HBE := hide hb
        obtain ⟨c0, c1, f0, f1⟩ := two_cells B0
        clear hb1 B0 B1 hb hz
        go_wp2_with fail
        refine (HB.out _).mono ?_
        rintro e w2 ⟨rfl, hb2⟩
        have D0 := (set_two H0.out (.int .u64 (0 : Int)) (.int .u64 b)).below hb2 (by simp; have := HZ.out; omega)
        have D1 := ((H1.out.far (p := ⟨w.heap.size, 0, none⟩) (by simp) (.int .u64 (0 : Int))).far (p := ⟨w.heap.size, 1, none⟩) (by simp) (.int .u64 b)).below hb2 (by simp; have := HZ.out; omega)
        have hbe := (below_set2 HBE.out (Nat.le_refl _) (.int .u64 (0 : Int)) (.int .u64 b)).trans (hb2.mono (by simp; have := HZ.out; omega))
        have HD1 := hide D1
        have HBE2 := hide hbe
        obtain ⟨e0, e1, _, _⟩ := two_cells D0
        obtain ⟨d0, d1, g0, g1⟩ := two_cells D1
        clear D0 D1 hbe hb2 H0 H1 HBE c0 c1 f0 f1
        go_wp2_with fail
        have h := below_set2 HBE2.out (Nat.le_succ _) (.int .u64 0) (.int .u64 0)
        exact ret_wt (v := .int .i64 10) rfl rfl rfl rfl (set_two HD1.out _ _) ⟨rfl, h⟩

/-- The sign put to a size. -/
theorem signed_any (n : Int) (below : Bool) (hn : Big n) (w : World) :
    Calls Tryd.prog 65 #[wv (hiW n) (loW n), .bool below] w fun e w' => e = .returned (ansW (if below = true then -n else n)) ∧ Below w.heap.size w w' := by
  rw [← signV_eq below hn]
  cases below with
  | false =>
    have h := signed_false (hiW n) (loW n) (hiW_word n) w
    simpa using h
  | true =>
    have h := signed_true (hiW n) (loW n) (hiW (-n)) (loW (-n)) (hiW_word _) (fun W => by
      have h := turned_any (hiW n) (loW n) (hiW_word n) (loW_word n) W
      rw [(neg_num n).1, (neg_num n).2] at h
      exact h) w
    simpa using h
end Go.Proofs.YtgleldpdelhhhaaDoor
