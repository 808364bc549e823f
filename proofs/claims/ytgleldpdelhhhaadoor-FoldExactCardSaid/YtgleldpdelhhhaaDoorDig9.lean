/- The reference's numbers: what power, Fits and Small answer; conditions: the digits' cells are in memory. -/
import Derived.Test.YtgleldpdelhhhaaDoorDig8
namespace Go.Proofs.YtgleldpdelhhhaaDoor
open Go.RowKit Go.WideShapes Go.ChangeShapes
set_option linter.unusedVariables false
set_option maxRecDepth 100000

theorem ret_bN {a b : Bool} (h : a = b) : Ending.returned (.bool a) = Ending.returned (.bool b) := by rw [h]
set_option maxHeartbeats 4000000 in
theorem power_any (n : Nat) (hn : n ≤ 128) (w : World) :
    Calls Tryd.prog 57 #[.int .i64 n] w (Digs w (n + 1) (2 ^ n)) := by
  go_enter Tryd.func57, Tryd.ntmps57
  go_wp2_with fail
  go_loopw [3, 4] (fun d i wr => ∃ (j k c : Nat) (A : Option Addr) (ds : List Nat), i = .int .i64 j ∧ d = .slice A k c ∧ j ≤ n ∧ Dg wr A k ds ∧ DOk ds ∧ k ≤ j + 1 ∧ k ≤ c ∧ dval ds = 2 ^ j ∧ Below w.heap.size w wr) (fun _ i _ => n - (intOf i).toNat)
  case atStart => exact ⟨0, 1, 1, _, [1], rfl, rfl, by omega, Dg.own rfl (own_one w 1), dok_cons (by omega) DOk.nil, by omega, by omega, rfl, (Below.refl _ _).alloc (Nat.le_refl _) _⟩
  case round =>
    obtain ⟨j, k, c, A, ds, rfl, rfl, hj, hd, ok, hk, hc, hv, hb⟩ := hrel
    by_cases hjn : j < n
    · have HP := hide (plus_any hd hd ok ok (by omega) (by omega) (c := c) (c' := c))
      have HV := hide hv
      have HB := hide hb
      clear hd ok hv hb
      go_wp2_with (refine HP.out.mono ?_; rintro e w1 ⟨A1, k1, c1, ds1, rfl, hd1, ok1, hk1, hc1, hv1, hb1⟩; have HQ := hide (And.intro hd1 (And.intro ok1 (And.intro hk1 (And.intro hc1 (And.intro hv1 hb1))))); clear hd1 ok1 hk1 hc1 hv1 hb1)
      go_roundw
      case rel => exact ⟨j + 1, k1, c1, A1, ds1, by go_num, rfl, by omega, HQ.out.1, HQ.out.2.1, by have := HQ.out.2.2.1; omega, HQ.out.2.2.2.1, by rw [HQ.out.2.2.2.2.1, HV.out, Nat.pow_succ]; omega, HB.out.trans (HQ.out.2.2.2.2.2.mono HB.out.size)⟩
      case measure => simp [intOf]; omega
    · obtain rfl : j = n := by omega
      have HQ := hide (And.intro hd (And.intro ok (And.intro hk (And.intro hc (And.intro hv hb)))))
      clear hd ok hk hc hv hb
      go_wp2_with fail
      go_ret
      exact ⟨A, k, c, ds, rfl, HQ.out.1, HQ.out.2.1, HQ.out.2.2.1, HQ.out.2.2.2.1, HQ.out.2.2.2.2.1, HQ.out.2.2.2.2.2⟩

theorem fits_args {w wr : World} {g0 : Nat} {u v : Value} {t : TypeId} (h : Hid (NB w [(g0, t, #[u, v])] wr)) : wr.cell? ⟨g0, 0, none⟩ = some u ∧ wr.cell? ⟨g0, 1, none⟩ = some v :=
  ⟨(NB.at_ h (.head _)).cell 0, (NB.at_ h (.head _)).cell 1⟩

set_option maxHeartbeats 4000000 in
theorem ref_fits {w : World} {n c : Nat} {A : Option Addr} (x : Int) (h : Dg w A n (dgs x.natAbs)) (hn : n ≤ 1100) :
    Calls Tryd.prog 38 #[.agg #[.bool (decide (x < 0)), .slice A n c]] w fun e w' => e = .returned (.bool (decide (Fits x))) ∧ Below w.heap.size w w' := by
  obtain ⟨s, hs⟩ : ∃ s, s = decide (x < 0) := ⟨_, rfl⟩
  rw [← hs]
  have HB := NB.add NumT #[.bool s, .slice A n c] (NB.nil w)
  have HG := hide h
  have HS := hide hs
  clear h hs
  go_enter Tryd.func38, Tryd.ntmps38
  go_upto_region 1 with (fail)
  obtain ⟨W, hW⟩ : ∃ W : World, W = (w.alloc (.cells #[.bool s, .slice A n c] NumT)) := ⟨_, rfl⟩
  obtain ⟨g0, hg0⟩ : ∃ g, g = w.heap.size := ⟨_, rfl⟩
  rw [← hW] at HB ⊢
  rw [← hg0] at HB
  try rw [← hg0]
  have HBD := NB.drew HB
  have HPW := hide (show ∀ W, Calls Tryd.prog 57 #[.int .i64 127] W (Digs W (127 + 1) (2 ^ 127)) from fun W => power_any 127 (by omega) W)
  clear hW hg0
  go_region_held3 (fun w' => w'.cell? ⟨g0, 0, none⟩ = some (.bool s) ∧ w'.cell? ⟨g0, 1, none⟩ = some (.slice A n c))
    (first | exact fits_args (by assumption))
    (first
      | (go_at_call 57; (with_reducible refine (HPW.out _).mono ?_); rintro e wa ⟨A1, k1, cp1, ds1, rfl, hd1, ok1, hk1, hc1, hv1, hb1⟩; have hma := NB.next hb1 (by assumption); have hmo := more_any (HG.out.nbelow (w' := w) hma) hd1 (dgs_dok _) ok1 (by omega) (by omega) (c := c) (c' := cp1); rw [dgs_val, hv1] at hmo)
      | (go_at_call 56; (with_reducible refine hmo.mono ?_); rintro e wb ⟨rfl, rfl⟩))
  all_goals
    obtain ⟨z0, z1, y0, y1⟩ := two_cellsN (NB.at_ hma (.head _))
    rcases Nat.lt_trichotomy x.natAbs (2 ^ 127) with hc | hc | hc
    · have ho : ordN x.natAbs (2 ^ 127) = -1 := by unfold ordN; rw [if_pos hc]
      simp only [ho]
      go_wp2_with fail
      go_ret
      exact ⟨ret_bN (by rw [eq_comm, decide_eq_true_iff]; have := HS.out; unfold Fits; omega), hma.out.low⟩
    · have ho : ordN x.natAbs (2 ^ 127) = 0 := by unfold ordN; rw [hc, if_neg (by omega), if_pos rfl]
      simp only [ho]
      go_wp2_with fail
      go_ret
      exact ⟨ret_bN (by rw [HS.out, decide_eq_decide]; unfold Fits; omega), hma.out.low⟩
    · have ho : ordN x.natAbs (2 ^ 127) = 1 := by unfold ordN; rw [if_neg (by omega), if_neg (by omega)]
      simp only [ho]
      go_wp2_with fail
      go_ret
      exact ⟨ret_bN (by rw [eq_comm, decide_eq_false_iff_not]; unfold Fits; omega), hma.out.low⟩

set_option maxHeartbeats 4000000 in
theorem ref_small {w : World} {n c : Nat} {A : Option Addr} (x : Int) (h : Dg w A n (dgs x.natAbs)) (hn : n ≤ 1100) :
    Calls Tryd.prog 35 #[.agg #[.bool (decide (x < 0)), .slice A n c]] w fun e w' => e = .returned (.bool (decide (-9223372036854775808 ≤ x ∧ x < 9223372036854775808))) ∧ Below w.heap.size w w' := by
  obtain ⟨s, hs⟩ : ∃ s, s = decide (x < 0) := ⟨_, rfl⟩
  rw [← hs]
  have HB := NB.add NumT #[.bool s, .slice A n c] (NB.nil w)
  have HG := hide h
  have HS := hide hs
  clear h hs
  go_enter Tryd.func35, Tryd.ntmps35
  go_upto_region 1 with (fail)
  obtain ⟨W, hW⟩ : ∃ W : World, W = (w.alloc (.cells #[.bool s, .slice A n c] NumT)) := ⟨_, rfl⟩
  obtain ⟨g0, hg0⟩ : ∃ g, g = w.heap.size := ⟨_, rfl⟩
  rw [← hW] at HB ⊢
  rw [← hg0] at HB
  try rw [← hg0]
  have HBD := NB.drew HB
  have HPW := hide (show ∀ W, Calls Tryd.prog 57 #[.int .i64 63] W (Digs W (63 + 1) (2 ^ 63)) from fun W => power_any 63 (by omega) W)
  clear hW hg0
  go_region_held3 (fun w' => w'.cell? ⟨g0, 0, none⟩ = some (.bool s) ∧ w'.cell? ⟨g0, 1, none⟩ = some (.slice A n c))
    (first | exact fits_args (by assumption))
    (first
      | (go_at_call 57; (with_reducible refine (HPW.out _).mono ?_); rintro e wa ⟨A1, k1, cp1, ds1, rfl, hd1, ok1, hk1, hc1, hv1, hb1⟩; have hma := NB.next hb1 (by assumption); have hmo := more_any (HG.out.nbelow (w' := w) hma) hd1 (dgs_dok _) ok1 (by omega) (by omega) (c := c) (c' := cp1); rw [dgs_val, hv1] at hmo)
      | (go_at_call 56; (with_reducible refine hmo.mono ?_); rintro e wb ⟨rfl, rfl⟩))
  all_goals
    obtain ⟨z0, z1, y0, y1⟩ := two_cellsN (NB.at_ hma (.head _))
    rcases Nat.lt_trichotomy x.natAbs (2 ^ 63) with hc | hc | hc
    · have ho : ordN x.natAbs (2 ^ 63) = -1 := by unfold ordN; rw [if_pos hc]
      simp only [ho]
      go_wp2_with fail
      go_ret
      exact ⟨ret_bN (by rw [eq_comm, decide_eq_true_iff]; have := HS.out; skip; omega), hma.out.low⟩
    · have ho : ordN x.natAbs (2 ^ 63) = 0 := by unfold ordN; rw [hc, if_neg (by omega), if_pos rfl]
      simp only [ho]
      go_wp2_with fail
      go_ret
      exact ⟨ret_bN (by rw [HS.out, decide_eq_decide]; skip; omega), hma.out.low⟩
    · have ho : ordN x.natAbs (2 ^ 63) = 1 := by unfold ordN; rw [if_neg (by omega), if_neg (by omega)]
      simp only [ho]
      go_wp2_with fail
      go_ret
      exact ⟨ret_bN (by rw [eq_comm, decide_eq_false_iff_not]; skip; omega), hma.out.low⟩

end Go.Proofs.YtgleldpdelhhhaaDoor
