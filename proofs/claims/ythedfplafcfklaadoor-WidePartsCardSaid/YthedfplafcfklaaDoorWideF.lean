/- What WideParts answers; conditions: none but that the numbers are of 128 bits. -/
import Derived.Test.YthedfplafcfklaaDoorWideD
import Derived.Deep.DeepCutAuto
namespace Go.Proofs.YthedfplafcfklaaDoor
open Go.RowKit Go.WideShapes Go.ChangeShapes
set_option linter.unusedVariables false
set_option maxRecDepth 100000

theorem WB.dropAt {w W : World} {gs : List (Nat × Int × Int)} {p q : Nat × Int × Int} (h : Hid (WB w (p :: q :: gs) W)) : Hid (WB w (p :: gs) W) := WB.drop2 h
/-! ### quotient and rest -/
theorem emod_le' {a b : Int} (ha : 0 ≤ a) (hb : 0 < b) : a % b ≤ a := by
  have h1 := Int.mul_ediv_add_emod a b
  have h2 := Int.mul_nonneg (Int.le_of_lt hb) (Int.ediv_nonneg ha (Int.le_of_lt hb))
  omega
theorem quo_rem {x y : Int} (h : y ≠ 0) : quoW x y * y + remW x y = x := by
  have h1 := Int.mul_ediv_add_emod (absW x) (absW y)
  unfold quoW remW xorB
  unfold absW at *
  by_cases hx : x < 0 <;> by_cases hy : y < 0 <;> simp only [hx, hy, decide_true, decide_false, if_true, if_false, Bool.false_eq_true, bne_self_eq_false, Bool.true_bne, Bool.false_bne, Bool.not_true, Bool.not_false, Bool.bne_false, Bool.bne_true] at * <;>
    simp only [Int.neg_mul, Int.mul_neg, Int.mul_comm] at * <;> omega
theorem rem_lt {x y : Int} (h : y ≠ 0) : absW (remW x y) < absW y ∧ (remW x y = 0 ∨ (0 < remW x y ∧ 0 < x) ∨ (remW x y < 0 ∧ x < 0)) := by
  have hp := absW_pos h
  have h0 := Int.emod_nonneg (absW x) (Int.ne_of_gt hp)
  have h1 := Int.emod_lt_of_pos (absW x) hp
  have h2 : absW x % absW y ≤ absW x := emod_le' (by unfold absW; split <;> omega) hp
  unfold remW
  generalize absW x % absW y = r at *
  generalize absW y = Y at *
  by_cases hx : x < 0
  · rw [decide_eq_true hx, if_pos rfl]
    unfold absW at *
    refine ⟨by split <;> omega, by omega⟩
  · rw [decide_eq_false hx, if_neg (by decide)]
    unfold absW at *
    refine ⟨by split <;> omega, ?_⟩
    rw [if_neg hx] at h2
    omega
theorem rem_fits {x y : Int} (hy : Fits y) (h : y ≠ 0) : Fits (remW x y) := by
  have h1 := (rem_lt (x := x) h).1
  unfold Fits at *
  unfold absW at h1
  split at h1 <;> split at h1 <;> omega
theorem quo_over {x y : Int} (hx : Fits x) (hy : Fits y) (h : y ≠ 0) (hq : ¬ Fits (quoW x y)) : y = -1 ∧ remW x y = 0 ∧ x < 0 := by
  have hb := quo_big hx h
  have hp := absW_pos h
  have hA := absW_big hx
  have hqr := quo_rem (x := x) h
  have hrl := rem_lt (x := x) h
  have hle : absW x / absW y ≤ absW x := Int.ediv_le_self _ hA.1
  have hA2 : absW x ≤ 170141183460469231731687303715884105728 := by unfold Fits at hx; unfold absW; split <;> omega
  have hA3 : absW x / absW y = 170141183460469231731687303715884105728 ∧ xorB (decide (x < 0)) (decide (y < 0)) = false := by
    unfold quoW at hq
    unfold Fits at hq
    by_cases hs : xorB (decide (x < 0)) (decide (y < 0)) = true
    · rw [if_pos hs] at hq; have := hb.1; omega
    · rw [if_neg hs] at hq
      have hs' := Bool.not_eq_true _ ▸ hs
      have := hb.1
      exact ⟨by omega, by simpa using hs⟩
  have hY : absW y = 1 := by
    apply Decidable.byContradiction
    intro hne
    have h2 : absW x / absW y ≤ absW x / 2 := by
      apply Int.le_ediv_of_mul_le (by decide)
      have h3 := Int.ediv_mul_le (absW x) (Int.ne_of_gt hp)
      have h4 : absW x / absW y * 2 ≤ absW x / absW y * absW y := Int.mul_le_mul_of_nonneg_left (by omega) hb.1
      omega
    omega
  have hr0 : remW x y = 0 := by
    have := hrl.1
    rw [hY] at this
    unfold absW at this
    split at this <;> omega
  have hxx : absW x = 170141183460469231731687303715884105728 := by omega
  have hxneg : x < 0 := by unfold Fits at hx; unfold absW at hxx; split at hxx <;> omega
  refine ⟨?_, hr0, hxneg⟩
  have hyn : y < 0 := by
    have h5 := hA3.2
    unfold xorB at h5
    rw [decide_eq_true hxneg] at h5
    apply Decidable.byContradiction
    intro hyn
    rw [decide_eq_false hyn] at h5
    cases h5
  unfold absW at hY
  rw [if_pos hyn] at hY
  omega
theorem prod_fits {x y : Int} (hx : Fits x) (h : y ≠ 0) : Fits (quoW x y * y) := by
  have h1 := quo_rem (x := x) h
  have hp := absW_pos h
  have h0 := Int.emod_nonneg (absW x) (Int.ne_of_gt hp)
  have h2 : absW x % absW y ≤ absW x := emod_le' (by unfold absW; split <;> omega) hp
  have e : quoW x y * y = x - remW x y := by omega
  rw [e]
  unfold remW
  generalize absW x % absW y = r at *
  by_cases hxn : x < 0
  · rw [decide_eq_true hxn, if_pos rfl]
    unfold absW at h2
    rw [if_pos hxn] at h2
    unfold Fits at *
    omega
  · rw [decide_eq_false hxn, if_neg (by decide)]
    unfold absW at h2
    rw [if_neg hxn] at h2
    unfold Fits at *
    omega

set_option maxHeartbeats 4000000 in
theorem parts_zero (ah al : Int) (w : World) : Calls Tryd.prog 7 #[wv ah al, wv 0 0] w fun e w' => e = .returned (.bool true) ∧ Below w.heap.size w w' := by
  have H0 := hide (wb_new2 w ah al 0 0)
  obtain ⟨s, hs⟩ : ∃ s, s = w.heap.size := ⟨_, rfl⟩
  rw [← hs] at H0
  have HS := hide hs
  clear hs
  go_enter Tryd.func7, Tryd.ntmps7
  go_wp2_with fail
  rw [← HS.out]
  refine (awake01 _).mono ?_
  rintro e v1001 ⟨rfl, hb1001⟩
  have M1001 := WB.next hb1001 H0
  clear hb1001
  go_wp2_with fail
  refine (of_val 0 0 0 (by decide) (by decide) (by decide) _).mono ?_
  rintro e v1002 ⟨rfl, hb1002⟩
  have M1002 := WB.next hb1002 M1001
  clear hb1002
  have H1003 := WB.addz (x := 0) (y := 0) M1002
  obtain ⟨g5, hg5⟩ : ∃ g, g = v1002.heap.size := ⟨_, rfl⟩
  rw [← hg5] at H1003
  have HGg5 := hide hg5
  clear hg5
  go_upto_region 4 with (fail)
  rw [← HGg5.out]
  obtain ⟨W1003, hW1003⟩ : ∃ W : World, W = v1002.alloc (.cells #[.int .u64 0, .int .u64 0] 24) := ⟨_, rfl⟩
  rw [← hW1003] at H1003 ⊢
  clear hW1003
  obtain ⟨q1004a, q1004b, q1004c, q1004d⟩ := two_cells (WB.at_ H1003 (.tail _ (.tail _ (.head _))))
  obtain ⟨q1005a, q1005b, q1005c, q1005d⟩ := two_cells (WB.at_ H1003 (.tail _ (.head _)))
  go_wp2_with fail
  refine (quo_zero _ _ _).mono ?_
  rintro e v1006 ⟨rfl, hb1006⟩
  have M1006 := WB.next hb1006 H1003
  clear hb1006
  clear q1004a q1004b q1004c q1004d q1005a q1005b q1005c q1005d
  have H1007 := WB.addz (x := 0) (y := 0) M1006
  obtain ⟨g6, hg6⟩ : ∃ g, g = v1006.heap.size := ⟨_, rfl⟩
  rw [← hg6] at H1007
  have HGg6 := hide hg6
  clear hg6
  go_upto_region 5 with (fail)
  rw [← HGg6.out]
  obtain ⟨W1007, hW1007⟩ : ∃ W : World, W = v1006.alloc (.cells #[.int .u64 0, .int .u64 0] 24) := ⟨_, rfl⟩
  rw [← hW1007] at H1007 ⊢
  clear hW1007
  obtain ⟨q1008a, q1008b, q1008c, q1008d⟩ := two_cells (WB.at_ H1007 (.tail _ (.tail _ (.tail _ (.head _)))))
  obtain ⟨q1009a, q1009b, q1009c, q1009d⟩ := two_cells (WB.at_ H1007 (.tail _ (.tail _ (.head _))))
  go_wp2_with fail
  refine (rem_zero _ _ _).mono ?_
  rintro e v1010 ⟨rfl, hb1010⟩
  have M1010 := WB.next hb1010 H1007
  clear hb1010
  clear q1008a q1008b q1008c q1008d q1009a q1009b q1009c q1009d
  have H1011 := WB.addz (x := 0) (y := 0) M1010
  obtain ⟨g8, hg8⟩ : ∃ g, g = v1010.heap.size := ⟨_, rfl⟩
  rw [← hg8] at H1011
  have HGg8 := hide hg8
  clear hg8
  go_upto_region 6 with (fail)
  rw [← HGg8.out]
  obtain ⟨W1011, hW1011⟩ : ∃ W : World, W = v1010.alloc (.cells #[.int .u64 0, .int .u64 0] 24) := ⟨_, rfl⟩
  rw [← hW1011] at H1011 ⊢
  clear hW1011
  obtain ⟨q1012a, q1012b, q1012c, q1012d⟩ := two_cells (WB.at_ H1011 (.tail _ (.tail _ (.tail _ (.head _)))))
  obtain ⟨q1013a, q1013b, q1013c, q1013d⟩ := two_cells (WB.at_ H1011 (.tail _ (.tail _ (.head _))))
  go_wp2_with fail
  go_ret
  exact ⟨rfl, H1011.out.low⟩

set_option maxHeartbeats 4000000 in
theorem parts_over (ah al qh ql : Int) (HQ : Hid (∀ W, Calls Tryd.prog 14 #[wv ah al, wv 18446744073709551615 18446744073709551615] W fun e w' => e = .returned (.tuple #[wv qh ql, .int .i64 10]) ∧ Below W.heap.size W w')) (HR : Hid (∀ W, Calls Tryd.prog 15 #[wv ah al, wv 18446744073709551615 18446744073709551615] W fun e w' => e = .returned (.tuple #[wv 0 0, .int .i64 0]) ∧ Below W.heap.size W w'))
    (HC : Hid (∀ W, Calls Tryd.prog 20 #[wv ah al, wv 0 0] W fun e w' => e = .returned (.int .i64 (-1)) ∧ Below W.heap.size W w')) (w : World) : Calls Tryd.prog 7 #[wv ah al, wv 18446744073709551615 18446744073709551615] w fun e w' => e = .returned (.bool true) ∧ Below w.heap.size w w' := by
  have H0 := hide (wb_new2 w ah al 18446744073709551615 18446744073709551615)
  obtain ⟨s, hs⟩ : ∃ s, s = w.heap.size := ⟨_, rfl⟩
  rw [← hs] at H0
  have HS := hide hs
  clear hs
  go_enter Tryd.func7, Tryd.ntmps7
  go_wp2_with fail
  rw [← HS.out]
  refine (awake01 _).mono ?_
  rintro e v1014 ⟨rfl, hb1014⟩
  have M1014 := WB.next hb1014 H0
  clear hb1014
  go_wp2_with fail
  refine (of_val 0 0 0 (by decide) (by decide) (by decide) _).mono ?_
  rintro e v1015 ⟨rfl, hb1015⟩
  have M1015 := WB.next hb1015 M1014
  clear hb1015
  have H1016 := WB.addz (x := 0) (y := 0) M1015
  obtain ⟨g5, hg5⟩ : ∃ g, g = v1015.heap.size := ⟨_, rfl⟩
  rw [← hg5] at H1016
  have HGg5 := hide hg5
  clear hg5
  go_upto_region 4 with (fail)
  rw [← HGg5.out]
  obtain ⟨W1016, hW1016⟩ : ∃ W : World, W = v1015.alloc (.cells #[.int .u64 0, .int .u64 0] 24) := ⟨_, rfl⟩
  rw [← hW1016] at H1016 ⊢
  clear hW1016
  obtain ⟨q1017a, q1017b, q1017c, q1017d⟩ := two_cells (WB.at_ H1016 (.tail _ (.tail _ (.head _))))
  obtain ⟨q1018a, q1018b, q1018c, q1018d⟩ := two_cells (WB.at_ H1016 (.tail _ (.head _)))
  go_wp2_with fail
  refine (HQ.out _).mono ?_
  rintro e v1019 ⟨rfl, hb1019⟩
  have M1019 := WB.next hb1019 H1016
  clear hb1019
  clear q1017a q1017b q1017c q1017d q1018a q1018b q1018c q1018d
  have H1020 := WB.addz (x := qh) (y := ql) M1019
  obtain ⟨g6, hg6⟩ : ∃ g, g = v1019.heap.size := ⟨_, rfl⟩
  rw [← hg6] at H1020
  have HGg6 := hide hg6
  clear hg6
  go_upto_region 5 with (fail)
  rw [← HGg6.out]
  obtain ⟨W1020, hW1020⟩ : ∃ W : World, W = v1019.alloc (.cells #[.int .u64 qh, .int .u64 ql] 24) := ⟨_, rfl⟩
  rw [← hW1020] at H1020 ⊢
  clear hW1020
  obtain ⟨q1021a, q1021b, q1021c, q1021d⟩ := two_cells (WB.at_ H1020 (.tail _ (.tail _ (.tail _ (.head _)))))
  obtain ⟨q1022a, q1022b, q1022c, q1022d⟩ := two_cells (WB.at_ H1020 (.tail _ (.tail _ (.head _))))
  go_wp2_with fail
  refine (HR.out _).mono ?_
  rintro e v1023 ⟨rfl, hb1023⟩
  have M1023 := WB.next hb1023 H1020
  clear hb1023
  clear q1021a q1021b q1021c q1021d q1022a q1022b q1022c q1022d
  have H1024 := WB.addz (x := 0) (y := 0) M1023
  obtain ⟨g8, hg8⟩ : ∃ g, g = v1023.heap.size := ⟨_, rfl⟩
  rw [← hg8] at H1024
  have HGg8 := hide hg8
  clear hg8
  go_upto_region 6 with (fail)
  rw [← HGg8.out]
  obtain ⟨W1024, hW1024⟩ : ∃ W : World, W = v1023.alloc (.cells #[.int .u64 0, .int .u64 0] 24) := ⟨_, rfl⟩
  rw [← hW1024] at H1024 ⊢
  clear hW1024
  obtain ⟨q1025a, q1025b, q1025c, q1025d⟩ := two_cells (WB.at_ H1024 (.tail _ (.tail _ (.tail _ (.head _)))))
  obtain ⟨q1026a, q1026b, q1026c, q1026d⟩ := two_cells (WB.at_ H1024 (.tail _ (.tail _ (.head _))))
  go_wp2_with fail
  clear q1025a q1025b q1025c q1025d q1026a q1026b q1026c q1026d
  have H1027 := WB.drew H1024
  refine wp_region_tail 99 (fun w' => w'.cell? ⟨s + 1, 0, none⟩ = some (.int .u64 18446744073709551615) ∧ w'.cell? ⟨s + 1, 1, none⟩ = some (.int .u64 18446744073709551615) ∧ w'.cell? ⟨g8, 0, none⟩ = some (.int .u64 0) ∧ w'.cell? ⟨g8, 1, none⟩ = some (.int .u64 0) ∧ w'.cell? ⟨g5, 0, none⟩ = some (.int .u64 0) ∧ w'.cell? ⟨g5, 1, none⟩ = some (.int .u64 0) ∧ w'.cell? ⟨s, 0, none⟩ = some (.int .u64 ah) ∧ w'.cell? ⟨s, 1, none⟩ = some (.int .u64 al)) (by kernel_rfl) ⟨(WB.at_ H1027 (.tail _ (.tail _ (.tail _ (.head _))))).cell 0, (WB.at_ H1027 (.tail _ (.tail _ (.tail _ (.head _))))).cell 1, (WB.at_ H1027 (.head _)).cell 0, (WB.at_ H1027 (.head _)).cell 1, (WB.at_ H1027 (.tail _ (.tail _ (.head _)))).cell 0, (WB.at_ H1027 (.tail _ (.tail _ (.head _)))).cell 1, (WB.at_ H1027 (.tail _ (.tail _ (.tail _ (.tail _ (.head _)))))).cell 0, (WB.at_ H1027 (.tail _ (.tail _ (.tail _ (.tail _ (.head _)))))).cell 1⟩ (fun hHeld => ?_)
  clear hHeld
  try simp only [Act.put, List.setIfInBounds_toArray, List.set_cons_zero, List.set_cons_succ]
  refine' wpTail_take (i := 0) (oi := _) ?hiu1028 ?hsu1028 ?hfu1028 ?hru1028 ?hzu1028 ?hQu1028 (v := _) (Or.inl ⟨?hwu1028, ?hyu1028⟩) (⟨(WB.at_ H1027 (.tail _ (.tail _ (.tail _ (.head _))))).cell 0, (WB.at_ H1027 (.tail _ (.tail _ (.tail _ (.head _))))).cell 1, (WB.at_ H1027 (.head _)).cell 0, (WB.at_ H1027 (.head _)).cell 1, (WB.at_ H1027 (.tail _ (.tail _ (.head _)))).cell 0, (WB.at_ H1027 (.tail _ (.tail _ (.head _)))).cell 1, (WB.at_ H1027 (.tail _ (.tail _ (.tail _ (.tail _ (.head _)))))).cell 0, (WB.at_ H1027 (.tail _ (.tail _ (.tail _ (.tail _ (.head _)))))).cell 1⟩) ?_
  case hiu1028 => (simp only [List.getElem?_toArray, List.getElem?_cons_zero]; exact rfl)
  case hsu1028 => kernel_rfl
  case hfu1028 => kernel_rfl
  case hru1028 => kernel_rfl
  case hzu1028 => kernel_rfl
  case hQu1028 => exact fun _ _ _ h => h
  case hwu1028 => rfl
  case hyu1028 => (intro w hSw; (try dsimp only at hSw); go_simp; (try with_reducible rfl))
  try simp only [Act.put, List.setIfInBounds_toArray, List.set_cons_zero, List.set_cons_succ]
  refine' wpTail_one (i := 1) (o := _) (by kernel_rfl) ?hou1030 ?hwu1030 (fun K hK => ?_)
  case hou1030 => (simp only [List.getElem?_toArray, List.getElem?_cons_succ, List.getElem?_cons_zero]; exact rfl)
  case hwu1030 => rfl
  go_simp
  (with_reducible refine (of_val (-1) 18446744073709551615 18446744073709551615 (by decide) (by decide) (by decide) _).mono ?_)
  rintro e v1029 ⟨rfl, hb1029⟩
  have M1029 := WB.next hb1029 H1027
  refine hK.out _ _ (fun _ => ⟨(WB.at_ M1029 (.tail _ (.tail _ (.tail _ (.head _))))).cell 0, (WB.at_ M1029 (.tail _ (.tail _ (.tail _ (.head _))))).cell 1, (WB.at_ M1029 (.head _)).cell 0, (WB.at_ M1029 (.head _)).cell 1, (WB.at_ M1029 (.tail _ (.tail _ (.head _)))).cell 0, (WB.at_ M1029 (.tail _ (.tail _ (.head _)))).cell 1, (WB.at_ M1029 (.tail _ (.tail _ (.tail _ (.tail _ (.head _)))))).cell 0, (WB.at_ M1029 (.tail _ (.tail _ (.tail _ (.tail _ (.head _)))))).cell 1⟩) ?_
  clear hK K hb1029
  try simp only [Act.put, List.setIfInBounds_toArray, List.set_cons_zero, List.set_cons_succ]
  refine' wpTail_take (i := 2) (oi := _) ?hiu1031 ?hsu1031 ?hfu1031 ?hru1031 ?hzu1031 ?hQu1031 (v := _) (Or.inl ⟨?hwu1031, ?hyu1031⟩) (⟨(WB.at_ M1029 (.tail _ (.tail _ (.tail _ (.head _))))).cell 0, (WB.at_ M1029 (.tail _ (.tail _ (.tail _ (.head _))))).cell 1, (WB.at_ M1029 (.head _)).cell 0, (WB.at_ M1029 (.head _)).cell 1, (WB.at_ M1029 (.tail _ (.tail _ (.head _)))).cell 0, (WB.at_ M1029 (.tail _ (.tail _ (.head _)))).cell 1, (WB.at_ M1029 (.tail _ (.tail _ (.tail _ (.tail _ (.head _)))))).cell 0, (WB.at_ M1029 (.tail _ (.tail _ (.tail _ (.tail _ (.head _)))))).cell 1⟩) ?_
  case hiu1031 => (simp only [List.getElem?_toArray, List.getElem?_cons_succ, List.getElem?_cons_zero]; exact rfl)
  case hsu1031 => kernel_rfl
  case hfu1031 => kernel_rfl
  case hru1031 => kernel_rfl
  case hzu1031 => kernel_rfl
  case hQu1031 => exact fun _ _ _ h => h
  case hwu1031 => rfl
  case hyu1031 => (intro w hSw; (try dsimp only at hSw); go_simp; (try with_reducible rfl))
  try simp only [Act.put, List.setIfInBounds_toArray, List.set_cons_zero, List.set_cons_succ]
  refine' wpTail_take (i := 3) (oi := _) ?hiu1032 ?hsu1032 ?hfu1032 ?hru1032 ?hzu1032 ?hQu1032 (v := _) (Or.inl ⟨?hwu1032, ?hyu1032⟩) (⟨(WB.at_ M1029 (.tail _ (.tail _ (.tail _ (.head _))))).cell 0, (WB.at_ M1029 (.tail _ (.tail _ (.tail _ (.head _))))).cell 1, (WB.at_ M1029 (.head _)).cell 0, (WB.at_ M1029 (.head _)).cell 1, (WB.at_ M1029 (.tail _ (.tail _ (.head _)))).cell 0, (WB.at_ M1029 (.tail _ (.tail _ (.head _)))).cell 1, (WB.at_ M1029 (.tail _ (.tail _ (.tail _ (.tail _ (.head _)))))).cell 0, (WB.at_ M1029 (.tail _ (.tail _ (.tail _ (.tail _ (.head _)))))).cell 1⟩) ?_
  case hiu1032 => (simp only [List.getElem?_toArray, List.getElem?_cons_succ, List.getElem?_cons_zero]; exact rfl)
  case hsu1032 => kernel_rfl
  case hfu1032 => kernel_rfl
  case hru1032 => kernel_rfl
  case hzu1032 => kernel_rfl
  case hQu1032 => exact fun _ _ _ h => h
  case hwu1032 => rfl
  case hyu1032 => (intro w hSw; (try dsimp only at hSw); go_simp; (try with_reducible rfl))
  try simp only [Act.put, List.setIfInBounds_toArray, List.set_cons_zero, List.set_cons_succ]
  refine' wpTail_take (i := 4) (oi := _) ?hiu1033 ?hsu1033 ?hfu1033 ?hru1033 ?hzu1033 ?hQu1033 (v := _) (Or.inl ⟨?hwu1033, ?hyu1033⟩) (⟨(WB.at_ M1029 (.tail _ (.tail _ (.tail _ (.head _))))).cell 0, (WB.at_ M1029 (.tail _ (.tail _ (.tail _ (.head _))))).cell 1, (WB.at_ M1029 (.head _)).cell 0, (WB.at_ M1029 (.head _)).cell 1, (WB.at_ M1029 (.tail _ (.tail _ (.head _)))).cell 0, (WB.at_ M1029 (.tail _ (.tail _ (.head _)))).cell 1, (WB.at_ M1029 (.tail _ (.tail _ (.tail _ (.tail _ (.head _)))))).cell 0, (WB.at_ M1029 (.tail _ (.tail _ (.tail _ (.tail _ (.head _)))))).cell 1⟩) ?_
  case hiu1033 => (simp only [List.getElem?_toArray, List.getElem?_cons_succ, List.getElem?_cons_zero]; exact rfl)
  case hsu1033 => kernel_rfl
  case hfu1033 => kernel_rfl
  case hru1033 => kernel_rfl
  case hzu1033 => kernel_rfl
  case hQu1033 => exact fun _ _ _ h => h
  case hwu1033 => rfl
  case hyu1033 => (intro w hSw; (try dsimp only at hSw); go_simp; (try with_reducible rfl))
  try simp only [Act.put, List.setIfInBounds_toArray, List.set_cons_zero, List.set_cons_succ]
  refine' wpTail_take (i := 5) (oi := _) ?hiu1034 ?hsu1034 ?hfu1034 ?hru1034 ?hzu1034 ?hQu1034 (v := _) (Or.inl ⟨?hwu1034, ?hyu1034⟩) (⟨(WB.at_ M1029 (.tail _ (.tail _ (.tail _ (.head _))))).cell 0, (WB.at_ M1029 (.tail _ (.tail _ (.tail _ (.head _))))).cell 1, (WB.at_ M1029 (.head _)).cell 0, (WB.at_ M1029 (.head _)).cell 1, (WB.at_ M1029 (.tail _ (.tail _ (.head _)))).cell 0, (WB.at_ M1029 (.tail _ (.tail _ (.head _)))).cell 1, (WB.at_ M1029 (.tail _ (.tail _ (.tail _ (.tail _ (.head _)))))).cell 0, (WB.at_ M1029 (.tail _ (.tail _ (.tail _ (.tail _ (.head _)))))).cell 1⟩) ?_
  case hiu1034 => (simp only [List.getElem?_toArray, List.getElem?_cons_succ, List.getElem?_cons_zero]; exact rfl)
  case hsu1034 => kernel_rfl
  case hfu1034 => kernel_rfl
  case hru1034 => kernel_rfl
  case hzu1034 => kernel_rfl
  case hQu1034 => exact fun _ _ _ h => h
  case hwu1034 => rfl
  case hyu1034 => (intro w hSw; (try dsimp only at hSw); go_simp; (try with_reducible rfl))
  try simp only [Act.put, List.setIfInBounds_toArray, List.set_cons_zero, List.set_cons_succ]
  refine' wpTail_take (i := 6) (oi := _) ?hiu1035 ?hsu1035 ?hfu1035 ?hru1035 ?hzu1035 ?hQu1035 (v := _) (Or.inl ⟨?hwu1035, ?hyu1035⟩) (⟨(WB.at_ M1029 (.tail _ (.tail _ (.tail _ (.head _))))).cell 0, (WB.at_ M1029 (.tail _ (.tail _ (.tail _ (.head _))))).cell 1, (WB.at_ M1029 (.head _)).cell 0, (WB.at_ M1029 (.head _)).cell 1, (WB.at_ M1029 (.tail _ (.tail _ (.head _)))).cell 0, (WB.at_ M1029 (.tail _ (.tail _ (.head _)))).cell 1, (WB.at_ M1029 (.tail _ (.tail _ (.tail _ (.tail _ (.head _)))))).cell 0, (WB.at_ M1029 (.tail _ (.tail _ (.tail _ (.tail _ (.head _)))))).cell 1⟩) ?_
  case hiu1035 => (simp only [List.getElem?_toArray, List.getElem?_cons_succ, List.getElem?_cons_zero]; exact rfl)
  case hsu1035 => kernel_rfl
  case hfu1035 => kernel_rfl
  case hru1035 => kernel_rfl
  case hzu1035 => kernel_rfl
  case hQu1035 => exact fun _ _ _ h => h
  case hwu1035 => rfl
  case hyu1035 => (intro w hSw; (try dsimp only at hSw); go_simp; (try with_reducible rfl))
  try simp only [Act.put, List.setIfInBounds_toArray, List.set_cons_zero, List.set_cons_succ]
  refine' wpTail_take (i := 7) (oi := _) ?hiu1036 ?hsu1036 ?hfu1036 ?hru1036 ?hzu1036 ?hQu1036 (v := _) (Or.inl ⟨?hwu1036, ?hyu1036⟩) (⟨(WB.at_ M1029 (.tail _ (.tail _ (.tail _ (.head _))))).cell 0, (WB.at_ M1029 (.tail _ (.tail _ (.tail _ (.head _))))).cell 1, (WB.at_ M1029 (.head _)).cell 0, (WB.at_ M1029 (.head _)).cell 1, (WB.at_ M1029 (.tail _ (.tail _ (.head _)))).cell 0, (WB.at_ M1029 (.tail _ (.tail _ (.head _)))).cell 1, (WB.at_ M1029 (.tail _ (.tail _ (.tail _ (.tail _ (.head _)))))).cell 0, (WB.at_ M1029 (.tail _ (.tail _ (.tail _ (.tail _ (.head _)))))).cell 1⟩) ?_
  case hiu1036 => (simp only [List.getElem?_toArray, List.getElem?_cons_succ, List.getElem?_cons_zero]; exact rfl)
  case hsu1036 => kernel_rfl
  case hfu1036 => kernel_rfl
  case hru1036 => kernel_rfl
  case hzu1036 => kernel_rfl
  case hQu1036 => exact fun _ _ _ h => h
  case hwu1036 => rfl
  case hyu1036 => (intro w hSw; (try dsimp only at hSw); go_simp; (try with_reducible rfl))
  try simp only [Act.put, List.setIfInBounds_toArray, List.set_cons_zero, List.set_cons_succ]
  refine' wpTail_take (i := 8) (oi := _) ?hiu1037 ?hsu1037 ?hfu1037 ?hru1037 ?hzu1037 ?hQu1037 (v := _) (Or.inl ⟨?hwu1037, ?hyu1037⟩) (⟨(WB.at_ M1029 (.tail _ (.tail _ (.tail _ (.head _))))).cell 0, (WB.at_ M1029 (.tail _ (.tail _ (.tail _ (.head _))))).cell 1, (WB.at_ M1029 (.head _)).cell 0, (WB.at_ M1029 (.head _)).cell 1, (WB.at_ M1029 (.tail _ (.tail _ (.head _)))).cell 0, (WB.at_ M1029 (.tail _ (.tail _ (.head _)))).cell 1, (WB.at_ M1029 (.tail _ (.tail _ (.tail _ (.tail _ (.head _)))))).cell 0, (WB.at_ M1029 (.tail _ (.tail _ (.tail _ (.tail _ (.head _)))))).cell 1⟩) ?_
  case hiu1037 => (simp only [List.getElem?_toArray, List.getElem?_cons_succ, List.getElem?_cons_zero]; exact rfl)
  case hsu1037 => kernel_rfl
  case hfu1037 => kernel_rfl
  case hru1037 => kernel_rfl
  case hzu1037 => kernel_rfl
  case hQu1037 => exact fun _ _ _ h => h
  case hwu1037 => rfl
  case hyu1037 => (intro w hSw; (try dsimp only at hSw); go_simp; (try with_reducible rfl))
  try simp only [Act.put, List.setIfInBounds_toArray, List.set_cons_zero, List.set_cons_succ]
  refine' wpTail_take (i := 9) (oi := _) ?hiu1038 ?hsu1038 ?hfu1038 ?hru1038 ?hzu1038 ?hQu1038 (v := _) (Or.inl ⟨?hwu1038, ?hyu1038⟩) (⟨(WB.at_ M1029 (.tail _ (.tail _ (.tail _ (.head _))))).cell 0, (WB.at_ M1029 (.tail _ (.tail _ (.tail _ (.head _))))).cell 1, (WB.at_ M1029 (.head _)).cell 0, (WB.at_ M1029 (.head _)).cell 1, (WB.at_ M1029 (.tail _ (.tail _ (.head _)))).cell 0, (WB.at_ M1029 (.tail _ (.tail _ (.head _)))).cell 1, (WB.at_ M1029 (.tail _ (.tail _ (.tail _ (.tail _ (.head _)))))).cell 0, (WB.at_ M1029 (.tail _ (.tail _ (.tail _ (.tail _ (.head _)))))).cell 1⟩) ?_
  case hiu1038 => (simp only [List.getElem?_toArray, List.getElem?_cons_succ, List.getElem?_cons_zero]; exact rfl)
  case hsu1038 => kernel_rfl
  case hfu1038 => kernel_rfl
  case hru1038 => kernel_rfl
  case hzu1038 => kernel_rfl
  case hQu1038 => exact fun _ _ _ h => h
  case hwu1038 => rfl
  case hyu1038 => (intro w hSw; (try dsimp only at hSw); go_simp; (try with_reducible rfl))
  try simp only [Act.put, List.setIfInBounds_toArray, List.set_cons_zero, List.set_cons_succ]
  refine' wpTail_take (i := 10) (oi := _) ?hiu1039 ?hsu1039 ?hfu1039 ?hru1039 ?hzu1039 ?hQu1039 (v := _) (Or.inl ⟨?hwu1039, ?hyu1039⟩) (⟨(WB.at_ M1029 (.tail _ (.tail _ (.tail _ (.head _))))).cell 0, (WB.at_ M1029 (.tail _ (.tail _ (.tail _ (.head _))))).cell 1, (WB.at_ M1029 (.head _)).cell 0, (WB.at_ M1029 (.head _)).cell 1, (WB.at_ M1029 (.tail _ (.tail _ (.head _)))).cell 0, (WB.at_ M1029 (.tail _ (.tail _ (.head _)))).cell 1, (WB.at_ M1029 (.tail _ (.tail _ (.tail _ (.tail _ (.head _)))))).cell 0, (WB.at_ M1029 (.tail _ (.tail _ (.tail _ (.tail _ (.head _)))))).cell 1⟩) ?_
  case hiu1039 => (simp only [List.getElem?_toArray, List.getElem?_cons_succ, List.getElem?_cons_zero]; exact rfl)
  case hsu1039 => kernel_rfl
  case hfu1039 => kernel_rfl
  case hru1039 => kernel_rfl
  case hzu1039 => kernel_rfl
  case hQu1039 => exact fun _ _ _ h => h
  case hwu1039 => rfl
  case hyu1039 => (intro w hSw; (try dsimp only at hSw); go_simp; (try with_reducible rfl))
  try simp only [Act.put, List.setIfInBounds_toArray, List.set_cons_zero, List.set_cons_succ]
  refine' wpTail_one (i := 11) (o := _) (by kernel_rfl) ?hou1041 ?hwu1041 (fun K hK => ?_)
  case hou1041 => (simp only [List.getElem?_toArray, List.getElem?_cons_succ, List.getElem?_cons_zero]; exact rfl)
  case hwu1041 => rfl
  go_simp
  (with_reducible refine (HC.out _).mono ?_)
  rintro e v1040 ⟨rfl, hb1040⟩
  have M1040 := WB.next hb1040 M1029
  refine hK.out _ _ (fun _ => ⟨(WB.at_ M1040 (.tail _ (.tail _ (.tail _ (.head _))))).cell 0, (WB.at_ M1040 (.tail _ (.tail _ (.tail _ (.head _))))).cell 1, (WB.at_ M1040 (.head _)).cell 0, (WB.at_ M1040 (.head _)).cell 1, (WB.at_ M1040 (.tail _ (.tail _ (.head _)))).cell 0, (WB.at_ M1040 (.tail _ (.tail _ (.head _)))).cell 1, (WB.at_ M1040 (.tail _ (.tail _ (.tail _ (.tail _ (.head _)))))).cell 0, (WB.at_ M1040 (.tail _ (.tail _ (.tail _ (.tail _ (.head _)))))).cell 1⟩) ?_
  clear hK K hb1040
  try simp only [Act.put, List.setIfInBounds_toArray, List.set_cons_zero, List.set_cons_succ]
  refine' wpTail_take (i := 12) (oi := _) ?hiu1042 ?hsu1042 ?hfu1042 ?hru1042 ?hzu1042 ?hQu1042 (v := _) (Or.inl ⟨?hwu1042, ?hyu1042⟩) (⟨(WB.at_ M1040 (.tail _ (.tail _ (.tail _ (.head _))))).cell 0, (WB.at_ M1040 (.tail _ (.tail _ (.tail _ (.head _))))).cell 1, (WB.at_ M1040 (.head _)).cell 0, (WB.at_ M1040 (.head _)).cell 1, (WB.at_ M1040 (.tail _ (.tail _ (.head _)))).cell 0, (WB.at_ M1040 (.tail _ (.tail _ (.head _)))).cell 1, (WB.at_ M1040 (.tail _ (.tail _ (.tail _ (.tail _ (.head _)))))).cell 0, (WB.at_ M1040 (.tail _ (.tail _ (.tail _ (.tail _ (.head _)))))).cell 1⟩) ?_
  case hiu1042 => (simp only [List.getElem?_toArray, List.getElem?_cons_succ, List.getElem?_cons_zero]; exact rfl)
  case hsu1042 => kernel_rfl
  case hfu1042 => kernel_rfl
  case hru1042 => kernel_rfl
  case hzu1042 => kernel_rfl
  case hQu1042 => exact fun _ _ _ h => h
  case hwu1042 => rfl
  case hyu1042 => (intro w hSw; (try dsimp only at hSw); go_simp; (try with_reducible rfl))
  try simp only [Act.put, List.setIfInBounds_toArray, List.set_cons_zero, List.set_cons_succ]
  refine' wpTail_take (i := 13) (oi := _) ?hiu1043 ?hsu1043 ?hfu1043 ?hru1043 ?hzu1043 ?hQu1043 (v := _) (Or.inl ⟨?hwu1043, ?hyu1043⟩) (⟨(WB.at_ M1040 (.tail _ (.tail _ (.tail _ (.head _))))).cell 0, (WB.at_ M1040 (.tail _ (.tail _ (.tail _ (.head _))))).cell 1, (WB.at_ M1040 (.head _)).cell 0, (WB.at_ M1040 (.head _)).cell 1, (WB.at_ M1040 (.tail _ (.tail _ (.head _)))).cell 0, (WB.at_ M1040 (.tail _ (.tail _ (.head _)))).cell 1, (WB.at_ M1040 (.tail _ (.tail _ (.tail _ (.tail _ (.head _)))))).cell 0, (WB.at_ M1040 (.tail _ (.tail _ (.tail _ (.tail _ (.head _)))))).cell 1⟩) ?_
  case hiu1043 => (simp only [List.getElem?_toArray, List.getElem?_cons_succ, List.getElem?_cons_zero]; exact rfl)
  case hsu1043 => kernel_rfl
  case hfu1043 => kernel_rfl
  case hru1043 => kernel_rfl
  case hzu1043 => kernel_rfl
  case hQu1043 => exact fun _ _ _ h => h
  case hwu1043 => rfl
  case hyu1043 => (intro w hSw; (try dsimp only at hSw); go_simp; (try with_reducible rfl))
  try simp only [Act.put, List.setIfInBounds_toArray, List.set_cons_zero, List.set_cons_succ]
  refine' wpTail_take (i := 14) (oi := _) ?hiu1044 ?hsu1044 ?hfu1044 ?hru1044 ?hzu1044 ?hQu1044 (v := _) (Or.inl ⟨?hwu1044, ?hyu1044⟩) (⟨(WB.at_ M1040 (.tail _ (.tail _ (.tail _ (.head _))))).cell 0, (WB.at_ M1040 (.tail _ (.tail _ (.tail _ (.head _))))).cell 1, (WB.at_ M1040 (.head _)).cell 0, (WB.at_ M1040 (.head _)).cell 1, (WB.at_ M1040 (.tail _ (.tail _ (.head _)))).cell 0, (WB.at_ M1040 (.tail _ (.tail _ (.head _)))).cell 1, (WB.at_ M1040 (.tail _ (.tail _ (.tail _ (.tail _ (.head _)))))).cell 0, (WB.at_ M1040 (.tail _ (.tail _ (.tail _ (.tail _ (.head _)))))).cell 1⟩) ?_
  case hiu1044 => (simp only [List.getElem?_toArray, List.getElem?_cons_succ, List.getElem?_cons_zero]; exact rfl)
  case hsu1044 => kernel_rfl
  case hfu1044 => kernel_rfl
  case hru1044 => kernel_rfl
  case hzu1044 => kernel_rfl
  case hQu1044 => exact fun _ _ _ h => h
  case hwu1044 => rfl
  case hyu1044 => (intro w hSw; (try dsimp only at hSw); go_simp; (try with_reducible rfl))
  try simp only [Act.put, List.setIfInBounds_toArray, List.set_cons_zero, List.set_cons_succ]
  refine wpTail_done (by kernel_rfl) ?_ _
  go_wp2_with fail
  go_ret
  exact ⟨rfl, M1040.out.low⟩

set_option maxHeartbeats 8000000 in
theorem parts_walk (ah al bh bl qh ql rh rl ph pl nh nl mh ml cr ca cb : Int) (hnz : ¬ (bh = 0 ∧ bl = 0))
    (HQ : Hid (∀ W, Calls Tryd.prog 14 #[wv ah al, wv bh bl] W fun e w' => e = .returned (.tuple #[wv qh ql, .int .i64 0]) ∧ Below W.heap.size W w')) (HR : Hid (∀ W, Calls Tryd.prog 15 #[wv ah al, wv bh bl] W fun e w' => e = .returned (.tuple #[wv rh rl, .int .i64 0]) ∧ Below W.heap.size W w'))
    (HP : Hid (∀ W, Calls Tryd.prog 12 #[wv qh ql, wv bh bl] W fun e w' => e = .returned (.tuple #[wv ph pl, .int .i64 0]) ∧ Below W.heap.size W w')) (HA : Hid (∀ W, Calls Tryd.prog 10 #[wv ph pl, wv rh rl] W fun e w' => e = .returned (.tuple #[wv ah al, .int .i64 0]) ∧ Below W.heap.size W w'))
    (HCR : Hid (∀ W, Calls Tryd.prog 20 #[wv rh rl, wv 0 0] W fun e w' => e = .returned (.int .i64 cr) ∧ Below W.heap.size W w')) (HCA : Hid (∀ W, Calls Tryd.prog 20 #[wv ah al, wv 0 0] W fun e w' => e = .returned (.int .i64 ca) ∧ Below W.heap.size W w')) (HCB : Hid (∀ W, Calls Tryd.prog 20 #[wv bh bl, wv 0 0] W fun e w' => e = .returned (.int .i64 cb) ∧ Below W.heap.size W w'))
    (hr : Hid ((rh = 0 ∧ rl = 0 ∧ cr = 0) ∨ (¬ (rh = 0 ∧ rl = 0) ∧ ((cr = 1 ∧ ca = 1) ∨ (cr = -1 ∧ ca = -1)))))
    (hn : Hid (((cr = 0 ∨ cr = 1) ∧ nh = rh ∧ nl = rl) ∨ (cr = -1 ∧ ∀ W, Calls Tryd.prog 13 #[wv rh rl] W fun e w' => e = .returned (.tuple #[wv nh nl, .int .i64 0]) ∧ Below W.heap.size W w')))
    (hb : Hid ((cb = 1 ∧ ∀ W, Calls Tryd.prog 20 #[wv nh nl, wv bh bl] W fun e w' => e = .returned (.int .i64 (-1)) ∧ Below W.heap.size W w') ∨
      (cb = -1 ∧ (∀ W, Calls Tryd.prog 13 #[wv nh nl] W fun e w' => e = .returned (.tuple #[wv mh ml, .int .i64 0]) ∧ Below W.heap.size W w') ∧ ∀ W, Calls Tryd.prog 20 #[wv bh bl, wv mh ml] W fun e w' => e = .returned (.int .i64 (-1)) ∧ Below W.heap.size W w')))
    (w : World) : Calls Tryd.prog 7 #[wv ah al, wv bh bl] w fun e w' => e = .returned (.bool true) ∧ Below w.heap.size w w' := by
  have HNZ := hide hnz
  clear hnz
  have H0 := hide (wb_new2 w ah al bh bl)
  obtain ⟨s, hs⟩ : ∃ s, s = w.heap.size := ⟨_, rfl⟩
  rw [← hs] at H0
  have HS := hide hs
  clear hs
  go_enter Tryd.func7, Tryd.ntmps7
  go_wp2_with fail
  rw [← HS.out]
  refine (awake01 _).mono ?_
  rintro e v1045 ⟨rfl, hb1045⟩
  have M1045 := WB.next hb1045 H0
  clear hb1045
  go_wp2_with fail
  refine (of_val 0 0 0 (by decide) (by decide) (by decide) _).mono ?_
  rintro e v1046 ⟨rfl, hb1046⟩
  have M1046 := WB.next hb1046 M1045
  clear hb1046
  have H1047 := WB.addz (x := 0) (y := 0) M1046
  obtain ⟨g5, hg5⟩ : ∃ g, g = v1046.heap.size := ⟨_, rfl⟩
  rw [← hg5] at H1047
  have HGg5 := hide hg5
  clear hg5
  go_upto_region 4 with (fail)
  rw [← HGg5.out]
  obtain ⟨W1047, hW1047⟩ : ∃ W : World, W = v1046.alloc (.cells #[.int .u64 0, .int .u64 0] 24) := ⟨_, rfl⟩
  rw [← hW1047] at H1047 ⊢
  clear hW1047
  obtain ⟨q1048a, q1048b, q1048c, q1048d⟩ := two_cells (WB.at_ H1047 (.tail _ (.tail _ (.head _))))
  obtain ⟨q1049a, q1049b, q1049c, q1049d⟩ := two_cells (WB.at_ H1047 (.tail _ (.head _)))
  go_wp2_with fail
  refine (HQ.out _).mono ?_
  rintro e v1050 ⟨rfl, hb1050⟩
  have M1050 := WB.next hb1050 H1047
  clear hb1050
  clear q1048a q1048b q1048c q1048d q1049a q1049b q1049c q1049d
  have H1051 := WB.addz (x := qh) (y := ql) M1050
  obtain ⟨g6, hg6⟩ : ∃ g, g = v1050.heap.size := ⟨_, rfl⟩
  rw [← hg6] at H1051
  have HGg6 := hide hg6
  clear hg6
  go_upto_region 5 with (fail)
  rw [← HGg6.out]
  obtain ⟨W1051, hW1051⟩ : ∃ W : World, W = v1050.alloc (.cells #[.int .u64 qh, .int .u64 ql] 24) := ⟨_, rfl⟩
  rw [← hW1051] at H1051 ⊢
  clear hW1051
  obtain ⟨q1052a, q1052b, q1052c, q1052d⟩ := two_cells (WB.at_ H1051 (.tail _ (.tail _ (.tail _ (.head _)))))
  obtain ⟨q1053a, q1053b, q1053c, q1053d⟩ := two_cells (WB.at_ H1051 (.tail _ (.tail _ (.head _))))
  go_wp2_with fail
  refine (HR.out _).mono ?_
  rintro e v1054 ⟨rfl, hb1054⟩
  have M1054 := WB.next hb1054 H1051
  clear hb1054
  clear q1052a q1052b q1052c q1052d q1053a q1053b q1053c q1053d
  have H1055 := WB.addz (x := rh) (y := rl) M1054
  obtain ⟨g8, hg8⟩ : ∃ g, g = v1054.heap.size := ⟨_, rfl⟩
  rw [← hg8] at H1055
  have HGg8 := hide hg8
  clear hg8
  go_upto_region 6 with (fail)
  rw [← HGg8.out]
  obtain ⟨W1055, hW1055⟩ : ∃ W : World, W = v1054.alloc (.cells #[.int .u64 rh, .int .u64 rl] 24) := ⟨_, rfl⟩
  rw [← hW1055] at H1055 ⊢
  clear hW1055
  go_cut [35] (fun s35 wx => s35 = .bool false ∧ W1055 = wx)
  case first =>
    obtain ⟨q1056a, q1056b, q1056c, q1056d⟩ := two_cells (WB.at_ H1055 (.tail _ (.tail _ (.tail _ (.head _)))))
    obtain ⟨q1057a, q1057b, q1057c, q1057d⟩ := two_cells (WB.at_ H1055 (.tail _ (.tail _ (.head _))))
    rcases nz_parts HNZ.out with hz | ⟨rfl, hz⟩
    · go_wp2_with fail
      go_meet
      exact ⟨rfl, rfl⟩
    · go_wp2_with fail
      go_meet
      exact ⟨rfl, rfl⟩
  case rest =>
  obtain ⟨rfl, rfl⟩ := hcut
  go_upto_region 12 with (fail)
  obtain ⟨q1058a, q1058b, q1058c, q1058d⟩ := two_cells (WB.at_ H1055 (.tail _ (.head _)))
  obtain ⟨q1059a, q1059b, q1059c, q1059d⟩ := two_cells (WB.at_ H1055 (.tail _ (.tail _ (.tail _ (.head _)))))
  go_wp2_with fail
  refine (HP.out _).mono ?_
  rintro e v1060 ⟨rfl, hb1060⟩
  have M1060 := WB.next hb1060 H1055
  clear hb1060
  clear q1058a q1058b q1058c q1058d q1059a q1059b q1059c q1059d
  have H1061 := WB.addz (x := ph) (y := pl) M1060
  obtain ⟨g10, hg10⟩ : ∃ g, g = v1060.heap.size := ⟨_, rfl⟩
  rw [← hg10] at H1061
  have HGg10 := hide hg10
  clear hg10
  go_upto_region 13 with (fail)
  rw [← HGg10.out]
  obtain ⟨W1061, hW1061⟩ : ∃ W : World, W = v1060.alloc (.cells #[.int .u64 ph, .int .u64 pl] 24) := ⟨_, rfl⟩
  rw [← hW1061] at H1061 ⊢
  clear hW1061
  obtain ⟨q1062a, q1062b, q1062c, q1062d⟩ := two_cells (WB.at_ H1061 (.head _))
  obtain ⟨q1063a, q1063b, q1063c, q1063d⟩ := two_cells (WB.at_ H1061 (.tail _ (.head _)))
  go_wp2_with fail
  refine (HA.out _).mono ?_
  rintro e v1064 ⟨rfl, hb1064⟩
  have M1064 := WB.next hb1064 H1061
  clear hb1064
  clear q1062a q1062b q1062c q1062d q1063a q1063b q1063c q1063d
  have H1065 := WB.addz (x := ah) (y := al) M1064
  obtain ⟨g12, hg12⟩ : ∃ g, g = v1064.heap.size := ⟨_, rfl⟩
  rw [← hg12] at H1065
  have HGg12 := hide hg12
  clear hg12
  go_upto_region 14 with (fail)
  rw [← HGg12.out]
  obtain ⟨W1065, hW1065⟩ : ∃ W : World, W = v1064.alloc (.cells #[.int .u64 ah, .int .u64 al] 24) := ⟨_, rfl⟩
  rw [← hW1065] at H1065 ⊢
  clear hW1065
  go_cut [98] (fun s98 wx => s98 = .bool false ∧ Hid (WB w [(g12, ah, al), (g10, ph, pl), (g8, rh, rl), (g6, qh, ql), (g5, 0, 0), (s + 1, bh, bl), (s, ah, al)] wx))
  case first =>
    rcases hr.out with ⟨rfl, rfl, hc0⟩ | ⟨hz, hs⟩
    · clear hc0
      have H1066 := WB.drew H1065
      refine wp_region_tail 99 (fun w' => w'.cell? ⟨g12, 0, none⟩ = some (.int .u64 ah) ∧ w'.cell? ⟨g12, 1, none⟩ = some (.int .u64 al) ∧ w'.cell? ⟨s, 0, none⟩ = some (.int .u64 ah) ∧ w'.cell? ⟨s, 1, none⟩ = some (.int .u64 al) ∧ w'.cell? ⟨g8, 0, none⟩ = some (.int .u64 0) ∧ w'.cell? ⟨g8, 1, none⟩ = some (.int .u64 0) ∧ w'.cell? ⟨g5, 0, none⟩ = some (.int .u64 0) ∧ w'.cell? ⟨g5, 1, none⟩ = some (.int .u64 0)) (by kernel_rfl) ⟨(WB.at_ H1066 (.head _)).cell 0, (WB.at_ H1066 (.head _)).cell 1, (WB.at_ H1066 (.tail _ (.tail _ (.tail _ (.tail _ (.tail _ (.tail _ (.head _)))))))).cell 0, (WB.at_ H1066 (.tail _ (.tail _ (.tail _ (.tail _ (.tail _ (.tail _ (.head _)))))))).cell 1, (WB.at_ H1066 (.tail _ (.tail _ (.head _)))).cell 0, (WB.at_ H1066 (.tail _ (.tail _ (.head _)))).cell 1, (WB.at_ H1066 (.tail _ (.tail _ (.tail _ (.tail _ (.head _)))))).cell 0, (WB.at_ H1066 (.tail _ (.tail _ (.tail _ (.tail _ (.head _)))))).cell 1⟩ (fun hHeld => ?_)
      clear hHeld
      try simp only [Act.put, List.setIfInBounds_toArray, List.set_cons_zero, List.set_cons_succ]
      refine' wpTail_take (i := 0) (oi := _) ?hiu1067 ?hsu1067 ?hfu1067 ?hru1067 ?hzu1067 ?hQu1067 (v := _) (Or.inl ⟨?hwu1067, ?hyu1067⟩) (⟨(WB.at_ H1066 (.head _)).cell 0, (WB.at_ H1066 (.head _)).cell 1, (WB.at_ H1066 (.tail _ (.tail _ (.tail _ (.tail _ (.tail _ (.tail _ (.head _)))))))).cell 0, (WB.at_ H1066 (.tail _ (.tail _ (.tail _ (.tail _ (.tail _ (.tail _ (.head _)))))))).cell 1, (WB.at_ H1066 (.tail _ (.tail _ (.head _)))).cell 0, (WB.at_ H1066 (.tail _ (.tail _ (.head _)))).cell 1, (WB.at_ H1066 (.tail _ (.tail _ (.tail _ (.tail _ (.head _)))))).cell 0, (WB.at_ H1066 (.tail _ (.tail _ (.tail _ (.tail _ (.head _)))))).cell 1⟩) ?_
      case hiu1067 => (simp only [List.getElem?_toArray, List.getElem?_cons_zero]; exact rfl)
      case hsu1067 => kernel_rfl
      case hfu1067 => kernel_rfl
      case hru1067 => kernel_rfl
      case hzu1067 => kernel_rfl
      case hQu1067 => exact fun _ _ _ h => h
      case hwu1067 => rfl
      case hyu1067 => (intro w hSw; (try dsimp only at hSw); go_simp; (try with_reducible rfl))
      try simp only [Act.put, List.setIfInBounds_toArray, List.set_cons_zero, List.set_cons_succ]
      refine' wpTail_take (i := 1) (oi := _) ?hiu1068 ?hsu1068 ?hfu1068 ?hru1068 ?hzu1068 ?hQu1068 (v := _) (Or.inl ⟨?hwu1068, ?hyu1068⟩) (⟨(WB.at_ H1066 (.head _)).cell 0, (WB.at_ H1066 (.head _)).cell 1, (WB.at_ H1066 (.tail _ (.tail _ (.tail _ (.tail _ (.tail _ (.tail _ (.head _)))))))).cell 0, (WB.at_ H1066 (.tail _ (.tail _ (.tail _ (.tail _ (.tail _ (.tail _ (.head _)))))))).cell 1, (WB.at_ H1066 (.tail _ (.tail _ (.head _)))).cell 0, (WB.at_ H1066 (.tail _ (.tail _ (.head _)))).cell 1, (WB.at_ H1066 (.tail _ (.tail _ (.tail _ (.tail _ (.head _)))))).cell 0, (WB.at_ H1066 (.tail _ (.tail _ (.tail _ (.tail _ (.head _)))))).cell 1⟩) ?_
      case hiu1068 => (simp only [List.getElem?_toArray, List.getElem?_cons_succ, List.getElem?_cons_zero]; exact rfl)
      case hsu1068 => kernel_rfl
      case hfu1068 => kernel_rfl
      case hru1068 => kernel_rfl
      case hzu1068 => kernel_rfl
      case hQu1068 => exact fun _ _ _ h => h
      case hwu1068 => rfl
      case hyu1068 => (intro w hSw; (try dsimp only at hSw); go_simp; (try with_reducible rfl))
      try simp only [Act.put, List.setIfInBounds_toArray, List.set_cons_zero, List.set_cons_succ]
      refine' wpTail_take (i := 2) (oi := _) ?hiu1069 ?hsu1069 ?hfu1069 ?hru1069 ?hzu1069 ?hQu1069 (v := _) (Or.inl ⟨?hwu1069, ?hyu1069⟩) (⟨(WB.at_ H1066 (.head _)).cell 0, (WB.at_ H1066 (.head _)).cell 1, (WB.at_ H1066 (.tail _ (.tail _ (.tail _ (.tail _ (.tail _ (.tail _ (.head _)))))))).cell 0, (WB.at_ H1066 (.tail _ (.tail _ (.tail _ (.tail _ (.tail _ (.tail _ (.head _)))))))).cell 1, (WB.at_ H1066 (.tail _ (.tail _ (.head _)))).cell 0, (WB.at_ H1066 (.tail _ (.tail _ (.head _)))).cell 1, (WB.at_ H1066 (.tail _ (.tail _ (.tail _ (.tail _ (.head _)))))).cell 0, (WB.at_ H1066 (.tail _ (.tail _ (.tail _ (.tail _ (.head _)))))).cell 1⟩) ?_
      case hiu1069 => (simp only [List.getElem?_toArray, List.getElem?_cons_succ, List.getElem?_cons_zero]; exact rfl)
      case hsu1069 => kernel_rfl
      case hfu1069 => kernel_rfl
      case hru1069 => kernel_rfl
      case hzu1069 => kernel_rfl
      case hQu1069 => exact fun _ _ _ h => h
      case hwu1069 => rfl
      case hyu1069 => (intro w hSw; (try dsimp only at hSw); go_simp; (try with_reducible rfl))
      try simp only [Act.put, List.setIfInBounds_toArray, List.set_cons_zero, List.set_cons_succ]
      refine' wpTail_take (i := 3) (oi := _) ?hiu1070 ?hsu1070 ?hfu1070 ?hru1070 ?hzu1070 ?hQu1070 (v := _) (Or.inl ⟨?hwu1070, ?hyu1070⟩) (⟨(WB.at_ H1066 (.head _)).cell 0, (WB.at_ H1066 (.head _)).cell 1, (WB.at_ H1066 (.tail _ (.tail _ (.tail _ (.tail _ (.tail _ (.tail _ (.head _)))))))).cell 0, (WB.at_ H1066 (.tail _ (.tail _ (.tail _ (.tail _ (.tail _ (.tail _ (.head _)))))))).cell 1, (WB.at_ H1066 (.tail _ (.tail _ (.head _)))).cell 0, (WB.at_ H1066 (.tail _ (.tail _ (.head _)))).cell 1, (WB.at_ H1066 (.tail _ (.tail _ (.tail _ (.tail _ (.head _)))))).cell 0, (WB.at_ H1066 (.tail _ (.tail _ (.tail _ (.tail _ (.head _)))))).cell 1⟩) ?_
      case hiu1070 => (simp only [List.getElem?_toArray, List.getElem?_cons_succ, List.getElem?_cons_zero]; exact rfl)
      case hsu1070 => kernel_rfl
      case hfu1070 => kernel_rfl
      case hru1070 => kernel_rfl
      case hzu1070 => kernel_rfl
      case hQu1070 => exact fun _ _ _ h => h
      case hwu1070 => rfl
      case hyu1070 => (intro w hSw; (try dsimp only at hSw); go_simp; (try with_reducible rfl))
      try simp only [Act.put, List.setIfInBounds_toArray, List.set_cons_zero, List.set_cons_succ]
      refine' wpTail_take (i := 4) (oi := _) ?hiu1071 ?hsu1071 ?hfu1071 ?hru1071 ?hzu1071 ?hQu1071 (v := _) (Or.inl ⟨?hwu1071, ?hyu1071⟩) (⟨(WB.at_ H1066 (.head _)).cell 0, (WB.at_ H1066 (.head _)).cell 1, (WB.at_ H1066 (.tail _ (.tail _ (.tail _ (.tail _ (.tail _ (.tail _ (.head _)))))))).cell 0, (WB.at_ H1066 (.tail _ (.tail _ (.tail _ (.tail _ (.tail _ (.tail _ (.head _)))))))).cell 1, (WB.at_ H1066 (.tail _ (.tail _ (.head _)))).cell 0, (WB.at_ H1066 (.tail _ (.tail _ (.head _)))).cell 1, (WB.at_ H1066 (.tail _ (.tail _ (.tail _ (.tail _ (.head _)))))).cell 0, (WB.at_ H1066 (.tail _ (.tail _ (.tail _ (.tail _ (.head _)))))).cell 1⟩) ?_
      case hiu1071 => (simp only [List.getElem?_toArray, List.getElem?_cons_succ, List.getElem?_cons_zero]; exact rfl)
      case hsu1071 => kernel_rfl
      case hfu1071 => kernel_rfl
      case hru1071 => kernel_rfl
      case hzu1071 => kernel_rfl
      case hQu1071 => exact fun _ _ _ h => h
      case hwu1071 => rfl
      case hyu1071 => (intro w hSw; (try dsimp only at hSw); go_simp; (try with_reducible rfl))
      try simp only [Act.put, List.setIfInBounds_toArray, List.set_cons_zero, List.set_cons_succ]
      refine' wpTail_take (i := 5) (oi := _) ?hiu1072 ?hsu1072 ?hfu1072 ?hru1072 ?hzu1072 ?hQu1072 (v := _) (Or.inl ⟨?hwu1072, ?hyu1072⟩) (⟨(WB.at_ H1066 (.head _)).cell 0, (WB.at_ H1066 (.head _)).cell 1, (WB.at_ H1066 (.tail _ (.tail _ (.tail _ (.tail _ (.tail _ (.tail _ (.head _)))))))).cell 0, (WB.at_ H1066 (.tail _ (.tail _ (.tail _ (.tail _ (.tail _ (.tail _ (.head _)))))))).cell 1, (WB.at_ H1066 (.tail _ (.tail _ (.head _)))).cell 0, (WB.at_ H1066 (.tail _ (.tail _ (.head _)))).cell 1, (WB.at_ H1066 (.tail _ (.tail _ (.tail _ (.tail _ (.head _)))))).cell 0, (WB.at_ H1066 (.tail _ (.tail _ (.tail _ (.tail _ (.head _)))))).cell 1⟩) ?_
      case hiu1072 => (simp only [List.getElem?_toArray, List.getElem?_cons_succ, List.getElem?_cons_zero]; exact rfl)
      case hsu1072 => kernel_rfl
      case hfu1072 => kernel_rfl
      case hru1072 => kernel_rfl
      case hzu1072 => kernel_rfl
      case hQu1072 => exact fun _ _ _ h => h
      case hwu1072 => rfl
      case hyu1072 => (intro w hSw; (try dsimp only at hSw); go_simp; (try with_reducible rfl))
      try simp only [Act.put, List.setIfInBounds_toArray, List.set_cons_zero, List.set_cons_succ]
      refine' wpTail_take (i := 6) (oi := _) ?hiu1073 ?hsu1073 ?hfu1073 ?hru1073 ?hzu1073 ?hQu1073 (v := _) (Or.inl ⟨?hwu1073, ?hyu1073⟩) (⟨(WB.at_ H1066 (.head _)).cell 0, (WB.at_ H1066 (.head _)).cell 1, (WB.at_ H1066 (.tail _ (.tail _ (.tail _ (.tail _ (.tail _ (.tail _ (.head _)))))))).cell 0, (WB.at_ H1066 (.tail _ (.tail _ (.tail _ (.tail _ (.tail _ (.tail _ (.head _)))))))).cell 1, (WB.at_ H1066 (.tail _ (.tail _ (.head _)))).cell 0, (WB.at_ H1066 (.tail _ (.tail _ (.head _)))).cell 1, (WB.at_ H1066 (.tail _ (.tail _ (.tail _ (.tail _ (.head _)))))).cell 0, (WB.at_ H1066 (.tail _ (.tail _ (.tail _ (.tail _ (.head _)))))).cell 1⟩) ?_
      case hiu1073 => (simp only [List.getElem?_toArray, List.getElem?_cons_succ, List.getElem?_cons_zero]; exact rfl)
      case hsu1073 => kernel_rfl
      case hfu1073 => kernel_rfl
      case hru1073 => kernel_rfl
      case hzu1073 => kernel_rfl
      case hQu1073 => exact fun _ _ _ h => h
      case hwu1073 => rfl
      case hyu1073 => (intro w hSw; (try dsimp only at hSw); go_simp; (try with_reducible rfl))
      try simp only [Act.put, List.setIfInBounds_toArray, List.set_cons_zero, List.set_cons_succ]
      refine' wpTail_take (i := 7) (oi := _) ?hiu1074 ?hsu1074 ?hfu1074 ?hru1074 ?hzu1074 ?hQu1074 (v := _) (Or.inl ⟨?hwu1074, ?hyu1074⟩) (⟨(WB.at_ H1066 (.head _)).cell 0, (WB.at_ H1066 (.head _)).cell 1, (WB.at_ H1066 (.tail _ (.tail _ (.tail _ (.tail _ (.tail _ (.tail _ (.head _)))))))).cell 0, (WB.at_ H1066 (.tail _ (.tail _ (.tail _ (.tail _ (.tail _ (.tail _ (.head _)))))))).cell 1, (WB.at_ H1066 (.tail _ (.tail _ (.head _)))).cell 0, (WB.at_ H1066 (.tail _ (.tail _ (.head _)))).cell 1, (WB.at_ H1066 (.tail _ (.tail _ (.tail _ (.tail _ (.head _)))))).cell 0, (WB.at_ H1066 (.tail _ (.tail _ (.tail _ (.tail _ (.head _)))))).cell 1⟩) ?_
      case hiu1074 => (simp only [List.getElem?_toArray, List.getElem?_cons_succ, List.getElem?_cons_zero]; exact rfl)
      case hsu1074 => kernel_rfl
      case hfu1074 => kernel_rfl
      case hru1074 => kernel_rfl
      case hzu1074 => kernel_rfl
      case hQu1074 => exact fun _ _ _ h => h
      case hwu1074 => rfl
      case hyu1074 => (intro w hSw; (try dsimp only at hSw); go_simp; (try with_reducible rfl))
      try simp only [Act.put, List.setIfInBounds_toArray, List.set_cons_zero, List.set_cons_succ]
      refine' wpTail_take (i := 8) (oi := _) ?hiu1075 ?hsu1075 ?hfu1075 ?hru1075 ?hzu1075 ?hQu1075 (v := _) (Or.inl ⟨?hwu1075, ?hyu1075⟩) (⟨(WB.at_ H1066 (.head _)).cell 0, (WB.at_ H1066 (.head _)).cell 1, (WB.at_ H1066 (.tail _ (.tail _ (.tail _ (.tail _ (.tail _ (.tail _ (.head _)))))))).cell 0, (WB.at_ H1066 (.tail _ (.tail _ (.tail _ (.tail _ (.tail _ (.tail _ (.head _)))))))).cell 1, (WB.at_ H1066 (.tail _ (.tail _ (.head _)))).cell 0, (WB.at_ H1066 (.tail _ (.tail _ (.head _)))).cell 1, (WB.at_ H1066 (.tail _ (.tail _ (.tail _ (.tail _ (.head _)))))).cell 0, (WB.at_ H1066 (.tail _ (.tail _ (.tail _ (.tail _ (.head _)))))).cell 1⟩) ?_
      case hiu1075 => (simp only [List.getElem?_toArray, List.getElem?_cons_succ, List.getElem?_cons_zero]; exact rfl)
      case hsu1075 => kernel_rfl
      case hfu1075 => kernel_rfl
      case hru1075 => kernel_rfl
      case hzu1075 => kernel_rfl
      case hQu1075 => exact fun _ _ _ h => h
      case hwu1075 => rfl
      case hyu1075 => (intro w hSw; (try dsimp only at hSw); go_simp; (try with_reducible rfl))
      try simp only [Act.put, List.setIfInBounds_toArray, List.set_cons_zero, List.set_cons_succ]
      refine' wpTail_take (i := 9) (oi := _) ?hiu1076 ?hsu1076 ?hfu1076 ?hru1076 ?hzu1076 ?hQu1076 (v := _) (Or.inl ⟨?hwu1076, ?hyu1076⟩) (⟨(WB.at_ H1066 (.head _)).cell 0, (WB.at_ H1066 (.head _)).cell 1, (WB.at_ H1066 (.tail _ (.tail _ (.tail _ (.tail _ (.tail _ (.tail _ (.head _)))))))).cell 0, (WB.at_ H1066 (.tail _ (.tail _ (.tail _ (.tail _ (.tail _ (.tail _ (.head _)))))))).cell 1, (WB.at_ H1066 (.tail _ (.tail _ (.head _)))).cell 0, (WB.at_ H1066 (.tail _ (.tail _ (.head _)))).cell 1, (WB.at_ H1066 (.tail _ (.tail _ (.tail _ (.tail _ (.head _)))))).cell 0, (WB.at_ H1066 (.tail _ (.tail _ (.tail _ (.tail _ (.head _)))))).cell 1⟩) ?_
      case hiu1076 => (simp only [List.getElem?_toArray, List.getElem?_cons_succ, List.getElem?_cons_zero]; exact rfl)
      case hsu1076 => kernel_rfl
      case hfu1076 => kernel_rfl
      case hru1076 => kernel_rfl
      case hzu1076 => kernel_rfl
      case hQu1076 => exact fun _ _ _ h => h
      case hwu1076 => rfl
      case hyu1076 => (intro w hSw; (try dsimp only at hSw); go_simp; (try with_reducible rfl))
      try simp only [Act.put, List.setIfInBounds_toArray, List.set_cons_zero, List.set_cons_succ]
      refine' wpTail_take (i := 10) (oi := _) ?hiu1077 ?hsu1077 ?hfu1077 ?hru1077 ?hzu1077 ?hQu1077 (v := _) (Or.inl ⟨?hwu1077, ?hyu1077⟩) (⟨(WB.at_ H1066 (.head _)).cell 0, (WB.at_ H1066 (.head _)).cell 1, (WB.at_ H1066 (.tail _ (.tail _ (.tail _ (.tail _ (.tail _ (.tail _ (.head _)))))))).cell 0, (WB.at_ H1066 (.tail _ (.tail _ (.tail _ (.tail _ (.tail _ (.tail _ (.head _)))))))).cell 1, (WB.at_ H1066 (.tail _ (.tail _ (.head _)))).cell 0, (WB.at_ H1066 (.tail _ (.tail _ (.head _)))).cell 1, (WB.at_ H1066 (.tail _ (.tail _ (.tail _ (.tail _ (.head _)))))).cell 0, (WB.at_ H1066 (.tail _ (.tail _ (.tail _ (.tail _ (.head _)))))).cell 1⟩) ?_
      case hiu1077 => (simp only [List.getElem?_toArray, List.getElem?_cons_succ, List.getElem?_cons_zero]; exact rfl)
      case hsu1077 => kernel_rfl
      case hfu1077 => kernel_rfl
      case hru1077 => kernel_rfl
      case hzu1077 => kernel_rfl
      case hQu1077 => exact fun _ _ _ h => h
      case hwu1077 => rfl
      case hyu1077 => (intro w hSw; (try dsimp only at hSw); go_simp; (try with_reducible rfl))
      try simp only [Act.put, List.setIfInBounds_toArray, List.set_cons_zero, List.set_cons_succ]
      refine' wpTail_take (i := 11) (oi := _) ?hiu1078 ?hsu1078 ?hfu1078 ?hru1078 ?hzu1078 ?hQu1078 (v := _) (Or.inl ⟨?hwu1078, ?hyu1078⟩) (⟨(WB.at_ H1066 (.head _)).cell 0, (WB.at_ H1066 (.head _)).cell 1, (WB.at_ H1066 (.tail _ (.tail _ (.tail _ (.tail _ (.tail _ (.tail _ (.head _)))))))).cell 0, (WB.at_ H1066 (.tail _ (.tail _ (.tail _ (.tail _ (.tail _ (.tail _ (.head _)))))))).cell 1, (WB.at_ H1066 (.tail _ (.tail _ (.head _)))).cell 0, (WB.at_ H1066 (.tail _ (.tail _ (.head _)))).cell 1, (WB.at_ H1066 (.tail _ (.tail _ (.tail _ (.tail _ (.head _)))))).cell 0, (WB.at_ H1066 (.tail _ (.tail _ (.tail _ (.tail _ (.head _)))))).cell 1⟩) ?_
      case hiu1078 => (simp only [List.getElem?_toArray, List.getElem?_cons_succ, List.getElem?_cons_zero]; exact rfl)
      case hsu1078 => kernel_rfl
      case hfu1078 => kernel_rfl
      case hru1078 => kernel_rfl
      case hzu1078 => kernel_rfl
      case hQu1078 => exact fun _ _ _ h => h
      case hwu1078 => rfl
      case hyu1078 => (intro w hSw; (try dsimp only at hSw); go_simp; (try with_reducible rfl))
      try simp only [Act.put, List.setIfInBounds_toArray, List.set_cons_zero, List.set_cons_succ]
      refine' wpTail_take (i := 12) (oi := _) ?hiu1079 ?hsu1079 ?hfu1079 ?hru1079 ?hzu1079 ?hQu1079 (v := _) (Or.inl ⟨?hwu1079, ?hyu1079⟩) (⟨(WB.at_ H1066 (.head _)).cell 0, (WB.at_ H1066 (.head _)).cell 1, (WB.at_ H1066 (.tail _ (.tail _ (.tail _ (.tail _ (.tail _ (.tail _ (.head _)))))))).cell 0, (WB.at_ H1066 (.tail _ (.tail _ (.tail _ (.tail _ (.tail _ (.tail _ (.head _)))))))).cell 1, (WB.at_ H1066 (.tail _ (.tail _ (.head _)))).cell 0, (WB.at_ H1066 (.tail _ (.tail _ (.head _)))).cell 1, (WB.at_ H1066 (.tail _ (.tail _ (.tail _ (.tail _ (.head _)))))).cell 0, (WB.at_ H1066 (.tail _ (.tail _ (.tail _ (.tail _ (.head _)))))).cell 1⟩) ?_
      case hiu1079 => (simp only [List.getElem?_toArray, List.getElem?_cons_succ, List.getElem?_cons_zero]; exact rfl)
      case hsu1079 => kernel_rfl
      case hfu1079 => kernel_rfl
      case hru1079 => kernel_rfl
      case hzu1079 => kernel_rfl
      case hQu1079 => exact fun _ _ _ h => h
      case hwu1079 => rfl
      case hyu1079 => (intro w hSw; (try dsimp only at hSw); go_simp; (try with_reducible rfl))
      try simp only [Act.put, List.setIfInBounds_toArray, List.set_cons_zero, List.set_cons_succ]
      refine' wpTail_take (i := 13) (oi := _) ?hiu1080 ?hsu1080 ?hfu1080 ?hru1080 ?hzu1080 ?hQu1080 (v := _) (Or.inl ⟨?hwu1080, ?hyu1080⟩) (⟨(WB.at_ H1066 (.head _)).cell 0, (WB.at_ H1066 (.head _)).cell 1, (WB.at_ H1066 (.tail _ (.tail _ (.tail _ (.tail _ (.tail _ (.tail _ (.head _)))))))).cell 0, (WB.at_ H1066 (.tail _ (.tail _ (.tail _ (.tail _ (.tail _ (.tail _ (.head _)))))))).cell 1, (WB.at_ H1066 (.tail _ (.tail _ (.head _)))).cell 0, (WB.at_ H1066 (.tail _ (.tail _ (.head _)))).cell 1, (WB.at_ H1066 (.tail _ (.tail _ (.tail _ (.tail _ (.head _)))))).cell 0, (WB.at_ H1066 (.tail _ (.tail _ (.tail _ (.tail _ (.head _)))))).cell 1⟩) ?_
      case hiu1080 => (simp only [List.getElem?_toArray, List.getElem?_cons_succ, List.getElem?_cons_zero]; exact rfl)
      case hsu1080 => kernel_rfl
      case hfu1080 => kernel_rfl
      case hru1080 => kernel_rfl
      case hzu1080 => kernel_rfl
      case hQu1080 => exact fun _ _ _ h => h
      case hwu1080 => rfl
      case hyu1080 => (intro w hSw; (try dsimp only at hSw); go_simp; (try with_reducible rfl))
      try simp only [Act.put, List.setIfInBounds_toArray, List.set_cons_zero, List.set_cons_succ]
      refine' wpTail_take (i := 14) (oi := _) ?hiu1081 ?hsu1081 ?hfu1081 ?hru1081 ?hzu1081 ?hQu1081 (v := _) (Or.inl ⟨?hwu1081, ?hyu1081⟩) (⟨(WB.at_ H1066 (.head _)).cell 0, (WB.at_ H1066 (.head _)).cell 1, (WB.at_ H1066 (.tail _ (.tail _ (.tail _ (.tail _ (.tail _ (.tail _ (.head _)))))))).cell 0, (WB.at_ H1066 (.tail _ (.tail _ (.tail _ (.tail _ (.tail _ (.tail _ (.head _)))))))).cell 1, (WB.at_ H1066 (.tail _ (.tail _ (.head _)))).cell 0, (WB.at_ H1066 (.tail _ (.tail _ (.head _)))).cell 1, (WB.at_ H1066 (.tail _ (.tail _ (.tail _ (.tail _ (.head _)))))).cell 0, (WB.at_ H1066 (.tail _ (.tail _ (.tail _ (.tail _ (.head _)))))).cell 1⟩) ?_
      case hiu1081 => (simp only [List.getElem?_toArray, List.getElem?_cons_succ, List.getElem?_cons_zero]; exact rfl)
      case hsu1081 => kernel_rfl
      case hfu1081 => kernel_rfl
      case hru1081 => kernel_rfl
      case hzu1081 => kernel_rfl
      case hQu1081 => exact fun _ _ _ h => h
      case hwu1081 => rfl
      case hyu1081 => (intro w hSw; (try dsimp only at hSw); go_simp; (try with_reducible rfl))
      try simp only [Act.put, List.setIfInBounds_toArray, List.set_cons_zero, List.set_cons_succ]
      refine' wpTail_take (i := 15) (oi := _) ?hiu1082 ?hsu1082 ?hfu1082 ?hru1082 ?hzu1082 ?hQu1082 (v := _) (Or.inl ⟨?hwu1082, ?hyu1082⟩) (⟨(WB.at_ H1066 (.head _)).cell 0, (WB.at_ H1066 (.head _)).cell 1, (WB.at_ H1066 (.tail _ (.tail _ (.tail _ (.tail _ (.tail _ (.tail _ (.head _)))))))).cell 0, (WB.at_ H1066 (.tail _ (.tail _ (.tail _ (.tail _ (.tail _ (.tail _ (.head _)))))))).cell 1, (WB.at_ H1066 (.tail _ (.tail _ (.head _)))).cell 0, (WB.at_ H1066 (.tail _ (.tail _ (.head _)))).cell 1, (WB.at_ H1066 (.tail _ (.tail _ (.tail _ (.tail _ (.head _)))))).cell 0, (WB.at_ H1066 (.tail _ (.tail _ (.tail _ (.tail _ (.head _)))))).cell 1⟩) ?_
      case hiu1082 => (simp only [List.getElem?_toArray, List.getElem?_cons_succ, List.getElem?_cons_zero]; exact rfl)
      case hsu1082 => kernel_rfl
      case hfu1082 => kernel_rfl
      case hru1082 => kernel_rfl
      case hzu1082 => kernel_rfl
      case hQu1082 => exact fun _ _ _ h => h
      case hwu1082 => rfl
      case hyu1082 => (intro w hSw; (try dsimp only at hSw); go_simp; (try with_reducible rfl))
      try simp only [Act.put, List.setIfInBounds_toArray, List.set_cons_zero, List.set_cons_succ]
      refine' wpTail_take (i := 16) (oi := _) ?hiu1083 ?hsu1083 ?hfu1083 ?hru1083 ?hzu1083 ?hQu1083 (v := undef) (Or.inr ⟨?hwu1083, rfl⟩) (⟨(WB.at_ H1066 (.head _)).cell 0, (WB.at_ H1066 (.head _)).cell 1, (WB.at_ H1066 (.tail _ (.tail _ (.tail _ (.tail _ (.tail _ (.tail _ (.head _)))))))).cell 0, (WB.at_ H1066 (.tail _ (.tail _ (.tail _ (.tail _ (.tail _ (.tail _ (.head _)))))))).cell 1, (WB.at_ H1066 (.tail _ (.tail _ (.head _)))).cell 0, (WB.at_ H1066 (.tail _ (.tail _ (.head _)))).cell 1, (WB.at_ H1066 (.tail _ (.tail _ (.tail _ (.tail _ (.head _)))))).cell 0, (WB.at_ H1066 (.tail _ (.tail _ (.tail _ (.tail _ (.head _)))))).cell 1⟩) ?_
      case hiu1083 => (simp only [List.getElem?_toArray, List.getElem?_cons_succ, List.getElem?_cons_zero]; exact rfl)
      case hsu1083 => kernel_rfl
      case hfu1083 => kernel_rfl
      case hru1083 => kernel_rfl
      case hzu1083 => kernel_rfl
      case hQu1083 => exact fun _ _ _ h => h
      case hwu1083 => rfl
      try simp only [Act.put, List.setIfInBounds_toArray, List.set_cons_zero, List.set_cons_succ]
      refine' wpTail_take (i := 17) (oi := _) ?hiu1084 ?hsu1084 ?hfu1084 ?hru1084 ?hzu1084 ?hQu1084 (v := undef) (Or.inr ⟨?hwu1084, rfl⟩) (⟨(WB.at_ H1066 (.head _)).cell 0, (WB.at_ H1066 (.head _)).cell 1, (WB.at_ H1066 (.tail _ (.tail _ (.tail _ (.tail _ (.tail _ (.tail _ (.head _)))))))).cell 0, (WB.at_ H1066 (.tail _ (.tail _ (.tail _ (.tail _ (.tail _ (.tail _ (.head _)))))))).cell 1, (WB.at_ H1066 (.tail _ (.tail _ (.head _)))).cell 0, (WB.at_ H1066 (.tail _ (.tail _ (.head _)))).cell 1, (WB.at_ H1066 (.tail _ (.tail _ (.tail _ (.tail _ (.head _)))))).cell 0, (WB.at_ H1066 (.tail _ (.tail _ (.tail _ (.tail _ (.head _)))))).cell 1⟩) ?_
      case hiu1084 => (simp only [List.getElem?_toArray, List.getElem?_cons_succ, List.getElem?_cons_zero]; exact rfl)
      case hsu1084 => kernel_rfl
      case hfu1084 => kernel_rfl
      case hru1084 => kernel_rfl
      case hzu1084 => kernel_rfl
      case hQu1084 => exact fun _ _ _ h => h
      case hwu1084 => rfl
      try simp only [Act.put, List.setIfInBounds_toArray, List.set_cons_zero, List.set_cons_succ]
      refine' wpTail_take (i := 18) (oi := _) ?hiu1085 ?hsu1085 ?hfu1085 ?hru1085 ?hzu1085 ?hQu1085 (v := undef) (Or.inr ⟨?hwu1085, rfl⟩) (⟨(WB.at_ H1066 (.head _)).cell 0, (WB.at_ H1066 (.head _)).cell 1, (WB.at_ H1066 (.tail _ (.tail _ (.tail _ (.tail _ (.tail _ (.tail _ (.head _)))))))).cell 0, (WB.at_ H1066 (.tail _ (.tail _ (.tail _ (.tail _ (.tail _ (.tail _ (.head _)))))))).cell 1, (WB.at_ H1066 (.tail _ (.tail _ (.head _)))).cell 0, (WB.at_ H1066 (.tail _ (.tail _ (.head _)))).cell 1, (WB.at_ H1066 (.tail _ (.tail _ (.tail _ (.tail _ (.head _)))))).cell 0, (WB.at_ H1066 (.tail _ (.tail _ (.tail _ (.tail _ (.head _)))))).cell 1⟩) ?_
      case hiu1085 => (simp only [List.getElem?_toArray, List.getElem?_cons_succ, List.getElem?_cons_zero]; exact rfl)
      case hsu1085 => kernel_rfl
      case hfu1085 => kernel_rfl
      case hru1085 => kernel_rfl
      case hzu1085 => kernel_rfl
      case hQu1085 => exact fun _ _ _ h => h
      case hwu1085 => rfl
      try simp only [Act.put, List.setIfInBounds_toArray, List.set_cons_zero, List.set_cons_succ]
      refine' wpTail_take (i := 19) (oi := _) ?hiu1086 ?hsu1086 ?hfu1086 ?hru1086 ?hzu1086 ?hQu1086 (v := undef) (Or.inr ⟨?hwu1086, rfl⟩) (⟨(WB.at_ H1066 (.head _)).cell 0, (WB.at_ H1066 (.head _)).cell 1, (WB.at_ H1066 (.tail _ (.tail _ (.tail _ (.tail _ (.tail _ (.tail _ (.head _)))))))).cell 0, (WB.at_ H1066 (.tail _ (.tail _ (.tail _ (.tail _ (.tail _ (.tail _ (.head _)))))))).cell 1, (WB.at_ H1066 (.tail _ (.tail _ (.head _)))).cell 0, (WB.at_ H1066 (.tail _ (.tail _ (.head _)))).cell 1, (WB.at_ H1066 (.tail _ (.tail _ (.tail _ (.tail _ (.head _)))))).cell 0, (WB.at_ H1066 (.tail _ (.tail _ (.tail _ (.tail _ (.head _)))))).cell 1⟩) ?_
      case hiu1086 => (simp only [List.getElem?_toArray, List.getElem?_cons_succ, List.getElem?_cons_zero]; exact rfl)
      case hsu1086 => kernel_rfl
      case hfu1086 => kernel_rfl
      case hru1086 => kernel_rfl
      case hzu1086 => kernel_rfl
      case hQu1086 => exact fun _ _ _ h => h
      case hwu1086 => rfl
      try simp only [Act.put, List.setIfInBounds_toArray, List.set_cons_zero, List.set_cons_succ]
      refine' wpTail_take (i := 20) (oi := _) ?hiu1087 ?hsu1087 ?hfu1087 ?hru1087 ?hzu1087 ?hQu1087 (v := undef) (Or.inr ⟨?hwu1087, rfl⟩) (⟨(WB.at_ H1066 (.head _)).cell 0, (WB.at_ H1066 (.head _)).cell 1, (WB.at_ H1066 (.tail _ (.tail _ (.tail _ (.tail _ (.tail _ (.tail _ (.head _)))))))).cell 0, (WB.at_ H1066 (.tail _ (.tail _ (.tail _ (.tail _ (.tail _ (.tail _ (.head _)))))))).cell 1, (WB.at_ H1066 (.tail _ (.tail _ (.head _)))).cell 0, (WB.at_ H1066 (.tail _ (.tail _ (.head _)))).cell 1, (WB.at_ H1066 (.tail _ (.tail _ (.tail _ (.tail _ (.head _)))))).cell 0, (WB.at_ H1066 (.tail _ (.tail _ (.tail _ (.tail _ (.head _)))))).cell 1⟩) ?_
      case hiu1087 => (simp only [List.getElem?_toArray, List.getElem?_cons_succ, List.getElem?_cons_zero]; exact rfl)
      case hsu1087 => kernel_rfl
      case hfu1087 => kernel_rfl
      case hru1087 => kernel_rfl
      case hzu1087 => kernel_rfl
      case hQu1087 => exact fun _ _ _ h => h
      case hwu1087 => rfl
      try simp only [Act.put, List.setIfInBounds_toArray, List.set_cons_zero, List.set_cons_succ]
      refine' wpTail_take (i := 21) (oi := _) ?hiu1088 ?hsu1088 ?hfu1088 ?hru1088 ?hzu1088 ?hQu1088 (v := undef) (Or.inr ⟨?hwu1088, rfl⟩) (⟨(WB.at_ H1066 (.head _)).cell 0, (WB.at_ H1066 (.head _)).cell 1, (WB.at_ H1066 (.tail _ (.tail _ (.tail _ (.tail _ (.tail _ (.tail _ (.head _)))))))).cell 0, (WB.at_ H1066 (.tail _ (.tail _ (.tail _ (.tail _ (.tail _ (.tail _ (.head _)))))))).cell 1, (WB.at_ H1066 (.tail _ (.tail _ (.head _)))).cell 0, (WB.at_ H1066 (.tail _ (.tail _ (.head _)))).cell 1, (WB.at_ H1066 (.tail _ (.tail _ (.tail _ (.tail _ (.head _)))))).cell 0, (WB.at_ H1066 (.tail _ (.tail _ (.tail _ (.tail _ (.head _)))))).cell 1⟩) ?_
      case hiu1088 => (simp only [List.getElem?_toArray, List.getElem?_cons_succ, List.getElem?_cons_zero]; exact rfl)
      case hsu1088 => kernel_rfl
      case hfu1088 => kernel_rfl
      case hru1088 => kernel_rfl
      case hzu1088 => kernel_rfl
      case hQu1088 => exact fun _ _ _ h => h
      case hwu1088 => rfl
      try simp only [Act.put, List.setIfInBounds_toArray, List.set_cons_zero, List.set_cons_succ]
      refine' wpTail_take (i := 22) (oi := _) ?hiu1089 ?hsu1089 ?hfu1089 ?hru1089 ?hzu1089 ?hQu1089 (v := undef) (Or.inr ⟨?hwu1089, rfl⟩) (⟨(WB.at_ H1066 (.head _)).cell 0, (WB.at_ H1066 (.head _)).cell 1, (WB.at_ H1066 (.tail _ (.tail _ (.tail _ (.tail _ (.tail _ (.tail _ (.head _)))))))).cell 0, (WB.at_ H1066 (.tail _ (.tail _ (.tail _ (.tail _ (.tail _ (.tail _ (.head _)))))))).cell 1, (WB.at_ H1066 (.tail _ (.tail _ (.head _)))).cell 0, (WB.at_ H1066 (.tail _ (.tail _ (.head _)))).cell 1, (WB.at_ H1066 (.tail _ (.tail _ (.tail _ (.tail _ (.head _)))))).cell 0, (WB.at_ H1066 (.tail _ (.tail _ (.tail _ (.tail _ (.head _)))))).cell 1⟩) ?_
      case hiu1089 => (simp only [List.getElem?_toArray, List.getElem?_cons_succ, List.getElem?_cons_zero]; exact rfl)
      case hsu1089 => kernel_rfl
      case hfu1089 => kernel_rfl
      case hru1089 => kernel_rfl
      case hzu1089 => kernel_rfl
      case hQu1089 => exact fun _ _ _ h => h
      case hwu1089 => rfl
      try simp only [Act.put, List.setIfInBounds_toArray, List.set_cons_zero, List.set_cons_succ]
      refine' wpTail_take (i := 23) (oi := _) ?hiu1090 ?hsu1090 ?hfu1090 ?hru1090 ?hzu1090 ?hQu1090 (v := undef) (Or.inr ⟨?hwu1090, rfl⟩) (⟨(WB.at_ H1066 (.head _)).cell 0, (WB.at_ H1066 (.head _)).cell 1, (WB.at_ H1066 (.tail _ (.tail _ (.tail _ (.tail _ (.tail _ (.tail _ (.head _)))))))).cell 0, (WB.at_ H1066 (.tail _ (.tail _ (.tail _ (.tail _ (.tail _ (.tail _ (.head _)))))))).cell 1, (WB.at_ H1066 (.tail _ (.tail _ (.head _)))).cell 0, (WB.at_ H1066 (.tail _ (.tail _ (.head _)))).cell 1, (WB.at_ H1066 (.tail _ (.tail _ (.tail _ (.tail _ (.head _)))))).cell 0, (WB.at_ H1066 (.tail _ (.tail _ (.tail _ (.tail _ (.head _)))))).cell 1⟩) ?_
      case hiu1090 => (simp only [List.getElem?_toArray, List.getElem?_cons_succ, List.getElem?_cons_zero]; exact rfl)
      case hsu1090 => kernel_rfl
      case hfu1090 => kernel_rfl
      case hru1090 => kernel_rfl
      case hzu1090 => kernel_rfl
      case hQu1090 => exact fun _ _ _ h => h
      case hwu1090 => rfl
      try simp only [Act.put, List.setIfInBounds_toArray, List.set_cons_zero, List.set_cons_succ]
      refine' wpTail_take (i := 24) (oi := _) ?hiu1091 ?hsu1091 ?hfu1091 ?hru1091 ?hzu1091 ?hQu1091 (v := undef) (Or.inr ⟨?hwu1091, rfl⟩) (⟨(WB.at_ H1066 (.head _)).cell 0, (WB.at_ H1066 (.head _)).cell 1, (WB.at_ H1066 (.tail _ (.tail _ (.tail _ (.tail _ (.tail _ (.tail _ (.head _)))))))).cell 0, (WB.at_ H1066 (.tail _ (.tail _ (.tail _ (.tail _ (.tail _ (.tail _ (.head _)))))))).cell 1, (WB.at_ H1066 (.tail _ (.tail _ (.head _)))).cell 0, (WB.at_ H1066 (.tail _ (.tail _ (.head _)))).cell 1, (WB.at_ H1066 (.tail _ (.tail _ (.tail _ (.tail _ (.head _)))))).cell 0, (WB.at_ H1066 (.tail _ (.tail _ (.tail _ (.tail _ (.head _)))))).cell 1⟩) ?_
      case hiu1091 => (simp only [List.getElem?_toArray, List.getElem?_cons_succ, List.getElem?_cons_zero]; exact rfl)
      case hsu1091 => kernel_rfl
      case hfu1091 => kernel_rfl
      case hru1091 => kernel_rfl
      case hzu1091 => kernel_rfl
      case hQu1091 => exact fun _ _ _ h => h
      case hwu1091 => rfl
      try simp only [Act.put, List.setIfInBounds_toArray, List.set_cons_zero, List.set_cons_succ]
      refine' wpTail_take (i := 25) (oi := _) ?hiu1092 ?hsu1092 ?hfu1092 ?hru1092 ?hzu1092 ?hQu1092 (v := _) (Or.inl ⟨?hwu1092, ?hyu1092⟩) (⟨(WB.at_ H1066 (.head _)).cell 0, (WB.at_ H1066 (.head _)).cell 1, (WB.at_ H1066 (.tail _ (.tail _ (.tail _ (.tail _ (.tail _ (.tail _ (.head _)))))))).cell 0, (WB.at_ H1066 (.tail _ (.tail _ (.tail _ (.tail _ (.tail _ (.tail _ (.head _)))))))).cell 1, (WB.at_ H1066 (.tail _ (.tail _ (.head _)))).cell 0, (WB.at_ H1066 (.tail _ (.tail _ (.head _)))).cell 1, (WB.at_ H1066 (.tail _ (.tail _ (.tail _ (.tail _ (.head _)))))).cell 0, (WB.at_ H1066 (.tail _ (.tail _ (.tail _ (.tail _ (.head _)))))).cell 1⟩) ?_
      case hiu1092 => (simp only [List.getElem?_toArray, List.getElem?_cons_succ, List.getElem?_cons_zero]; exact rfl)
      case hsu1092 => kernel_rfl
      case hfu1092 => kernel_rfl
      case hru1092 => kernel_rfl
      case hzu1092 => kernel_rfl
      case hQu1092 => exact fun _ _ _ h => h
      case hwu1092 => rfl
      case hyu1092 => (intro w hSw; (try dsimp only at hSw); go_simp; (try with_reducible rfl))
      try simp only [Act.put, List.setIfInBounds_toArray, List.set_cons_zero, List.set_cons_succ]
      refine' wpTail_take (i := 26) (oi := _) ?hiu1093 ?hsu1093 ?hfu1093 ?hru1093 ?hzu1093 ?hQu1093 (v := _) (Or.inl ⟨?hwu1093, ?hyu1093⟩) (⟨(WB.at_ H1066 (.head _)).cell 0, (WB.at_ H1066 (.head _)).cell 1, (WB.at_ H1066 (.tail _ (.tail _ (.tail _ (.tail _ (.tail _ (.tail _ (.head _)))))))).cell 0, (WB.at_ H1066 (.tail _ (.tail _ (.tail _ (.tail _ (.tail _ (.tail _ (.head _)))))))).cell 1, (WB.at_ H1066 (.tail _ (.tail _ (.head _)))).cell 0, (WB.at_ H1066 (.tail _ (.tail _ (.head _)))).cell 1, (WB.at_ H1066 (.tail _ (.tail _ (.tail _ (.tail _ (.head _)))))).cell 0, (WB.at_ H1066 (.tail _ (.tail _ (.tail _ (.tail _ (.head _)))))).cell 1⟩) ?_
      case hiu1093 => (simp only [List.getElem?_toArray, List.getElem?_cons_succ, List.getElem?_cons_zero]; exact rfl)
      case hsu1093 => kernel_rfl
      case hfu1093 => kernel_rfl
      case hru1093 => kernel_rfl
      case hzu1093 => kernel_rfl
      case hQu1093 => exact fun _ _ _ h => h
      case hwu1093 => rfl
      case hyu1093 => (intro w hSw; (try dsimp only at hSw); go_simp; (try with_reducible rfl))
      try simp only [Act.put, List.setIfInBounds_toArray, List.set_cons_zero, List.set_cons_succ]
      refine wpTail_done (by kernel_rfl) ?_ _
      go_wp2_with fail
      go_meet
      exact ⟨rfl, H1066⟩
    · skip
      rcases nz_parts hz with hz | ⟨rfl, hz⟩
      · skip
        rcases hs with ⟨rfl, rfl⟩ | ⟨rfl, rfl⟩
        · skip
          have H1094 := WB.drew H1065
          refine wp_region_tail 99 (fun w' => w'.cell? ⟨g12, 0, none⟩ = some (.int .u64 ah) ∧ w'.cell? ⟨g12, 1, none⟩ = some (.int .u64 al) ∧ w'.cell? ⟨s, 0, none⟩ = some (.int .u64 ah) ∧ w'.cell? ⟨s, 1, none⟩ = some (.int .u64 al) ∧ w'.cell? ⟨g8, 0, none⟩ = some (.int .u64 rh) ∧ w'.cell? ⟨g8, 1, none⟩ = some (.int .u64 rl) ∧ w'.cell? ⟨g5, 0, none⟩ = some (.int .u64 0) ∧ w'.cell? ⟨g5, 1, none⟩ = some (.int .u64 0)) (by kernel_rfl) ⟨(WB.at_ H1094 (.head _)).cell 0, (WB.at_ H1094 (.head _)).cell 1, (WB.at_ H1094 (.tail _ (.tail _ (.tail _ (.tail _ (.tail _ (.tail _ (.head _)))))))).cell 0, (WB.at_ H1094 (.tail _ (.tail _ (.tail _ (.tail _ (.tail _ (.tail _ (.head _)))))))).cell 1, (WB.at_ H1094 (.tail _ (.tail _ (.head _)))).cell 0, (WB.at_ H1094 (.tail _ (.tail _ (.head _)))).cell 1, (WB.at_ H1094 (.tail _ (.tail _ (.tail _ (.tail _ (.head _)))))).cell 0, (WB.at_ H1094 (.tail _ (.tail _ (.tail _ (.tail _ (.head _)))))).cell 1⟩ (fun hHeld => ?_)
          clear hHeld
          try simp only [Act.put, List.setIfInBounds_toArray, List.set_cons_zero, List.set_cons_succ]
          refine' wpTail_take (i := 0) (oi := _) ?hiu1095 ?hsu1095 ?hfu1095 ?hru1095 ?hzu1095 ?hQu1095 (v := _) (Or.inl ⟨?hwu1095, ?hyu1095⟩) (⟨(WB.at_ H1094 (.head _)).cell 0, (WB.at_ H1094 (.head _)).cell 1, (WB.at_ H1094 (.tail _ (.tail _ (.tail _ (.tail _ (.tail _ (.tail _ (.head _)))))))).cell 0, (WB.at_ H1094 (.tail _ (.tail _ (.tail _ (.tail _ (.tail _ (.tail _ (.head _)))))))).cell 1, (WB.at_ H1094 (.tail _ (.tail _ (.head _)))).cell 0, (WB.at_ H1094 (.tail _ (.tail _ (.head _)))).cell 1, (WB.at_ H1094 (.tail _ (.tail _ (.tail _ (.tail _ (.head _)))))).cell 0, (WB.at_ H1094 (.tail _ (.tail _ (.tail _ (.tail _ (.head _)))))).cell 1⟩) ?_
          case hiu1095 => (simp only [List.getElem?_toArray, List.getElem?_cons_zero]; exact rfl)
          case hsu1095 => kernel_rfl
          case hfu1095 => kernel_rfl
          case hru1095 => kernel_rfl
          case hzu1095 => kernel_rfl
          case hQu1095 => exact fun _ _ _ h => h
          case hwu1095 => rfl
          case hyu1095 => (intro w hSw; (try dsimp only at hSw); go_simp; (try with_reducible rfl))
          try simp only [Act.put, List.setIfInBounds_toArray, List.set_cons_zero, List.set_cons_succ]
          refine' wpTail_take (i := 1) (oi := _) ?hiu1096 ?hsu1096 ?hfu1096 ?hru1096 ?hzu1096 ?hQu1096 (v := _) (Or.inl ⟨?hwu1096, ?hyu1096⟩) (⟨(WB.at_ H1094 (.head _)).cell 0, (WB.at_ H1094 (.head _)).cell 1, (WB.at_ H1094 (.tail _ (.tail _ (.tail _ (.tail _ (.tail _ (.tail _ (.head _)))))))).cell 0, (WB.at_ H1094 (.tail _ (.tail _ (.tail _ (.tail _ (.tail _ (.tail _ (.head _)))))))).cell 1, (WB.at_ H1094 (.tail _ (.tail _ (.head _)))).cell 0, (WB.at_ H1094 (.tail _ (.tail _ (.head _)))).cell 1, (WB.at_ H1094 (.tail _ (.tail _ (.tail _ (.tail _ (.head _)))))).cell 0, (WB.at_ H1094 (.tail _ (.tail _ (.tail _ (.tail _ (.head _)))))).cell 1⟩) ?_
          case hiu1096 => (simp only [List.getElem?_toArray, List.getElem?_cons_succ, List.getElem?_cons_zero]; exact rfl)
          case hsu1096 => kernel_rfl
          case hfu1096 => kernel_rfl
          case hru1096 => kernel_rfl
          case hzu1096 => kernel_rfl
          case hQu1096 => exact fun _ _ _ h => h
          case hwu1096 => rfl
          case hyu1096 => (intro w hSw; (try dsimp only at hSw); go_simp; (try with_reducible rfl))
          try simp only [Act.put, List.setIfInBounds_toArray, List.set_cons_zero, List.set_cons_succ]
          refine' wpTail_take (i := 2) (oi := _) ?hiu1097 ?hsu1097 ?hfu1097 ?hru1097 ?hzu1097 ?hQu1097 (v := _) (Or.inl ⟨?hwu1097, ?hyu1097⟩) (⟨(WB.at_ H1094 (.head _)).cell 0, (WB.at_ H1094 (.head _)).cell 1, (WB.at_ H1094 (.tail _ (.tail _ (.tail _ (.tail _ (.tail _ (.tail _ (.head _)))))))).cell 0, (WB.at_ H1094 (.tail _ (.tail _ (.tail _ (.tail _ (.tail _ (.tail _ (.head _)))))))).cell 1, (WB.at_ H1094 (.tail _ (.tail _ (.head _)))).cell 0, (WB.at_ H1094 (.tail _ (.tail _ (.head _)))).cell 1, (WB.at_ H1094 (.tail _ (.tail _ (.tail _ (.tail _ (.head _)))))).cell 0, (WB.at_ H1094 (.tail _ (.tail _ (.tail _ (.tail _ (.head _)))))).cell 1⟩) ?_
          case hiu1097 => (simp only [List.getElem?_toArray, List.getElem?_cons_succ, List.getElem?_cons_zero]; exact rfl)
          case hsu1097 => kernel_rfl
          case hfu1097 => kernel_rfl
          case hru1097 => kernel_rfl
          case hzu1097 => kernel_rfl
          case hQu1097 => exact fun _ _ _ h => h
          case hwu1097 => rfl
          case hyu1097 => (intro w hSw; (try dsimp only at hSw); go_simp; (try with_reducible rfl))
          try simp only [Act.put, List.setIfInBounds_toArray, List.set_cons_zero, List.set_cons_succ]
          refine' wpTail_take (i := 3) (oi := _) ?hiu1098 ?hsu1098 ?hfu1098 ?hru1098 ?hzu1098 ?hQu1098 (v := _) (Or.inl ⟨?hwu1098, ?hyu1098⟩) (⟨(WB.at_ H1094 (.head _)).cell 0, (WB.at_ H1094 (.head _)).cell 1, (WB.at_ H1094 (.tail _ (.tail _ (.tail _ (.tail _ (.tail _ (.tail _ (.head _)))))))).cell 0, (WB.at_ H1094 (.tail _ (.tail _ (.tail _ (.tail _ (.tail _ (.tail _ (.head _)))))))).cell 1, (WB.at_ H1094 (.tail _ (.tail _ (.head _)))).cell 0, (WB.at_ H1094 (.tail _ (.tail _ (.head _)))).cell 1, (WB.at_ H1094 (.tail _ (.tail _ (.tail _ (.tail _ (.head _)))))).cell 0, (WB.at_ H1094 (.tail _ (.tail _ (.tail _ (.tail _ (.head _)))))).cell 1⟩) ?_
          case hiu1098 => (simp only [List.getElem?_toArray, List.getElem?_cons_succ, List.getElem?_cons_zero]; exact rfl)
          case hsu1098 => kernel_rfl
          case hfu1098 => kernel_rfl
          case hru1098 => kernel_rfl
          case hzu1098 => kernel_rfl
          case hQu1098 => exact fun _ _ _ h => h
          case hwu1098 => rfl
          case hyu1098 => (intro w hSw; (try dsimp only at hSw); go_simp; (try with_reducible rfl))
          try simp only [Act.put, List.setIfInBounds_toArray, List.set_cons_zero, List.set_cons_succ]
          refine' wpTail_take (i := 4) (oi := _) ?hiu1099 ?hsu1099 ?hfu1099 ?hru1099 ?hzu1099 ?hQu1099 (v := _) (Or.inl ⟨?hwu1099, ?hyu1099⟩) (⟨(WB.at_ H1094 (.head _)).cell 0, (WB.at_ H1094 (.head _)).cell 1, (WB.at_ H1094 (.tail _ (.tail _ (.tail _ (.tail _ (.tail _ (.tail _ (.head _)))))))).cell 0, (WB.at_ H1094 (.tail _ (.tail _ (.tail _ (.tail _ (.tail _ (.tail _ (.head _)))))))).cell 1, (WB.at_ H1094 (.tail _ (.tail _ (.head _)))).cell 0, (WB.at_ H1094 (.tail _ (.tail _ (.head _)))).cell 1, (WB.at_ H1094 (.tail _ (.tail _ (.tail _ (.tail _ (.head _)))))).cell 0, (WB.at_ H1094 (.tail _ (.tail _ (.tail _ (.tail _ (.head _)))))).cell 1⟩) ?_
          case hiu1099 => (simp only [List.getElem?_toArray, List.getElem?_cons_succ, List.getElem?_cons_zero]; exact rfl)
          case hsu1099 => kernel_rfl
          case hfu1099 => kernel_rfl
          case hru1099 => kernel_rfl
          case hzu1099 => kernel_rfl
          case hQu1099 => exact fun _ _ _ h => h
          case hwu1099 => rfl
          case hyu1099 => (intro w hSw; (try dsimp only at hSw); go_simp; (try with_reducible rfl))
          try simp only [Act.put, List.setIfInBounds_toArray, List.set_cons_zero, List.set_cons_succ]
          refine' wpTail_take (i := 5) (oi := _) ?hiu1100 ?hsu1100 ?hfu1100 ?hru1100 ?hzu1100 ?hQu1100 (v := _) (Or.inl ⟨?hwu1100, ?hyu1100⟩) (⟨(WB.at_ H1094 (.head _)).cell 0, (WB.at_ H1094 (.head _)).cell 1, (WB.at_ H1094 (.tail _ (.tail _ (.tail _ (.tail _ (.tail _ (.tail _ (.head _)))))))).cell 0, (WB.at_ H1094 (.tail _ (.tail _ (.tail _ (.tail _ (.tail _ (.tail _ (.head _)))))))).cell 1, (WB.at_ H1094 (.tail _ (.tail _ (.head _)))).cell 0, (WB.at_ H1094 (.tail _ (.tail _ (.head _)))).cell 1, (WB.at_ H1094 (.tail _ (.tail _ (.tail _ (.tail _ (.head _)))))).cell 0, (WB.at_ H1094 (.tail _ (.tail _ (.tail _ (.tail _ (.head _)))))).cell 1⟩) ?_
          case hiu1100 => (simp only [List.getElem?_toArray, List.getElem?_cons_succ, List.getElem?_cons_zero]; exact rfl)
          case hsu1100 => kernel_rfl
          case hfu1100 => kernel_rfl
          case hru1100 => kernel_rfl
          case hzu1100 => kernel_rfl
          case hQu1100 => exact fun _ _ _ h => h
          case hwu1100 => rfl
          case hyu1100 => (intro w hSw; (try dsimp only at hSw); go_simp; (try with_reducible rfl))
          try simp only [Act.put, List.setIfInBounds_toArray, List.set_cons_zero, List.set_cons_succ]
          refine' wpTail_take (i := 6) (oi := _) ?hiu1101 ?hsu1101 ?hfu1101 ?hru1101 ?hzu1101 ?hQu1101 (v := _) (Or.inl ⟨?hwu1101, ?hyu1101⟩) (⟨(WB.at_ H1094 (.head _)).cell 0, (WB.at_ H1094 (.head _)).cell 1, (WB.at_ H1094 (.tail _ (.tail _ (.tail _ (.tail _ (.tail _ (.tail _ (.head _)))))))).cell 0, (WB.at_ H1094 (.tail _ (.tail _ (.tail _ (.tail _ (.tail _ (.tail _ (.head _)))))))).cell 1, (WB.at_ H1094 (.tail _ (.tail _ (.head _)))).cell 0, (WB.at_ H1094 (.tail _ (.tail _ (.head _)))).cell 1, (WB.at_ H1094 (.tail _ (.tail _ (.tail _ (.tail _ (.head _)))))).cell 0, (WB.at_ H1094 (.tail _ (.tail _ (.tail _ (.tail _ (.head _)))))).cell 1⟩) ?_
          case hiu1101 => (simp only [List.getElem?_toArray, List.getElem?_cons_succ, List.getElem?_cons_zero]; exact rfl)
          case hsu1101 => kernel_rfl
          case hfu1101 => kernel_rfl
          case hru1101 => kernel_rfl
          case hzu1101 => kernel_rfl
          case hQu1101 => exact fun _ _ _ h => h
          case hwu1101 => rfl
          case hyu1101 => (intro w hSw; (try dsimp only at hSw); go_simp; (try with_reducible rfl))
          try simp only [Act.put, List.setIfInBounds_toArray, List.set_cons_zero, List.set_cons_succ]
          refine' wpTail_take (i := 7) (oi := _) ?hiu1102 ?hsu1102 ?hfu1102 ?hru1102 ?hzu1102 ?hQu1102 (v := _) (Or.inl ⟨?hwu1102, ?hyu1102⟩) (⟨(WB.at_ H1094 (.head _)).cell 0, (WB.at_ H1094 (.head _)).cell 1, (WB.at_ H1094 (.tail _ (.tail _ (.tail _ (.tail _ (.tail _ (.tail _ (.head _)))))))).cell 0, (WB.at_ H1094 (.tail _ (.tail _ (.tail _ (.tail _ (.tail _ (.tail _ (.head _)))))))).cell 1, (WB.at_ H1094 (.tail _ (.tail _ (.head _)))).cell 0, (WB.at_ H1094 (.tail _ (.tail _ (.head _)))).cell 1, (WB.at_ H1094 (.tail _ (.tail _ (.tail _ (.tail _ (.head _)))))).cell 0, (WB.at_ H1094 (.tail _ (.tail _ (.tail _ (.tail _ (.head _)))))).cell 1⟩) ?_
          case hiu1102 => (simp only [List.getElem?_toArray, List.getElem?_cons_succ, List.getElem?_cons_zero]; exact rfl)
          case hsu1102 => kernel_rfl
          case hfu1102 => kernel_rfl
          case hru1102 => kernel_rfl
          case hzu1102 => kernel_rfl
          case hQu1102 => exact fun _ _ _ h => h
          case hwu1102 => rfl
          case hyu1102 => (intro w hSw; (try dsimp only at hSw); go_simp; (try with_reducible rfl))
          try simp only [Act.put, List.setIfInBounds_toArray, List.set_cons_zero, List.set_cons_succ]
          refine' wpTail_take (i := 8) (oi := _) ?hiu1103 ?hsu1103 ?hfu1103 ?hru1103 ?hzu1103 ?hQu1103 (v := _) (Or.inl ⟨?hwu1103, ?hyu1103⟩) (⟨(WB.at_ H1094 (.head _)).cell 0, (WB.at_ H1094 (.head _)).cell 1, (WB.at_ H1094 (.tail _ (.tail _ (.tail _ (.tail _ (.tail _ (.tail _ (.head _)))))))).cell 0, (WB.at_ H1094 (.tail _ (.tail _ (.tail _ (.tail _ (.tail _ (.tail _ (.head _)))))))).cell 1, (WB.at_ H1094 (.tail _ (.tail _ (.head _)))).cell 0, (WB.at_ H1094 (.tail _ (.tail _ (.head _)))).cell 1, (WB.at_ H1094 (.tail _ (.tail _ (.tail _ (.tail _ (.head _)))))).cell 0, (WB.at_ H1094 (.tail _ (.tail _ (.tail _ (.tail _ (.head _)))))).cell 1⟩) ?_
          case hiu1103 => (simp only [List.getElem?_toArray, List.getElem?_cons_succ, List.getElem?_cons_zero]; exact rfl)
          case hsu1103 => kernel_rfl
          case hfu1103 => kernel_rfl
          case hru1103 => kernel_rfl
          case hzu1103 => kernel_rfl
          case hQu1103 => exact fun _ _ _ h => h
          case hwu1103 => rfl
          case hyu1103 => (intro w hSw; (try dsimp only at hSw); go_simp; (try with_reducible rfl))
          try simp only [Act.put, List.setIfInBounds_toArray, List.set_cons_zero, List.set_cons_succ]
          refine' wpTail_take (i := 9) (oi := _) ?hiu1104 ?hsu1104 ?hfu1104 ?hru1104 ?hzu1104 ?hQu1104 (v := _) (Or.inl ⟨?hwu1104, ?hyu1104⟩) (⟨(WB.at_ H1094 (.head _)).cell 0, (WB.at_ H1094 (.head _)).cell 1, (WB.at_ H1094 (.tail _ (.tail _ (.tail _ (.tail _ (.tail _ (.tail _ (.head _)))))))).cell 0, (WB.at_ H1094 (.tail _ (.tail _ (.tail _ (.tail _ (.tail _ (.tail _ (.head _)))))))).cell 1, (WB.at_ H1094 (.tail _ (.tail _ (.head _)))).cell 0, (WB.at_ H1094 (.tail _ (.tail _ (.head _)))).cell 1, (WB.at_ H1094 (.tail _ (.tail _ (.tail _ (.tail _ (.head _)))))).cell 0, (WB.at_ H1094 (.tail _ (.tail _ (.tail _ (.tail _ (.head _)))))).cell 1⟩) ?_
          case hiu1104 => (simp only [List.getElem?_toArray, List.getElem?_cons_succ, List.getElem?_cons_zero]; exact rfl)
          case hsu1104 => kernel_rfl
          case hfu1104 => kernel_rfl
          case hru1104 => kernel_rfl
          case hzu1104 => kernel_rfl
          case hQu1104 => exact fun _ _ _ h => h
          case hwu1104 => rfl
          case hyu1104 => (intro w hSw; (try dsimp only at hSw); go_simp; (try with_reducible rfl))
          try simp only [Act.put, List.setIfInBounds_toArray, List.set_cons_zero, List.set_cons_succ]
          refine' wpTail_take (i := 10) (oi := _) ?hiu1105 ?hsu1105 ?hfu1105 ?hru1105 ?hzu1105 ?hQu1105 (v := _) (Or.inl ⟨?hwu1105, ?hyu1105⟩) (⟨(WB.at_ H1094 (.head _)).cell 0, (WB.at_ H1094 (.head _)).cell 1, (WB.at_ H1094 (.tail _ (.tail _ (.tail _ (.tail _ (.tail _ (.tail _ (.head _)))))))).cell 0, (WB.at_ H1094 (.tail _ (.tail _ (.tail _ (.tail _ (.tail _ (.tail _ (.head _)))))))).cell 1, (WB.at_ H1094 (.tail _ (.tail _ (.head _)))).cell 0, (WB.at_ H1094 (.tail _ (.tail _ (.head _)))).cell 1, (WB.at_ H1094 (.tail _ (.tail _ (.tail _ (.tail _ (.head _)))))).cell 0, (WB.at_ H1094 (.tail _ (.tail _ (.tail _ (.tail _ (.head _)))))).cell 1⟩) ?_
          case hiu1105 => (simp only [List.getElem?_toArray, List.getElem?_cons_succ, List.getElem?_cons_zero]; exact rfl)
          case hsu1105 => kernel_rfl
          case hfu1105 => kernel_rfl
          case hru1105 => kernel_rfl
          case hzu1105 => kernel_rfl
          case hQu1105 => exact fun _ _ _ h => h
          case hwu1105 => rfl
          case hyu1105 => (intro w hSw; (try dsimp only at hSw); go_simp; (try with_reducible rfl))
          try simp only [Act.put, List.setIfInBounds_toArray, List.set_cons_zero, List.set_cons_succ]
          refine' wpTail_take (i := 11) (oi := _) ?hiu1106 ?hsu1106 ?hfu1106 ?hru1106 ?hzu1106 ?hQu1106 (v := _) (Or.inl ⟨?hwu1106, ?hyu1106⟩) (⟨(WB.at_ H1094 (.head _)).cell 0, (WB.at_ H1094 (.head _)).cell 1, (WB.at_ H1094 (.tail _ (.tail _ (.tail _ (.tail _ (.tail _ (.tail _ (.head _)))))))).cell 0, (WB.at_ H1094 (.tail _ (.tail _ (.tail _ (.tail _ (.tail _ (.tail _ (.head _)))))))).cell 1, (WB.at_ H1094 (.tail _ (.tail _ (.head _)))).cell 0, (WB.at_ H1094 (.tail _ (.tail _ (.head _)))).cell 1, (WB.at_ H1094 (.tail _ (.tail _ (.tail _ (.tail _ (.head _)))))).cell 0, (WB.at_ H1094 (.tail _ (.tail _ (.tail _ (.tail _ (.head _)))))).cell 1⟩) ?_
          case hiu1106 => (simp only [List.getElem?_toArray, List.getElem?_cons_succ, List.getElem?_cons_zero]; exact rfl)
          case hsu1106 => kernel_rfl
          case hfu1106 => kernel_rfl
          case hru1106 => kernel_rfl
          case hzu1106 => kernel_rfl
          case hQu1106 => exact fun _ _ _ h => h
          case hwu1106 => rfl
          case hyu1106 => (intro w hSw; (try dsimp only at hSw); go_simp; (try with_reducible rfl))
          try simp only [Act.put, List.setIfInBounds_toArray, List.set_cons_zero, List.set_cons_succ]
          refine' wpTail_take (i := 12) (oi := _) ?hiu1107 ?hsu1107 ?hfu1107 ?hru1107 ?hzu1107 ?hQu1107 (v := _) (Or.inl ⟨?hwu1107, ?hyu1107⟩) (⟨(WB.at_ H1094 (.head _)).cell 0, (WB.at_ H1094 (.head _)).cell 1, (WB.at_ H1094 (.tail _ (.tail _ (.tail _ (.tail _ (.tail _ (.tail _ (.head _)))))))).cell 0, (WB.at_ H1094 (.tail _ (.tail _ (.tail _ (.tail _ (.tail _ (.tail _ (.head _)))))))).cell 1, (WB.at_ H1094 (.tail _ (.tail _ (.head _)))).cell 0, (WB.at_ H1094 (.tail _ (.tail _ (.head _)))).cell 1, (WB.at_ H1094 (.tail _ (.tail _ (.tail _ (.tail _ (.head _)))))).cell 0, (WB.at_ H1094 (.tail _ (.tail _ (.tail _ (.tail _ (.head _)))))).cell 1⟩) ?_
          case hiu1107 => (simp only [List.getElem?_toArray, List.getElem?_cons_succ, List.getElem?_cons_zero]; exact rfl)
          case hsu1107 => kernel_rfl
          case hfu1107 => kernel_rfl
          case hru1107 => kernel_rfl
          case hzu1107 => kernel_rfl
          case hQu1107 => exact fun _ _ _ h => h
          case hwu1107 => rfl
          case hyu1107 => (intro w hSw; (try dsimp only at hSw); go_simp; (try with_reducible rfl))
          try simp only [Act.put, List.setIfInBounds_toArray, List.set_cons_zero, List.set_cons_succ]
          refine' wpTail_take (i := 13) (oi := _) ?hiu1108 ?hsu1108 ?hfu1108 ?hru1108 ?hzu1108 ?hQu1108 (v := _) (Or.inl ⟨?hwu1108, ?hyu1108⟩) (⟨(WB.at_ H1094 (.head _)).cell 0, (WB.at_ H1094 (.head _)).cell 1, (WB.at_ H1094 (.tail _ (.tail _ (.tail _ (.tail _ (.tail _ (.tail _ (.head _)))))))).cell 0, (WB.at_ H1094 (.tail _ (.tail _ (.tail _ (.tail _ (.tail _ (.tail _ (.head _)))))))).cell 1, (WB.at_ H1094 (.tail _ (.tail _ (.head _)))).cell 0, (WB.at_ H1094 (.tail _ (.tail _ (.head _)))).cell 1, (WB.at_ H1094 (.tail _ (.tail _ (.tail _ (.tail _ (.head _)))))).cell 0, (WB.at_ H1094 (.tail _ (.tail _ (.tail _ (.tail _ (.head _)))))).cell 1⟩) ?_
          case hiu1108 => (simp only [List.getElem?_toArray, List.getElem?_cons_succ, List.getElem?_cons_zero]; exact rfl)
          case hsu1108 => kernel_rfl
          case hfu1108 => kernel_rfl
          case hru1108 => kernel_rfl
          case hzu1108 => kernel_rfl
          case hQu1108 => exact fun _ _ _ h => h
          case hwu1108 => rfl
          case hyu1108 => (intro w hSw; (try dsimp only at hSw); go_simp; (try with_reducible rfl))
          try simp only [Act.put, List.setIfInBounds_toArray, List.set_cons_zero, List.set_cons_succ]
          refine' wpTail_take (i := 14) (oi := _) ?hiu1109 ?hsu1109 ?hfu1109 ?hru1109 ?hzu1109 ?hQu1109 (v := _) (Or.inl ⟨?hwu1109, ?hyu1109⟩) (⟨(WB.at_ H1094 (.head _)).cell 0, (WB.at_ H1094 (.head _)).cell 1, (WB.at_ H1094 (.tail _ (.tail _ (.tail _ (.tail _ (.tail _ (.tail _ (.head _)))))))).cell 0, (WB.at_ H1094 (.tail _ (.tail _ (.tail _ (.tail _ (.tail _ (.tail _ (.head _)))))))).cell 1, (WB.at_ H1094 (.tail _ (.tail _ (.head _)))).cell 0, (WB.at_ H1094 (.tail _ (.tail _ (.head _)))).cell 1, (WB.at_ H1094 (.tail _ (.tail _ (.tail _ (.tail _ (.head _)))))).cell 0, (WB.at_ H1094 (.tail _ (.tail _ (.tail _ (.tail _ (.head _)))))).cell 1⟩) ?_
          case hiu1109 => (simp only [List.getElem?_toArray, List.getElem?_cons_succ, List.getElem?_cons_zero]; exact rfl)
          case hsu1109 => kernel_rfl
          case hfu1109 => kernel_rfl
          case hru1109 => kernel_rfl
          case hzu1109 => kernel_rfl
          case hQu1109 => exact fun _ _ _ h => h
          case hwu1109 => rfl
          case hyu1109 => (intro w hSw; (try dsimp only at hSw); go_simp; (try with_reducible rfl))
          try simp only [Act.put, List.setIfInBounds_toArray, List.set_cons_zero, List.set_cons_succ]
          refine' wpTail_take (i := 15) (oi := _) ?hiu1110 ?hsu1110 ?hfu1110 ?hru1110 ?hzu1110 ?hQu1110 (v := _) (Or.inl ⟨?hwu1110, ?hyu1110⟩) (⟨(WB.at_ H1094 (.head _)).cell 0, (WB.at_ H1094 (.head _)).cell 1, (WB.at_ H1094 (.tail _ (.tail _ (.tail _ (.tail _ (.tail _ (.tail _ (.head _)))))))).cell 0, (WB.at_ H1094 (.tail _ (.tail _ (.tail _ (.tail _ (.tail _ (.tail _ (.head _)))))))).cell 1, (WB.at_ H1094 (.tail _ (.tail _ (.head _)))).cell 0, (WB.at_ H1094 (.tail _ (.tail _ (.head _)))).cell 1, (WB.at_ H1094 (.tail _ (.tail _ (.tail _ (.tail _ (.head _)))))).cell 0, (WB.at_ H1094 (.tail _ (.tail _ (.tail _ (.tail _ (.head _)))))).cell 1⟩) ?_
          case hiu1110 => (simp only [List.getElem?_toArray, List.getElem?_cons_succ, List.getElem?_cons_zero]; exact rfl)
          case hsu1110 => kernel_rfl
          case hfu1110 => kernel_rfl
          case hru1110 => kernel_rfl
          case hzu1110 => kernel_rfl
          case hQu1110 => exact fun _ _ _ h => h
          case hwu1110 => rfl
          case hyu1110 => (intro w hSw; (try dsimp only at hSw); go_simp; (try with_reducible rfl))
          try simp only [Act.put, List.setIfInBounds_toArray, List.set_cons_zero, List.set_cons_succ]
          refine' wpTail_take (i := 16) (oi := _) ?hiu1111 ?hsu1111 ?hfu1111 ?hru1111 ?hzu1111 ?hQu1111 (v := _) (Or.inl ⟨?hwu1111, ?hyu1111⟩) (⟨(WB.at_ H1094 (.head _)).cell 0, (WB.at_ H1094 (.head _)).cell 1, (WB.at_ H1094 (.tail _ (.tail _ (.tail _ (.tail _ (.tail _ (.tail _ (.head _)))))))).cell 0, (WB.at_ H1094 (.tail _ (.tail _ (.tail _ (.tail _ (.tail _ (.tail _ (.head _)))))))).cell 1, (WB.at_ H1094 (.tail _ (.tail _ (.head _)))).cell 0, (WB.at_ H1094 (.tail _ (.tail _ (.head _)))).cell 1, (WB.at_ H1094 (.tail _ (.tail _ (.tail _ (.tail _ (.head _)))))).cell 0, (WB.at_ H1094 (.tail _ (.tail _ (.tail _ (.tail _ (.head _)))))).cell 1⟩) ?_
          case hiu1111 => (simp only [List.getElem?_toArray, List.getElem?_cons_succ, List.getElem?_cons_zero]; exact rfl)
          case hsu1111 => kernel_rfl
          case hfu1111 => kernel_rfl
          case hru1111 => kernel_rfl
          case hzu1111 => kernel_rfl
          case hQu1111 => exact fun _ _ _ h => h
          case hwu1111 => rfl
          case hyu1111 => (intro w hSw; (try dsimp only at hSw); go_simp; (try with_reducible rfl))
          try simp only [Act.put, List.setIfInBounds_toArray, List.set_cons_zero, List.set_cons_succ]
          refine' wpTail_take (i := 17) (oi := _) ?hiu1112 ?hsu1112 ?hfu1112 ?hru1112 ?hzu1112 ?hQu1112 (v := _) (Or.inl ⟨?hwu1112, ?hyu1112⟩) (⟨(WB.at_ H1094 (.head _)).cell 0, (WB.at_ H1094 (.head _)).cell 1, (WB.at_ H1094 (.tail _ (.tail _ (.tail _ (.tail _ (.tail _ (.tail _ (.head _)))))))).cell 0, (WB.at_ H1094 (.tail _ (.tail _ (.tail _ (.tail _ (.tail _ (.tail _ (.head _)))))))).cell 1, (WB.at_ H1094 (.tail _ (.tail _ (.head _)))).cell 0, (WB.at_ H1094 (.tail _ (.tail _ (.head _)))).cell 1, (WB.at_ H1094 (.tail _ (.tail _ (.tail _ (.tail _ (.head _)))))).cell 0, (WB.at_ H1094 (.tail _ (.tail _ (.tail _ (.tail _ (.head _)))))).cell 1⟩) ?_
          case hiu1112 => (simp only [List.getElem?_toArray, List.getElem?_cons_succ, List.getElem?_cons_zero]; exact rfl)
          case hsu1112 => kernel_rfl
          case hfu1112 => kernel_rfl
          case hru1112 => kernel_rfl
          case hzu1112 => kernel_rfl
          case hQu1112 => exact fun _ _ _ h => h
          case hwu1112 => rfl
          case hyu1112 => (intro w hSw; (try dsimp only at hSw); go_simp; (try with_reducible rfl))
          try simp only [Act.put, List.setIfInBounds_toArray, List.set_cons_zero, List.set_cons_succ]
          refine' wpTail_take (i := 20) (oi := _) ?hiu1113 ?hsu1113 ?hfu1113 ?hru1113 ?hzu1113 ?hQu1113 (v := _) (Or.inl ⟨?hwu1113, ?hyu1113⟩) (⟨(WB.at_ H1094 (.head _)).cell 0, (WB.at_ H1094 (.head _)).cell 1, (WB.at_ H1094 (.tail _ (.tail _ (.tail _ (.tail _ (.tail _ (.tail _ (.head _)))))))).cell 0, (WB.at_ H1094 (.tail _ (.tail _ (.tail _ (.tail _ (.tail _ (.tail _ (.head _)))))))).cell 1, (WB.at_ H1094 (.tail _ (.tail _ (.head _)))).cell 0, (WB.at_ H1094 (.tail _ (.tail _ (.head _)))).cell 1, (WB.at_ H1094 (.tail _ (.tail _ (.tail _ (.tail _ (.head _)))))).cell 0, (WB.at_ H1094 (.tail _ (.tail _ (.tail _ (.tail _ (.head _)))))).cell 1⟩) ?_
          case hiu1113 => (simp only [List.getElem?_toArray, List.getElem?_cons_succ, List.getElem?_cons_zero]; exact rfl)
          case hsu1113 => kernel_rfl
          case hfu1113 => kernel_rfl
          case hru1113 => kernel_rfl
          case hzu1113 => kernel_rfl
          case hQu1113 => exact fun _ _ _ h => h
          case hwu1113 => rfl
          case hyu1113 => (intro w hSw; (try dsimp only at hSw); go_simp; (try with_reducible rfl))
          try simp only [Act.put, List.setIfInBounds_toArray, List.set_cons_zero, List.set_cons_succ]
          refine' wpTail_take (i := 21) (oi := _) ?hiu1114 ?hsu1114 ?hfu1114 ?hru1114 ?hzu1114 ?hQu1114 (v := _) (Or.inl ⟨?hwu1114, ?hyu1114⟩) (⟨(WB.at_ H1094 (.head _)).cell 0, (WB.at_ H1094 (.head _)).cell 1, (WB.at_ H1094 (.tail _ (.tail _ (.tail _ (.tail _ (.tail _ (.tail _ (.head _)))))))).cell 0, (WB.at_ H1094 (.tail _ (.tail _ (.tail _ (.tail _ (.tail _ (.tail _ (.head _)))))))).cell 1, (WB.at_ H1094 (.tail _ (.tail _ (.head _)))).cell 0, (WB.at_ H1094 (.tail _ (.tail _ (.head _)))).cell 1, (WB.at_ H1094 (.tail _ (.tail _ (.tail _ (.tail _ (.head _)))))).cell 0, (WB.at_ H1094 (.tail _ (.tail _ (.tail _ (.tail _ (.head _)))))).cell 1⟩) ?_
          case hiu1114 => (simp only [List.getElem?_toArray, List.getElem?_cons_succ, List.getElem?_cons_zero]; exact rfl)
          case hsu1114 => kernel_rfl
          case hfu1114 => kernel_rfl
          case hru1114 => kernel_rfl
          case hzu1114 => kernel_rfl
          case hQu1114 => exact fun _ _ _ h => h
          case hwu1114 => rfl
          case hyu1114 => (intro w hSw; (try dsimp only at hSw); go_simp; (try with_reducible rfl))
          try simp only [Act.put, List.setIfInBounds_toArray, List.set_cons_zero, List.set_cons_succ]
          refine' wpTail_one (i := 18) (o := _) (by kernel_rfl) ?hou1116 ?hwu1116 (fun K hK => ?_)
          case hou1116 => (simp only [List.getElem?_toArray, List.getElem?_cons_succ, List.getElem?_cons_zero]; exact rfl)
          case hwu1116 => rfl
          go_simp
          (with_reducible refine (HCR.out _).mono ?_)
          rintro e v1115 ⟨rfl, hb1115⟩
          have M1115 := WB.next hb1115 H1094
          refine hK.out _ _ (fun _ => ⟨(WB.at_ M1115 (.head _)).cell 0, (WB.at_ M1115 (.head _)).cell 1, (WB.at_ M1115 (.tail _ (.tail _ (.tail _ (.tail _ (.tail _ (.tail _ (.head _)))))))).cell 0, (WB.at_ M1115 (.tail _ (.tail _ (.tail _ (.tail _ (.tail _ (.tail _ (.head _)))))))).cell 1, (WB.at_ M1115 (.tail _ (.tail _ (.head _)))).cell 0, (WB.at_ M1115 (.tail _ (.tail _ (.head _)))).cell 1, (WB.at_ M1115 (.tail _ (.tail _ (.tail _ (.tail _ (.head _)))))).cell 0, (WB.at_ M1115 (.tail _ (.tail _ (.tail _ (.tail _ (.head _)))))).cell 1⟩) ?_
          clear hK K hb1115
          try simp only [Act.put, List.setIfInBounds_toArray, List.set_cons_zero, List.set_cons_succ]
          refine' wpTail_take (i := 19) (oi := _) ?hiu1117 ?hsu1117 ?hfu1117 ?hru1117 ?hzu1117 ?hQu1117 (v := _) (Or.inl ⟨?hwu1117, ?hyu1117⟩) (⟨(WB.at_ M1115 (.head _)).cell 0, (WB.at_ M1115 (.head _)).cell 1, (WB.at_ M1115 (.tail _ (.tail _ (.tail _ (.tail _ (.tail _ (.tail _ (.head _)))))))).cell 0, (WB.at_ M1115 (.tail _ (.tail _ (.tail _ (.tail _ (.tail _ (.tail _ (.head _)))))))).cell 1, (WB.at_ M1115 (.tail _ (.tail _ (.head _)))).cell 0, (WB.at_ M1115 (.tail _ (.tail _ (.head _)))).cell 1, (WB.at_ M1115 (.tail _ (.tail _ (.tail _ (.tail _ (.head _)))))).cell 0, (WB.at_ M1115 (.tail _ (.tail _ (.tail _ (.tail _ (.head _)))))).cell 1⟩) ?_
          case hiu1117 => (simp only [List.getElem?_toArray, List.getElem?_cons_succ, List.getElem?_cons_zero]; exact rfl)
          case hsu1117 => kernel_rfl
          case hfu1117 => kernel_rfl
          case hru1117 => kernel_rfl
          case hzu1117 => kernel_rfl
          case hQu1117 => exact fun _ _ _ h => h
          case hwu1117 => rfl
          case hyu1117 => (intro w hSw; (try dsimp only at hSw); go_simp; (try with_reducible rfl))
          try simp only [Act.put, List.setIfInBounds_toArray, List.set_cons_zero, List.set_cons_succ]
          refine' wpTail_one (i := 22) (o := _) (by kernel_rfl) ?hou1119 ?hwu1119 (fun K hK => ?_)
          case hou1119 => (simp only [List.getElem?_toArray, List.getElem?_cons_succ, List.getElem?_cons_zero]; exact rfl)
          case hwu1119 => rfl
          go_simp
          (with_reducible refine (HCA.out _).mono ?_)
          rintro e v1118 ⟨rfl, hb1118⟩
          have M1118 := WB.next hb1118 M1115
          refine hK.out _ _ (fun _ => ⟨(WB.at_ M1118 (.head _)).cell 0, (WB.at_ M1118 (.head _)).cell 1, (WB.at_ M1118 (.tail _ (.tail _ (.tail _ (.tail _ (.tail _ (.tail _ (.head _)))))))).cell 0, (WB.at_ M1118 (.tail _ (.tail _ (.tail _ (.tail _ (.tail _ (.tail _ (.head _)))))))).cell 1, (WB.at_ M1118 (.tail _ (.tail _ (.head _)))).cell 0, (WB.at_ M1118 (.tail _ (.tail _ (.head _)))).cell 1, (WB.at_ M1118 (.tail _ (.tail _ (.tail _ (.tail _ (.head _)))))).cell 0, (WB.at_ M1118 (.tail _ (.tail _ (.tail _ (.tail _ (.head _)))))).cell 1⟩) ?_
          clear hK K hb1118
          try simp only [Act.put, List.setIfInBounds_toArray, List.set_cons_zero, List.set_cons_succ]
          refine' wpTail_take (i := 23) (oi := _) ?hiu1120 ?hsu1120 ?hfu1120 ?hru1120 ?hzu1120 ?hQu1120 (v := _) (Or.inl ⟨?hwu1120, ?hyu1120⟩) (⟨(WB.at_ M1118 (.head _)).cell 0, (WB.at_ M1118 (.head _)).cell 1, (WB.at_ M1118 (.tail _ (.tail _ (.tail _ (.tail _ (.tail _ (.tail _ (.head _)))))))).cell 0, (WB.at_ M1118 (.tail _ (.tail _ (.tail _ (.tail _ (.tail _ (.tail _ (.head _)))))))).cell 1, (WB.at_ M1118 (.tail _ (.tail _ (.head _)))).cell 0, (WB.at_ M1118 (.tail _ (.tail _ (.head _)))).cell 1, (WB.at_ M1118 (.tail _ (.tail _ (.tail _ (.tail _ (.head _)))))).cell 0, (WB.at_ M1118 (.tail _ (.tail _ (.tail _ (.tail _ (.head _)))))).cell 1⟩) ?_
          case hiu1120 => (simp only [List.getElem?_toArray, List.getElem?_cons_succ, List.getElem?_cons_zero]; exact rfl)
          case hsu1120 => kernel_rfl
          case hfu1120 => kernel_rfl
          case hru1120 => kernel_rfl
          case hzu1120 => kernel_rfl
          case hQu1120 => exact fun _ _ _ h => h
          case hwu1120 => rfl
          case hyu1120 => (intro w hSw; (try dsimp only at hSw); go_simp; (try with_reducible rfl))
          try simp only [Act.put, List.setIfInBounds_toArray, List.set_cons_zero, List.set_cons_succ]
          refine' wpTail_take (i := 24) (oi := _) ?hiu1121 ?hsu1121 ?hfu1121 ?hru1121 ?hzu1121 ?hQu1121 (v := _) (Or.inl ⟨?hwu1121, ?hyu1121⟩) (⟨(WB.at_ M1118 (.head _)).cell 0, (WB.at_ M1118 (.head _)).cell 1, (WB.at_ M1118 (.tail _ (.tail _ (.tail _ (.tail _ (.tail _ (.tail _ (.head _)))))))).cell 0, (WB.at_ M1118 (.tail _ (.tail _ (.tail _ (.tail _ (.tail _ (.tail _ (.head _)))))))).cell 1, (WB.at_ M1118 (.tail _ (.tail _ (.head _)))).cell 0, (WB.at_ M1118 (.tail _ (.tail _ (.head _)))).cell 1, (WB.at_ M1118 (.tail _ (.tail _ (.tail _ (.tail _ (.head _)))))).cell 0, (WB.at_ M1118 (.tail _ (.tail _ (.tail _ (.tail _ (.head _)))))).cell 1⟩) ?_
          case hiu1121 => (simp only [List.getElem?_toArray, List.getElem?_cons_succ, List.getElem?_cons_zero]; exact rfl)
          case hsu1121 => kernel_rfl
          case hfu1121 => kernel_rfl
          case hru1121 => kernel_rfl
          case hzu1121 => kernel_rfl
          case hQu1121 => exact fun _ _ _ h => h
          case hwu1121 => rfl
          case hyu1121 => (intro w hSw; (try dsimp only at hSw); go_simp; (try with_reducible rfl))
          try simp only [Act.put, List.setIfInBounds_toArray, List.set_cons_zero, List.set_cons_succ]
          refine' wpTail_take (i := 25) (oi := _) ?hiu1122 ?hsu1122 ?hfu1122 ?hru1122 ?hzu1122 ?hQu1122 (v := _) (Or.inl ⟨?hwu1122, ?hyu1122⟩) (⟨(WB.at_ M1118 (.head _)).cell 0, (WB.at_ M1118 (.head _)).cell 1, (WB.at_ M1118 (.tail _ (.tail _ (.tail _ (.tail _ (.tail _ (.tail _ (.head _)))))))).cell 0, (WB.at_ M1118 (.tail _ (.tail _ (.tail _ (.tail _ (.tail _ (.tail _ (.head _)))))))).cell 1, (WB.at_ M1118 (.tail _ (.tail _ (.head _)))).cell 0, (WB.at_ M1118 (.tail _ (.tail _ (.head _)))).cell 1, (WB.at_ M1118 (.tail _ (.tail _ (.tail _ (.tail _ (.head _)))))).cell 0, (WB.at_ M1118 (.tail _ (.tail _ (.tail _ (.tail _ (.head _)))))).cell 1⟩) ?_
          case hiu1122 => (simp only [List.getElem?_toArray, List.getElem?_cons_succ, List.getElem?_cons_zero]; exact rfl)
          case hsu1122 => kernel_rfl
          case hfu1122 => kernel_rfl
          case hru1122 => kernel_rfl
          case hzu1122 => kernel_rfl
          case hQu1122 => exact fun _ _ _ h => h
          case hwu1122 => rfl
          case hyu1122 => (intro w hSw; (try dsimp only at hSw); go_simp; (try with_reducible rfl))
          try simp only [Act.put, List.setIfInBounds_toArray, List.set_cons_zero, List.set_cons_succ]
          refine' wpTail_take (i := 26) (oi := _) ?hiu1123 ?hsu1123 ?hfu1123 ?hru1123 ?hzu1123 ?hQu1123 (v := _) (Or.inl ⟨?hwu1123, ?hyu1123⟩) (⟨(WB.at_ M1118 (.head _)).cell 0, (WB.at_ M1118 (.head _)).cell 1, (WB.at_ M1118 (.tail _ (.tail _ (.tail _ (.tail _ (.tail _ (.tail _ (.head _)))))))).cell 0, (WB.at_ M1118 (.tail _ (.tail _ (.tail _ (.tail _ (.tail _ (.tail _ (.head _)))))))).cell 1, (WB.at_ M1118 (.tail _ (.tail _ (.head _)))).cell 0, (WB.at_ M1118 (.tail _ (.tail _ (.head _)))).cell 1, (WB.at_ M1118 (.tail _ (.tail _ (.tail _ (.tail _ (.head _)))))).cell 0, (WB.at_ M1118 (.tail _ (.tail _ (.tail _ (.tail _ (.head _)))))).cell 1⟩) ?_
          case hiu1123 => (simp only [List.getElem?_toArray, List.getElem?_cons_succ, List.getElem?_cons_zero]; exact rfl)
          case hsu1123 => kernel_rfl
          case hfu1123 => kernel_rfl
          case hru1123 => kernel_rfl
          case hzu1123 => kernel_rfl
          case hQu1123 => exact fun _ _ _ h => h
          case hwu1123 => rfl
          case hyu1123 => (intro w hSw; (try dsimp only at hSw); go_simp; (try with_reducible rfl))
          try simp only [Act.put, List.setIfInBounds_toArray, List.set_cons_zero, List.set_cons_succ]
          refine wpTail_done (by kernel_rfl) ?_ _
          go_wp2_with fail
          go_meet
          exact ⟨rfl, M1118⟩
        · skip
          have H1124 := WB.drew H1065
          refine wp_region_tail 99 (fun w' => w'.cell? ⟨g12, 0, none⟩ = some (.int .u64 ah) ∧ w'.cell? ⟨g12, 1, none⟩ = some (.int .u64 al) ∧ w'.cell? ⟨s, 0, none⟩ = some (.int .u64 ah) ∧ w'.cell? ⟨s, 1, none⟩ = some (.int .u64 al) ∧ w'.cell? ⟨g8, 0, none⟩ = some (.int .u64 rh) ∧ w'.cell? ⟨g8, 1, none⟩ = some (.int .u64 rl) ∧ w'.cell? ⟨g5, 0, none⟩ = some (.int .u64 0) ∧ w'.cell? ⟨g5, 1, none⟩ = some (.int .u64 0)) (by kernel_rfl) ⟨(WB.at_ H1124 (.head _)).cell 0, (WB.at_ H1124 (.head _)).cell 1, (WB.at_ H1124 (.tail _ (.tail _ (.tail _ (.tail _ (.tail _ (.tail _ (.head _)))))))).cell 0, (WB.at_ H1124 (.tail _ (.tail _ (.tail _ (.tail _ (.tail _ (.tail _ (.head _)))))))).cell 1, (WB.at_ H1124 (.tail _ (.tail _ (.head _)))).cell 0, (WB.at_ H1124 (.tail _ (.tail _ (.head _)))).cell 1, (WB.at_ H1124 (.tail _ (.tail _ (.tail _ (.tail _ (.head _)))))).cell 0, (WB.at_ H1124 (.tail _ (.tail _ (.tail _ (.tail _ (.head _)))))).cell 1⟩ (fun hHeld => ?_)
          clear hHeld
          try simp only [Act.put, List.setIfInBounds_toArray, List.set_cons_zero, List.set_cons_succ]
          refine' wpTail_take (i := 0) (oi := _) ?hiu1125 ?hsu1125 ?hfu1125 ?hru1125 ?hzu1125 ?hQu1125 (v := _) (Or.inl ⟨?hwu1125, ?hyu1125⟩) (⟨(WB.at_ H1124 (.head _)).cell 0, (WB.at_ H1124 (.head _)).cell 1, (WB.at_ H1124 (.tail _ (.tail _ (.tail _ (.tail _ (.tail _ (.tail _ (.head _)))))))).cell 0, (WB.at_ H1124 (.tail _ (.tail _ (.tail _ (.tail _ (.tail _ (.tail _ (.head _)))))))).cell 1, (WB.at_ H1124 (.tail _ (.tail _ (.head _)))).cell 0, (WB.at_ H1124 (.tail _ (.tail _ (.head _)))).cell 1, (WB.at_ H1124 (.tail _ (.tail _ (.tail _ (.tail _ (.head _)))))).cell 0, (WB.at_ H1124 (.tail _ (.tail _ (.tail _ (.tail _ (.head _)))))).cell 1⟩) ?_
          case hiu1125 => (simp only [List.getElem?_toArray, List.getElem?_cons_zero]; exact rfl)
          case hsu1125 => kernel_rfl
          case hfu1125 => kernel_rfl
          case hru1125 => kernel_rfl
          case hzu1125 => kernel_rfl
          case hQu1125 => exact fun _ _ _ h => h
          case hwu1125 => rfl
          case hyu1125 => (intro w hSw; (try dsimp only at hSw); go_simp; (try with_reducible rfl))
          try simp only [Act.put, List.setIfInBounds_toArray, List.set_cons_zero, List.set_cons_succ]
          refine' wpTail_take (i := 1) (oi := _) ?hiu1126 ?hsu1126 ?hfu1126 ?hru1126 ?hzu1126 ?hQu1126 (v := _) (Or.inl ⟨?hwu1126, ?hyu1126⟩) (⟨(WB.at_ H1124 (.head _)).cell 0, (WB.at_ H1124 (.head _)).cell 1, (WB.at_ H1124 (.tail _ (.tail _ (.tail _ (.tail _ (.tail _ (.tail _ (.head _)))))))).cell 0, (WB.at_ H1124 (.tail _ (.tail _ (.tail _ (.tail _ (.tail _ (.tail _ (.head _)))))))).cell 1, (WB.at_ H1124 (.tail _ (.tail _ (.head _)))).cell 0, (WB.at_ H1124 (.tail _ (.tail _ (.head _)))).cell 1, (WB.at_ H1124 (.tail _ (.tail _ (.tail _ (.tail _ (.head _)))))).cell 0, (WB.at_ H1124 (.tail _ (.tail _ (.tail _ (.tail _ (.head _)))))).cell 1⟩) ?_
          case hiu1126 => (simp only [List.getElem?_toArray, List.getElem?_cons_succ, List.getElem?_cons_zero]; exact rfl)
          case hsu1126 => kernel_rfl
          case hfu1126 => kernel_rfl
          case hru1126 => kernel_rfl
          case hzu1126 => kernel_rfl
          case hQu1126 => exact fun _ _ _ h => h
          case hwu1126 => rfl
          case hyu1126 => (intro w hSw; (try dsimp only at hSw); go_simp; (try with_reducible rfl))
          try simp only [Act.put, List.setIfInBounds_toArray, List.set_cons_zero, List.set_cons_succ]
          refine' wpTail_take (i := 2) (oi := _) ?hiu1127 ?hsu1127 ?hfu1127 ?hru1127 ?hzu1127 ?hQu1127 (v := _) (Or.inl ⟨?hwu1127, ?hyu1127⟩) (⟨(WB.at_ H1124 (.head _)).cell 0, (WB.at_ H1124 (.head _)).cell 1, (WB.at_ H1124 (.tail _ (.tail _ (.tail _ (.tail _ (.tail _ (.tail _ (.head _)))))))).cell 0, (WB.at_ H1124 (.tail _ (.tail _ (.tail _ (.tail _ (.tail _ (.tail _ (.head _)))))))).cell 1, (WB.at_ H1124 (.tail _ (.tail _ (.head _)))).cell 0, (WB.at_ H1124 (.tail _ (.tail _ (.head _)))).cell 1, (WB.at_ H1124 (.tail _ (.tail _ (.tail _ (.tail _ (.head _)))))).cell 0, (WB.at_ H1124 (.tail _ (.tail _ (.tail _ (.tail _ (.head _)))))).cell 1⟩) ?_
          case hiu1127 => (simp only [List.getElem?_toArray, List.getElem?_cons_succ, List.getElem?_cons_zero]; exact rfl)
          case hsu1127 => kernel_rfl
          case hfu1127 => kernel_rfl
          case hru1127 => kernel_rfl
          case hzu1127 => kernel_rfl
          case hQu1127 => exact fun _ _ _ h => h
          case hwu1127 => rfl
          case hyu1127 => (intro w hSw; (try dsimp only at hSw); go_simp; (try with_reducible rfl))
          try simp only [Act.put, List.setIfInBounds_toArray, List.set_cons_zero, List.set_cons_succ]
          refine' wpTail_take (i := 3) (oi := _) ?hiu1128 ?hsu1128 ?hfu1128 ?hru1128 ?hzu1128 ?hQu1128 (v := _) (Or.inl ⟨?hwu1128, ?hyu1128⟩) (⟨(WB.at_ H1124 (.head _)).cell 0, (WB.at_ H1124 (.head _)).cell 1, (WB.at_ H1124 (.tail _ (.tail _ (.tail _ (.tail _ (.tail _ (.tail _ (.head _)))))))).cell 0, (WB.at_ H1124 (.tail _ (.tail _ (.tail _ (.tail _ (.tail _ (.tail _ (.head _)))))))).cell 1, (WB.at_ H1124 (.tail _ (.tail _ (.head _)))).cell 0, (WB.at_ H1124 (.tail _ (.tail _ (.head _)))).cell 1, (WB.at_ H1124 (.tail _ (.tail _ (.tail _ (.tail _ (.head _)))))).cell 0, (WB.at_ H1124 (.tail _ (.tail _ (.tail _ (.tail _ (.head _)))))).cell 1⟩) ?_
          case hiu1128 => (simp only [List.getElem?_toArray, List.getElem?_cons_succ, List.getElem?_cons_zero]; exact rfl)
          case hsu1128 => kernel_rfl
          case hfu1128 => kernel_rfl
          case hru1128 => kernel_rfl
          case hzu1128 => kernel_rfl
          case hQu1128 => exact fun _ _ _ h => h
          case hwu1128 => rfl
          case hyu1128 => (intro w hSw; (try dsimp only at hSw); go_simp; (try with_reducible rfl))
          try simp only [Act.put, List.setIfInBounds_toArray, List.set_cons_zero, List.set_cons_succ]
          refine' wpTail_take (i := 4) (oi := _) ?hiu1129 ?hsu1129 ?hfu1129 ?hru1129 ?hzu1129 ?hQu1129 (v := _) (Or.inl ⟨?hwu1129, ?hyu1129⟩) (⟨(WB.at_ H1124 (.head _)).cell 0, (WB.at_ H1124 (.head _)).cell 1, (WB.at_ H1124 (.tail _ (.tail _ (.tail _ (.tail _ (.tail _ (.tail _ (.head _)))))))).cell 0, (WB.at_ H1124 (.tail _ (.tail _ (.tail _ (.tail _ (.tail _ (.tail _ (.head _)))))))).cell 1, (WB.at_ H1124 (.tail _ (.tail _ (.head _)))).cell 0, (WB.at_ H1124 (.tail _ (.tail _ (.head _)))).cell 1, (WB.at_ H1124 (.tail _ (.tail _ (.tail _ (.tail _ (.head _)))))).cell 0, (WB.at_ H1124 (.tail _ (.tail _ (.tail _ (.tail _ (.head _)))))).cell 1⟩) ?_
          case hiu1129 => (simp only [List.getElem?_toArray, List.getElem?_cons_succ, List.getElem?_cons_zero]; exact rfl)
          case hsu1129 => kernel_rfl
          case hfu1129 => kernel_rfl
          case hru1129 => kernel_rfl
          case hzu1129 => kernel_rfl
          case hQu1129 => exact fun _ _ _ h => h
          case hwu1129 => rfl
          case hyu1129 => (intro w hSw; (try dsimp only at hSw); go_simp; (try with_reducible rfl))
          try simp only [Act.put, List.setIfInBounds_toArray, List.set_cons_zero, List.set_cons_succ]
          refine' wpTail_take (i := 5) (oi := _) ?hiu1130 ?hsu1130 ?hfu1130 ?hru1130 ?hzu1130 ?hQu1130 (v := _) (Or.inl ⟨?hwu1130, ?hyu1130⟩) (⟨(WB.at_ H1124 (.head _)).cell 0, (WB.at_ H1124 (.head _)).cell 1, (WB.at_ H1124 (.tail _ (.tail _ (.tail _ (.tail _ (.tail _ (.tail _ (.head _)))))))).cell 0, (WB.at_ H1124 (.tail _ (.tail _ (.tail _ (.tail _ (.tail _ (.tail _ (.head _)))))))).cell 1, (WB.at_ H1124 (.tail _ (.tail _ (.head _)))).cell 0, (WB.at_ H1124 (.tail _ (.tail _ (.head _)))).cell 1, (WB.at_ H1124 (.tail _ (.tail _ (.tail _ (.tail _ (.head _)))))).cell 0, (WB.at_ H1124 (.tail _ (.tail _ (.tail _ (.tail _ (.head _)))))).cell 1⟩) ?_
          case hiu1130 => (simp only [List.getElem?_toArray, List.getElem?_cons_succ, List.getElem?_cons_zero]; exact rfl)
          case hsu1130 => kernel_rfl
          case hfu1130 => kernel_rfl
          case hru1130 => kernel_rfl
          case hzu1130 => kernel_rfl
          case hQu1130 => exact fun _ _ _ h => h
          case hwu1130 => rfl
          case hyu1130 => (intro w hSw; (try dsimp only at hSw); go_simp; (try with_reducible rfl))
          try simp only [Act.put, List.setIfInBounds_toArray, List.set_cons_zero, List.set_cons_succ]
          refine' wpTail_take (i := 6) (oi := _) ?hiu1131 ?hsu1131 ?hfu1131 ?hru1131 ?hzu1131 ?hQu1131 (v := _) (Or.inl ⟨?hwu1131, ?hyu1131⟩) (⟨(WB.at_ H1124 (.head _)).cell 0, (WB.at_ H1124 (.head _)).cell 1, (WB.at_ H1124 (.tail _ (.tail _ (.tail _ (.tail _ (.tail _ (.tail _ (.head _)))))))).cell 0, (WB.at_ H1124 (.tail _ (.tail _ (.tail _ (.tail _ (.tail _ (.tail _ (.head _)))))))).cell 1, (WB.at_ H1124 (.tail _ (.tail _ (.head _)))).cell 0, (WB.at_ H1124 (.tail _ (.tail _ (.head _)))).cell 1, (WB.at_ H1124 (.tail _ (.tail _ (.tail _ (.tail _ (.head _)))))).cell 0, (WB.at_ H1124 (.tail _ (.tail _ (.tail _ (.tail _ (.head _)))))).cell 1⟩) ?_
          case hiu1131 => (simp only [List.getElem?_toArray, List.getElem?_cons_succ, List.getElem?_cons_zero]; exact rfl)
          case hsu1131 => kernel_rfl
          case hfu1131 => kernel_rfl
          case hru1131 => kernel_rfl
          case hzu1131 => kernel_rfl
          case hQu1131 => exact fun _ _ _ h => h
          case hwu1131 => rfl
          case hyu1131 => (intro w hSw; (try dsimp only at hSw); go_simp; (try with_reducible rfl))
          try simp only [Act.put, List.setIfInBounds_toArray, List.set_cons_zero, List.set_cons_succ]
          refine' wpTail_take (i := 7) (oi := _) ?hiu1132 ?hsu1132 ?hfu1132 ?hru1132 ?hzu1132 ?hQu1132 (v := _) (Or.inl ⟨?hwu1132, ?hyu1132⟩) (⟨(WB.at_ H1124 (.head _)).cell 0, (WB.at_ H1124 (.head _)).cell 1, (WB.at_ H1124 (.tail _ (.tail _ (.tail _ (.tail _ (.tail _ (.tail _ (.head _)))))))).cell 0, (WB.at_ H1124 (.tail _ (.tail _ (.tail _ (.tail _ (.tail _ (.tail _ (.head _)))))))).cell 1, (WB.at_ H1124 (.tail _ (.tail _ (.head _)))).cell 0, (WB.at_ H1124 (.tail _ (.tail _ (.head _)))).cell 1, (WB.at_ H1124 (.tail _ (.tail _ (.tail _ (.tail _ (.head _)))))).cell 0, (WB.at_ H1124 (.tail _ (.tail _ (.tail _ (.tail _ (.head _)))))).cell 1⟩) ?_
          case hiu1132 => (simp only [List.getElem?_toArray, List.getElem?_cons_succ, List.getElem?_cons_zero]; exact rfl)
          case hsu1132 => kernel_rfl
          case hfu1132 => kernel_rfl
          case hru1132 => kernel_rfl
          case hzu1132 => kernel_rfl
          case hQu1132 => exact fun _ _ _ h => h
          case hwu1132 => rfl
          case hyu1132 => (intro w hSw; (try dsimp only at hSw); go_simp; (try with_reducible rfl))
          try simp only [Act.put, List.setIfInBounds_toArray, List.set_cons_zero, List.set_cons_succ]
          refine' wpTail_take (i := 8) (oi := _) ?hiu1133 ?hsu1133 ?hfu1133 ?hru1133 ?hzu1133 ?hQu1133 (v := _) (Or.inl ⟨?hwu1133, ?hyu1133⟩) (⟨(WB.at_ H1124 (.head _)).cell 0, (WB.at_ H1124 (.head _)).cell 1, (WB.at_ H1124 (.tail _ (.tail _ (.tail _ (.tail _ (.tail _ (.tail _ (.head _)))))))).cell 0, (WB.at_ H1124 (.tail _ (.tail _ (.tail _ (.tail _ (.tail _ (.tail _ (.head _)))))))).cell 1, (WB.at_ H1124 (.tail _ (.tail _ (.head _)))).cell 0, (WB.at_ H1124 (.tail _ (.tail _ (.head _)))).cell 1, (WB.at_ H1124 (.tail _ (.tail _ (.tail _ (.tail _ (.head _)))))).cell 0, (WB.at_ H1124 (.tail _ (.tail _ (.tail _ (.tail _ (.head _)))))).cell 1⟩) ?_
          case hiu1133 => (simp only [List.getElem?_toArray, List.getElem?_cons_succ, List.getElem?_cons_zero]; exact rfl)
          case hsu1133 => kernel_rfl
          case hfu1133 => kernel_rfl
          case hru1133 => kernel_rfl
          case hzu1133 => kernel_rfl
          case hQu1133 => exact fun _ _ _ h => h
          case hwu1133 => rfl
          case hyu1133 => (intro w hSw; (try dsimp only at hSw); go_simp; (try with_reducible rfl))
          try simp only [Act.put, List.setIfInBounds_toArray, List.set_cons_zero, List.set_cons_succ]
          refine' wpTail_take (i := 9) (oi := _) ?hiu1134 ?hsu1134 ?hfu1134 ?hru1134 ?hzu1134 ?hQu1134 (v := _) (Or.inl ⟨?hwu1134, ?hyu1134⟩) (⟨(WB.at_ H1124 (.head _)).cell 0, (WB.at_ H1124 (.head _)).cell 1, (WB.at_ H1124 (.tail _ (.tail _ (.tail _ (.tail _ (.tail _ (.tail _ (.head _)))))))).cell 0, (WB.at_ H1124 (.tail _ (.tail _ (.tail _ (.tail _ (.tail _ (.tail _ (.head _)))))))).cell 1, (WB.at_ H1124 (.tail _ (.tail _ (.head _)))).cell 0, (WB.at_ H1124 (.tail _ (.tail _ (.head _)))).cell 1, (WB.at_ H1124 (.tail _ (.tail _ (.tail _ (.tail _ (.head _)))))).cell 0, (WB.at_ H1124 (.tail _ (.tail _ (.tail _ (.tail _ (.head _)))))).cell 1⟩) ?_
          case hiu1134 => (simp only [List.getElem?_toArray, List.getElem?_cons_succ, List.getElem?_cons_zero]; exact rfl)
          case hsu1134 => kernel_rfl
          case hfu1134 => kernel_rfl
          case hru1134 => kernel_rfl
          case hzu1134 => kernel_rfl
          case hQu1134 => exact fun _ _ _ h => h
          case hwu1134 => rfl
          case hyu1134 => (intro w hSw; (try dsimp only at hSw); go_simp; (try with_reducible rfl))
          try simp only [Act.put, List.setIfInBounds_toArray, List.set_cons_zero, List.set_cons_succ]
          refine' wpTail_take (i := 10) (oi := _) ?hiu1135 ?hsu1135 ?hfu1135 ?hru1135 ?hzu1135 ?hQu1135 (v := _) (Or.inl ⟨?hwu1135, ?hyu1135⟩) (⟨(WB.at_ H1124 (.head _)).cell 0, (WB.at_ H1124 (.head _)).cell 1, (WB.at_ H1124 (.tail _ (.tail _ (.tail _ (.tail _ (.tail _ (.tail _ (.head _)))))))).cell 0, (WB.at_ H1124 (.tail _ (.tail _ (.tail _ (.tail _ (.tail _ (.tail _ (.head _)))))))).cell 1, (WB.at_ H1124 (.tail _ (.tail _ (.head _)))).cell 0, (WB.at_ H1124 (.tail _ (.tail _ (.head _)))).cell 1, (WB.at_ H1124 (.tail _ (.tail _ (.tail _ (.tail _ (.head _)))))).cell 0, (WB.at_ H1124 (.tail _ (.tail _ (.tail _ (.tail _ (.head _)))))).cell 1⟩) ?_
          case hiu1135 => (simp only [List.getElem?_toArray, List.getElem?_cons_succ, List.getElem?_cons_zero]; exact rfl)
          case hsu1135 => kernel_rfl
          case hfu1135 => kernel_rfl
          case hru1135 => kernel_rfl
          case hzu1135 => kernel_rfl
          case hQu1135 => exact fun _ _ _ h => h
          case hwu1135 => rfl
          case hyu1135 => (intro w hSw; (try dsimp only at hSw); go_simp; (try with_reducible rfl))
          try simp only [Act.put, List.setIfInBounds_toArray, List.set_cons_zero, List.set_cons_succ]
          refine' wpTail_take (i := 11) (oi := _) ?hiu1136 ?hsu1136 ?hfu1136 ?hru1136 ?hzu1136 ?hQu1136 (v := _) (Or.inl ⟨?hwu1136, ?hyu1136⟩) (⟨(WB.at_ H1124 (.head _)).cell 0, (WB.at_ H1124 (.head _)).cell 1, (WB.at_ H1124 (.tail _ (.tail _ (.tail _ (.tail _ (.tail _ (.tail _ (.head _)))))))).cell 0, (WB.at_ H1124 (.tail _ (.tail _ (.tail _ (.tail _ (.tail _ (.tail _ (.head _)))))))).cell 1, (WB.at_ H1124 (.tail _ (.tail _ (.head _)))).cell 0, (WB.at_ H1124 (.tail _ (.tail _ (.head _)))).cell 1, (WB.at_ H1124 (.tail _ (.tail _ (.tail _ (.tail _ (.head _)))))).cell 0, (WB.at_ H1124 (.tail _ (.tail _ (.tail _ (.tail _ (.head _)))))).cell 1⟩) ?_
          case hiu1136 => (simp only [List.getElem?_toArray, List.getElem?_cons_succ, List.getElem?_cons_zero]; exact rfl)
          case hsu1136 => kernel_rfl
          case hfu1136 => kernel_rfl
          case hru1136 => kernel_rfl
          case hzu1136 => kernel_rfl
          case hQu1136 => exact fun _ _ _ h => h
          case hwu1136 => rfl
          case hyu1136 => (intro w hSw; (try dsimp only at hSw); go_simp; (try with_reducible rfl))
          try simp only [Act.put, List.setIfInBounds_toArray, List.set_cons_zero, List.set_cons_succ]
          refine' wpTail_take (i := 12) (oi := _) ?hiu1137 ?hsu1137 ?hfu1137 ?hru1137 ?hzu1137 ?hQu1137 (v := _) (Or.inl ⟨?hwu1137, ?hyu1137⟩) (⟨(WB.at_ H1124 (.head _)).cell 0, (WB.at_ H1124 (.head _)).cell 1, (WB.at_ H1124 (.tail _ (.tail _ (.tail _ (.tail _ (.tail _ (.tail _ (.head _)))))))).cell 0, (WB.at_ H1124 (.tail _ (.tail _ (.tail _ (.tail _ (.tail _ (.tail _ (.head _)))))))).cell 1, (WB.at_ H1124 (.tail _ (.tail _ (.head _)))).cell 0, (WB.at_ H1124 (.tail _ (.tail _ (.head _)))).cell 1, (WB.at_ H1124 (.tail _ (.tail _ (.tail _ (.tail _ (.head _)))))).cell 0, (WB.at_ H1124 (.tail _ (.tail _ (.tail _ (.tail _ (.head _)))))).cell 1⟩) ?_
          case hiu1137 => (simp only [List.getElem?_toArray, List.getElem?_cons_succ, List.getElem?_cons_zero]; exact rfl)
          case hsu1137 => kernel_rfl
          case hfu1137 => kernel_rfl
          case hru1137 => kernel_rfl
          case hzu1137 => kernel_rfl
          case hQu1137 => exact fun _ _ _ h => h
          case hwu1137 => rfl
          case hyu1137 => (intro w hSw; (try dsimp only at hSw); go_simp; (try with_reducible rfl))
          try simp only [Act.put, List.setIfInBounds_toArray, List.set_cons_zero, List.set_cons_succ]
          refine' wpTail_take (i := 13) (oi := _) ?hiu1138 ?hsu1138 ?hfu1138 ?hru1138 ?hzu1138 ?hQu1138 (v := _) (Or.inl ⟨?hwu1138, ?hyu1138⟩) (⟨(WB.at_ H1124 (.head _)).cell 0, (WB.at_ H1124 (.head _)).cell 1, (WB.at_ H1124 (.tail _ (.tail _ (.tail _ (.tail _ (.tail _ (.tail _ (.head _)))))))).cell 0, (WB.at_ H1124 (.tail _ (.tail _ (.tail _ (.tail _ (.tail _ (.tail _ (.head _)))))))).cell 1, (WB.at_ H1124 (.tail _ (.tail _ (.head _)))).cell 0, (WB.at_ H1124 (.tail _ (.tail _ (.head _)))).cell 1, (WB.at_ H1124 (.tail _ (.tail _ (.tail _ (.tail _ (.head _)))))).cell 0, (WB.at_ H1124 (.tail _ (.tail _ (.tail _ (.tail _ (.head _)))))).cell 1⟩) ?_
          case hiu1138 => (simp only [List.getElem?_toArray, List.getElem?_cons_succ, List.getElem?_cons_zero]; exact rfl)
          case hsu1138 => kernel_rfl
          case hfu1138 => kernel_rfl
          case hru1138 => kernel_rfl
          case hzu1138 => kernel_rfl
          case hQu1138 => exact fun _ _ _ h => h
          case hwu1138 => rfl
          case hyu1138 => (intro w hSw; (try dsimp only at hSw); go_simp; (try with_reducible rfl))
          try simp only [Act.put, List.setIfInBounds_toArray, List.set_cons_zero, List.set_cons_succ]
          refine' wpTail_take (i := 14) (oi := _) ?hiu1139 ?hsu1139 ?hfu1139 ?hru1139 ?hzu1139 ?hQu1139 (v := _) (Or.inl ⟨?hwu1139, ?hyu1139⟩) (⟨(WB.at_ H1124 (.head _)).cell 0, (WB.at_ H1124 (.head _)).cell 1, (WB.at_ H1124 (.tail _ (.tail _ (.tail _ (.tail _ (.tail _ (.tail _ (.head _)))))))).cell 0, (WB.at_ H1124 (.tail _ (.tail _ (.tail _ (.tail _ (.tail _ (.tail _ (.head _)))))))).cell 1, (WB.at_ H1124 (.tail _ (.tail _ (.head _)))).cell 0, (WB.at_ H1124 (.tail _ (.tail _ (.head _)))).cell 1, (WB.at_ H1124 (.tail _ (.tail _ (.tail _ (.tail _ (.head _)))))).cell 0, (WB.at_ H1124 (.tail _ (.tail _ (.tail _ (.tail _ (.head _)))))).cell 1⟩) ?_
          case hiu1139 => (simp only [List.getElem?_toArray, List.getElem?_cons_succ, List.getElem?_cons_zero]; exact rfl)
          case hsu1139 => kernel_rfl
          case hfu1139 => kernel_rfl
          case hru1139 => kernel_rfl
          case hzu1139 => kernel_rfl
          case hQu1139 => exact fun _ _ _ h => h
          case hwu1139 => rfl
          case hyu1139 => (intro w hSw; (try dsimp only at hSw); go_simp; (try with_reducible rfl))
          try simp only [Act.put, List.setIfInBounds_toArray, List.set_cons_zero, List.set_cons_succ]
          refine' wpTail_take (i := 15) (oi := _) ?hiu1140 ?hsu1140 ?hfu1140 ?hru1140 ?hzu1140 ?hQu1140 (v := _) (Or.inl ⟨?hwu1140, ?hyu1140⟩) (⟨(WB.at_ H1124 (.head _)).cell 0, (WB.at_ H1124 (.head _)).cell 1, (WB.at_ H1124 (.tail _ (.tail _ (.tail _ (.tail _ (.tail _ (.tail _ (.head _)))))))).cell 0, (WB.at_ H1124 (.tail _ (.tail _ (.tail _ (.tail _ (.tail _ (.tail _ (.head _)))))))).cell 1, (WB.at_ H1124 (.tail _ (.tail _ (.head _)))).cell 0, (WB.at_ H1124 (.tail _ (.tail _ (.head _)))).cell 1, (WB.at_ H1124 (.tail _ (.tail _ (.tail _ (.tail _ (.head _)))))).cell 0, (WB.at_ H1124 (.tail _ (.tail _ (.tail _ (.tail _ (.head _)))))).cell 1⟩) ?_
          case hiu1140 => (simp only [List.getElem?_toArray, List.getElem?_cons_succ, List.getElem?_cons_zero]; exact rfl)
          case hsu1140 => kernel_rfl
          case hfu1140 => kernel_rfl
          case hru1140 => kernel_rfl
          case hzu1140 => kernel_rfl
          case hQu1140 => exact fun _ _ _ h => h
          case hwu1140 => rfl
          case hyu1140 => (intro w hSw; (try dsimp only at hSw); go_simp; (try with_reducible rfl))
          try simp only [Act.put, List.setIfInBounds_toArray, List.set_cons_zero, List.set_cons_succ]
          refine' wpTail_take (i := 16) (oi := _) ?hiu1141 ?hsu1141 ?hfu1141 ?hru1141 ?hzu1141 ?hQu1141 (v := _) (Or.inl ⟨?hwu1141, ?hyu1141⟩) (⟨(WB.at_ H1124 (.head _)).cell 0, (WB.at_ H1124 (.head _)).cell 1, (WB.at_ H1124 (.tail _ (.tail _ (.tail _ (.tail _ (.tail _ (.tail _ (.head _)))))))).cell 0, (WB.at_ H1124 (.tail _ (.tail _ (.tail _ (.tail _ (.tail _ (.tail _ (.head _)))))))).cell 1, (WB.at_ H1124 (.tail _ (.tail _ (.head _)))).cell 0, (WB.at_ H1124 (.tail _ (.tail _ (.head _)))).cell 1, (WB.at_ H1124 (.tail _ (.tail _ (.tail _ (.tail _ (.head _)))))).cell 0, (WB.at_ H1124 (.tail _ (.tail _ (.tail _ (.tail _ (.head _)))))).cell 1⟩) ?_
          case hiu1141 => (simp only [List.getElem?_toArray, List.getElem?_cons_succ, List.getElem?_cons_zero]; exact rfl)
          case hsu1141 => kernel_rfl
          case hfu1141 => kernel_rfl
          case hru1141 => kernel_rfl
          case hzu1141 => kernel_rfl
          case hQu1141 => exact fun _ _ _ h => h
          case hwu1141 => rfl
          case hyu1141 => (intro w hSw; (try dsimp only at hSw); go_simp; (try with_reducible rfl))
          try simp only [Act.put, List.setIfInBounds_toArray, List.set_cons_zero, List.set_cons_succ]
          refine' wpTail_take (i := 17) (oi := _) ?hiu1142 ?hsu1142 ?hfu1142 ?hru1142 ?hzu1142 ?hQu1142 (v := _) (Or.inl ⟨?hwu1142, ?hyu1142⟩) (⟨(WB.at_ H1124 (.head _)).cell 0, (WB.at_ H1124 (.head _)).cell 1, (WB.at_ H1124 (.tail _ (.tail _ (.tail _ (.tail _ (.tail _ (.tail _ (.head _)))))))).cell 0, (WB.at_ H1124 (.tail _ (.tail _ (.tail _ (.tail _ (.tail _ (.tail _ (.head _)))))))).cell 1, (WB.at_ H1124 (.tail _ (.tail _ (.head _)))).cell 0, (WB.at_ H1124 (.tail _ (.tail _ (.head _)))).cell 1, (WB.at_ H1124 (.tail _ (.tail _ (.tail _ (.tail _ (.head _)))))).cell 0, (WB.at_ H1124 (.tail _ (.tail _ (.tail _ (.tail _ (.head _)))))).cell 1⟩) ?_
          case hiu1142 => (simp only [List.getElem?_toArray, List.getElem?_cons_succ, List.getElem?_cons_zero]; exact rfl)
          case hsu1142 => kernel_rfl
          case hfu1142 => kernel_rfl
          case hru1142 => kernel_rfl
          case hzu1142 => kernel_rfl
          case hQu1142 => exact fun _ _ _ h => h
          case hwu1142 => rfl
          case hyu1142 => (intro w hSw; (try dsimp only at hSw); go_simp; (try with_reducible rfl))
          try simp only [Act.put, List.setIfInBounds_toArray, List.set_cons_zero, List.set_cons_succ]
          refine' wpTail_take (i := 20) (oi := _) ?hiu1143 ?hsu1143 ?hfu1143 ?hru1143 ?hzu1143 ?hQu1143 (v := _) (Or.inl ⟨?hwu1143, ?hyu1143⟩) (⟨(WB.at_ H1124 (.head _)).cell 0, (WB.at_ H1124 (.head _)).cell 1, (WB.at_ H1124 (.tail _ (.tail _ (.tail _ (.tail _ (.tail _ (.tail _ (.head _)))))))).cell 0, (WB.at_ H1124 (.tail _ (.tail _ (.tail _ (.tail _ (.tail _ (.tail _ (.head _)))))))).cell 1, (WB.at_ H1124 (.tail _ (.tail _ (.head _)))).cell 0, (WB.at_ H1124 (.tail _ (.tail _ (.head _)))).cell 1, (WB.at_ H1124 (.tail _ (.tail _ (.tail _ (.tail _ (.head _)))))).cell 0, (WB.at_ H1124 (.tail _ (.tail _ (.tail _ (.tail _ (.head _)))))).cell 1⟩) ?_
          case hiu1143 => (simp only [List.getElem?_toArray, List.getElem?_cons_succ, List.getElem?_cons_zero]; exact rfl)
          case hsu1143 => kernel_rfl
          case hfu1143 => kernel_rfl
          case hru1143 => kernel_rfl
          case hzu1143 => kernel_rfl
          case hQu1143 => exact fun _ _ _ h => h
          case hwu1143 => rfl
          case hyu1143 => (intro w hSw; (try dsimp only at hSw); go_simp; (try with_reducible rfl))
          try simp only [Act.put, List.setIfInBounds_toArray, List.set_cons_zero, List.set_cons_succ]
          refine' wpTail_take (i := 21) (oi := _) ?hiu1144 ?hsu1144 ?hfu1144 ?hru1144 ?hzu1144 ?hQu1144 (v := _) (Or.inl ⟨?hwu1144, ?hyu1144⟩) (⟨(WB.at_ H1124 (.head _)).cell 0, (WB.at_ H1124 (.head _)).cell 1, (WB.at_ H1124 (.tail _ (.tail _ (.tail _ (.tail _ (.tail _ (.tail _ (.head _)))))))).cell 0, (WB.at_ H1124 (.tail _ (.tail _ (.tail _ (.tail _ (.tail _ (.tail _ (.head _)))))))).cell 1, (WB.at_ H1124 (.tail _ (.tail _ (.head _)))).cell 0, (WB.at_ H1124 (.tail _ (.tail _ (.head _)))).cell 1, (WB.at_ H1124 (.tail _ (.tail _ (.tail _ (.tail _ (.head _)))))).cell 0, (WB.at_ H1124 (.tail _ (.tail _ (.tail _ (.tail _ (.head _)))))).cell 1⟩) ?_
          case hiu1144 => (simp only [List.getElem?_toArray, List.getElem?_cons_succ, List.getElem?_cons_zero]; exact rfl)
          case hsu1144 => kernel_rfl
          case hfu1144 => kernel_rfl
          case hru1144 => kernel_rfl
          case hzu1144 => kernel_rfl
          case hQu1144 => exact fun _ _ _ h => h
          case hwu1144 => rfl
          case hyu1144 => (intro w hSw; (try dsimp only at hSw); go_simp; (try with_reducible rfl))
          try simp only [Act.put, List.setIfInBounds_toArray, List.set_cons_zero, List.set_cons_succ]
          refine' wpTail_one (i := 18) (o := _) (by kernel_rfl) ?hou1146 ?hwu1146 (fun K hK => ?_)
          case hou1146 => (simp only [List.getElem?_toArray, List.getElem?_cons_succ, List.getElem?_cons_zero]; exact rfl)
          case hwu1146 => rfl
          go_simp
          (with_reducible refine (HCR.out _).mono ?_)
          rintro e v1145 ⟨rfl, hb1145⟩
          have M1145 := WB.next hb1145 H1124
          refine hK.out _ _ (fun _ => ⟨(WB.at_ M1145 (.head _)).cell 0, (WB.at_ M1145 (.head _)).cell 1, (WB.at_ M1145 (.tail _ (.tail _ (.tail _ (.tail _ (.tail _ (.tail _ (.head _)))))))).cell 0, (WB.at_ M1145 (.tail _ (.tail _ (.tail _ (.tail _ (.tail _ (.tail _ (.head _)))))))).cell 1, (WB.at_ M1145 (.tail _ (.tail _ (.head _)))).cell 0, (WB.at_ M1145 (.tail _ (.tail _ (.head _)))).cell 1, (WB.at_ M1145 (.tail _ (.tail _ (.tail _ (.tail _ (.head _)))))).cell 0, (WB.at_ M1145 (.tail _ (.tail _ (.tail _ (.tail _ (.head _)))))).cell 1⟩) ?_
          clear hK K hb1145
          try simp only [Act.put, List.setIfInBounds_toArray, List.set_cons_zero, List.set_cons_succ]
          refine' wpTail_take (i := 19) (oi := _) ?hiu1147 ?hsu1147 ?hfu1147 ?hru1147 ?hzu1147 ?hQu1147 (v := _) (Or.inl ⟨?hwu1147, ?hyu1147⟩) (⟨(WB.at_ M1145 (.head _)).cell 0, (WB.at_ M1145 (.head _)).cell 1, (WB.at_ M1145 (.tail _ (.tail _ (.tail _ (.tail _ (.tail _ (.tail _ (.head _)))))))).cell 0, (WB.at_ M1145 (.tail _ (.tail _ (.tail _ (.tail _ (.tail _ (.tail _ (.head _)))))))).cell 1, (WB.at_ M1145 (.tail _ (.tail _ (.head _)))).cell 0, (WB.at_ M1145 (.tail _ (.tail _ (.head _)))).cell 1, (WB.at_ M1145 (.tail _ (.tail _ (.tail _ (.tail _ (.head _)))))).cell 0, (WB.at_ M1145 (.tail _ (.tail _ (.tail _ (.tail _ (.head _)))))).cell 1⟩) ?_
          case hiu1147 => (simp only [List.getElem?_toArray, List.getElem?_cons_succ, List.getElem?_cons_zero]; exact rfl)
          case hsu1147 => kernel_rfl
          case hfu1147 => kernel_rfl
          case hru1147 => kernel_rfl
          case hzu1147 => kernel_rfl
          case hQu1147 => exact fun _ _ _ h => h
          case hwu1147 => rfl
          case hyu1147 => (intro w hSw; (try dsimp only at hSw); go_simp; (try with_reducible rfl))
          try simp only [Act.put, List.setIfInBounds_toArray, List.set_cons_zero, List.set_cons_succ]
          refine' wpTail_one (i := 22) (o := _) (by kernel_rfl) ?hou1149 ?hwu1149 (fun K hK => ?_)
          case hou1149 => (simp only [List.getElem?_toArray, List.getElem?_cons_succ, List.getElem?_cons_zero]; exact rfl)
          case hwu1149 => rfl
          go_simp
          (with_reducible refine (HCA.out _).mono ?_)
          rintro e v1148 ⟨rfl, hb1148⟩
          have M1148 := WB.next hb1148 M1145
          refine hK.out _ _ (fun _ => ⟨(WB.at_ M1148 (.head _)).cell 0, (WB.at_ M1148 (.head _)).cell 1, (WB.at_ M1148 (.tail _ (.tail _ (.tail _ (.tail _ (.tail _ (.tail _ (.head _)))))))).cell 0, (WB.at_ M1148 (.tail _ (.tail _ (.tail _ (.tail _ (.tail _ (.tail _ (.head _)))))))).cell 1, (WB.at_ M1148 (.tail _ (.tail _ (.head _)))).cell 0, (WB.at_ M1148 (.tail _ (.tail _ (.head _)))).cell 1, (WB.at_ M1148 (.tail _ (.tail _ (.tail _ (.tail _ (.head _)))))).cell 0, (WB.at_ M1148 (.tail _ (.tail _ (.tail _ (.tail _ (.head _)))))).cell 1⟩) ?_
          clear hK K hb1148
          try simp only [Act.put, List.setIfInBounds_toArray, List.set_cons_zero, List.set_cons_succ]
          refine' wpTail_take (i := 23) (oi := _) ?hiu1150 ?hsu1150 ?hfu1150 ?hru1150 ?hzu1150 ?hQu1150 (v := _) (Or.inl ⟨?hwu1150, ?hyu1150⟩) (⟨(WB.at_ M1148 (.head _)).cell 0, (WB.at_ M1148 (.head _)).cell 1, (WB.at_ M1148 (.tail _ (.tail _ (.tail _ (.tail _ (.tail _ (.tail _ (.head _)))))))).cell 0, (WB.at_ M1148 (.tail _ (.tail _ (.tail _ (.tail _ (.tail _ (.tail _ (.head _)))))))).cell 1, (WB.at_ M1148 (.tail _ (.tail _ (.head _)))).cell 0, (WB.at_ M1148 (.tail _ (.tail _ (.head _)))).cell 1, (WB.at_ M1148 (.tail _ (.tail _ (.tail _ (.tail _ (.head _)))))).cell 0, (WB.at_ M1148 (.tail _ (.tail _ (.tail _ (.tail _ (.head _)))))).cell 1⟩) ?_
          case hiu1150 => (simp only [List.getElem?_toArray, List.getElem?_cons_succ, List.getElem?_cons_zero]; exact rfl)
          case hsu1150 => kernel_rfl
          case hfu1150 => kernel_rfl
          case hru1150 => kernel_rfl
          case hzu1150 => kernel_rfl
          case hQu1150 => exact fun _ _ _ h => h
          case hwu1150 => rfl
          case hyu1150 => (intro w hSw; (try dsimp only at hSw); go_simp; (try with_reducible rfl))
          try simp only [Act.put, List.setIfInBounds_toArray, List.set_cons_zero, List.set_cons_succ]
          refine' wpTail_take (i := 24) (oi := _) ?hiu1151 ?hsu1151 ?hfu1151 ?hru1151 ?hzu1151 ?hQu1151 (v := _) (Or.inl ⟨?hwu1151, ?hyu1151⟩) (⟨(WB.at_ M1148 (.head _)).cell 0, (WB.at_ M1148 (.head _)).cell 1, (WB.at_ M1148 (.tail _ (.tail _ (.tail _ (.tail _ (.tail _ (.tail _ (.head _)))))))).cell 0, (WB.at_ M1148 (.tail _ (.tail _ (.tail _ (.tail _ (.tail _ (.tail _ (.head _)))))))).cell 1, (WB.at_ M1148 (.tail _ (.tail _ (.head _)))).cell 0, (WB.at_ M1148 (.tail _ (.tail _ (.head _)))).cell 1, (WB.at_ M1148 (.tail _ (.tail _ (.tail _ (.tail _ (.head _)))))).cell 0, (WB.at_ M1148 (.tail _ (.tail _ (.tail _ (.tail _ (.head _)))))).cell 1⟩) ?_
          case hiu1151 => (simp only [List.getElem?_toArray, List.getElem?_cons_succ, List.getElem?_cons_zero]; exact rfl)
          case hsu1151 => kernel_rfl
          case hfu1151 => kernel_rfl
          case hru1151 => kernel_rfl
          case hzu1151 => kernel_rfl
          case hQu1151 => exact fun _ _ _ h => h
          case hwu1151 => rfl
          case hyu1151 => (intro w hSw; (try dsimp only at hSw); go_simp; (try with_reducible rfl))
          try simp only [Act.put, List.setIfInBounds_toArray, List.set_cons_zero, List.set_cons_succ]
          refine' wpTail_take (i := 25) (oi := _) ?hiu1152 ?hsu1152 ?hfu1152 ?hru1152 ?hzu1152 ?hQu1152 (v := _) (Or.inl ⟨?hwu1152, ?hyu1152⟩) (⟨(WB.at_ M1148 (.head _)).cell 0, (WB.at_ M1148 (.head _)).cell 1, (WB.at_ M1148 (.tail _ (.tail _ (.tail _ (.tail _ (.tail _ (.tail _ (.head _)))))))).cell 0, (WB.at_ M1148 (.tail _ (.tail _ (.tail _ (.tail _ (.tail _ (.tail _ (.head _)))))))).cell 1, (WB.at_ M1148 (.tail _ (.tail _ (.head _)))).cell 0, (WB.at_ M1148 (.tail _ (.tail _ (.head _)))).cell 1, (WB.at_ M1148 (.tail _ (.tail _ (.tail _ (.tail _ (.head _)))))).cell 0, (WB.at_ M1148 (.tail _ (.tail _ (.tail _ (.tail _ (.head _)))))).cell 1⟩) ?_
          case hiu1152 => (simp only [List.getElem?_toArray, List.getElem?_cons_succ, List.getElem?_cons_zero]; exact rfl)
          case hsu1152 => kernel_rfl
          case hfu1152 => kernel_rfl
          case hru1152 => kernel_rfl
          case hzu1152 => kernel_rfl
          case hQu1152 => exact fun _ _ _ h => h
          case hwu1152 => rfl
          case hyu1152 => (intro w hSw; (try dsimp only at hSw); go_simp; (try with_reducible rfl))
          try simp only [Act.put, List.setIfInBounds_toArray, List.set_cons_zero, List.set_cons_succ]
          refine' wpTail_take (i := 26) (oi := _) ?hiu1153 ?hsu1153 ?hfu1153 ?hru1153 ?hzu1153 ?hQu1153 (v := _) (Or.inl ⟨?hwu1153, ?hyu1153⟩) (⟨(WB.at_ M1148 (.head _)).cell 0, (WB.at_ M1148 (.head _)).cell 1, (WB.at_ M1148 (.tail _ (.tail _ (.tail _ (.tail _ (.tail _ (.tail _ (.head _)))))))).cell 0, (WB.at_ M1148 (.tail _ (.tail _ (.tail _ (.tail _ (.tail _ (.tail _ (.head _)))))))).cell 1, (WB.at_ M1148 (.tail _ (.tail _ (.head _)))).cell 0, (WB.at_ M1148 (.tail _ (.tail _ (.head _)))).cell 1, (WB.at_ M1148 (.tail _ (.tail _ (.tail _ (.tail _ (.head _)))))).cell 0, (WB.at_ M1148 (.tail _ (.tail _ (.tail _ (.tail _ (.head _)))))).cell 1⟩) ?_
          case hiu1153 => (simp only [List.getElem?_toArray, List.getElem?_cons_succ, List.getElem?_cons_zero]; exact rfl)
          case hsu1153 => kernel_rfl
          case hfu1153 => kernel_rfl
          case hru1153 => kernel_rfl
          case hzu1153 => kernel_rfl
          case hQu1153 => exact fun _ _ _ h => h
          case hwu1153 => rfl
          case hyu1153 => (intro w hSw; (try dsimp only at hSw); go_simp; (try with_reducible rfl))
          try simp only [Act.put, List.setIfInBounds_toArray, List.set_cons_zero, List.set_cons_succ]
          refine wpTail_done (by kernel_rfl) ?_ _
          go_wp2_with fail
          go_meet
          exact ⟨rfl, M1148⟩
      · skip
        rcases hs with ⟨rfl, rfl⟩ | ⟨rfl, rfl⟩
        · skip
          have H1154 := WB.drew H1065
          refine wp_region_tail 99 (fun w' => w'.cell? ⟨g12, 0, none⟩ = some (.int .u64 ah) ∧ w'.cell? ⟨g12, 1, none⟩ = some (.int .u64 al) ∧ w'.cell? ⟨s, 0, none⟩ = some (.int .u64 ah) ∧ w'.cell? ⟨s, 1, none⟩ = some (.int .u64 al) ∧ w'.cell? ⟨g8, 0, none⟩ = some (.int .u64 0) ∧ w'.cell? ⟨g8, 1, none⟩ = some (.int .u64 rl) ∧ w'.cell? ⟨g5, 0, none⟩ = some (.int .u64 0) ∧ w'.cell? ⟨g5, 1, none⟩ = some (.int .u64 0)) (by kernel_rfl) ⟨(WB.at_ H1154 (.head _)).cell 0, (WB.at_ H1154 (.head _)).cell 1, (WB.at_ H1154 (.tail _ (.tail _ (.tail _ (.tail _ (.tail _ (.tail _ (.head _)))))))).cell 0, (WB.at_ H1154 (.tail _ (.tail _ (.tail _ (.tail _ (.tail _ (.tail _ (.head _)))))))).cell 1, (WB.at_ H1154 (.tail _ (.tail _ (.head _)))).cell 0, (WB.at_ H1154 (.tail _ (.tail _ (.head _)))).cell 1, (WB.at_ H1154 (.tail _ (.tail _ (.tail _ (.tail _ (.head _)))))).cell 0, (WB.at_ H1154 (.tail _ (.tail _ (.tail _ (.tail _ (.head _)))))).cell 1⟩ (fun hHeld => ?_)
          clear hHeld
          try simp only [Act.put, List.setIfInBounds_toArray, List.set_cons_zero, List.set_cons_succ]
          refine' wpTail_take (i := 0) (oi := _) ?hiu1155 ?hsu1155 ?hfu1155 ?hru1155 ?hzu1155 ?hQu1155 (v := _) (Or.inl ⟨?hwu1155, ?hyu1155⟩) (⟨(WB.at_ H1154 (.head _)).cell 0, (WB.at_ H1154 (.head _)).cell 1, (WB.at_ H1154 (.tail _ (.tail _ (.tail _ (.tail _ (.tail _ (.tail _ (.head _)))))))).cell 0, (WB.at_ H1154 (.tail _ (.tail _ (.tail _ (.tail _ (.tail _ (.tail _ (.head _)))))))).cell 1, (WB.at_ H1154 (.tail _ (.tail _ (.head _)))).cell 0, (WB.at_ H1154 (.tail _ (.tail _ (.head _)))).cell 1, (WB.at_ H1154 (.tail _ (.tail _ (.tail _ (.tail _ (.head _)))))).cell 0, (WB.at_ H1154 (.tail _ (.tail _ (.tail _ (.tail _ (.head _)))))).cell 1⟩) ?_
          case hiu1155 => (simp only [List.getElem?_toArray, List.getElem?_cons_zero]; exact rfl)
          case hsu1155 => kernel_rfl
          case hfu1155 => kernel_rfl
          case hru1155 => kernel_rfl
          case hzu1155 => kernel_rfl
          case hQu1155 => exact fun _ _ _ h => h
          case hwu1155 => rfl
          case hyu1155 => (intro w hSw; (try dsimp only at hSw); go_simp; (try with_reducible rfl))
          try simp only [Act.put, List.setIfInBounds_toArray, List.set_cons_zero, List.set_cons_succ]
          refine' wpTail_take (i := 1) (oi := _) ?hiu1156 ?hsu1156 ?hfu1156 ?hru1156 ?hzu1156 ?hQu1156 (v := _) (Or.inl ⟨?hwu1156, ?hyu1156⟩) (⟨(WB.at_ H1154 (.head _)).cell 0, (WB.at_ H1154 (.head _)).cell 1, (WB.at_ H1154 (.tail _ (.tail _ (.tail _ (.tail _ (.tail _ (.tail _ (.head _)))))))).cell 0, (WB.at_ H1154 (.tail _ (.tail _ (.tail _ (.tail _ (.tail _ (.tail _ (.head _)))))))).cell 1, (WB.at_ H1154 (.tail _ (.tail _ (.head _)))).cell 0, (WB.at_ H1154 (.tail _ (.tail _ (.head _)))).cell 1, (WB.at_ H1154 (.tail _ (.tail _ (.tail _ (.tail _ (.head _)))))).cell 0, (WB.at_ H1154 (.tail _ (.tail _ (.tail _ (.tail _ (.head _)))))).cell 1⟩) ?_
          case hiu1156 => (simp only [List.getElem?_toArray, List.getElem?_cons_succ, List.getElem?_cons_zero]; exact rfl)
          case hsu1156 => kernel_rfl
          case hfu1156 => kernel_rfl
          case hru1156 => kernel_rfl
          case hzu1156 => kernel_rfl
          case hQu1156 => exact fun _ _ _ h => h
          case hwu1156 => rfl
          case hyu1156 => (intro w hSw; (try dsimp only at hSw); go_simp; (try with_reducible rfl))
          try simp only [Act.put, List.setIfInBounds_toArray, List.set_cons_zero, List.set_cons_succ]
          refine' wpTail_take (i := 2) (oi := _) ?hiu1157 ?hsu1157 ?hfu1157 ?hru1157 ?hzu1157 ?hQu1157 (v := _) (Or.inl ⟨?hwu1157, ?hyu1157⟩) (⟨(WB.at_ H1154 (.head _)).cell 0, (WB.at_ H1154 (.head _)).cell 1, (WB.at_ H1154 (.tail _ (.tail _ (.tail _ (.tail _ (.tail _ (.tail _ (.head _)))))))).cell 0, (WB.at_ H1154 (.tail _ (.tail _ (.tail _ (.tail _ (.tail _ (.tail _ (.head _)))))))).cell 1, (WB.at_ H1154 (.tail _ (.tail _ (.head _)))).cell 0, (WB.at_ H1154 (.tail _ (.tail _ (.head _)))).cell 1, (WB.at_ H1154 (.tail _ (.tail _ (.tail _ (.tail _ (.head _)))))).cell 0, (WB.at_ H1154 (.tail _ (.tail _ (.tail _ (.tail _ (.head _)))))).cell 1⟩) ?_
          case hiu1157 => (simp only [List.getElem?_toArray, List.getElem?_cons_succ, List.getElem?_cons_zero]; exact rfl)
          case hsu1157 => kernel_rfl
          case hfu1157 => kernel_rfl
          case hru1157 => kernel_rfl
          case hzu1157 => kernel_rfl
          case hQu1157 => exact fun _ _ _ h => h
          case hwu1157 => rfl
          case hyu1157 => (intro w hSw; (try dsimp only at hSw); go_simp; (try with_reducible rfl))
          try simp only [Act.put, List.setIfInBounds_toArray, List.set_cons_zero, List.set_cons_succ]
          refine' wpTail_take (i := 3) (oi := _) ?hiu1158 ?hsu1158 ?hfu1158 ?hru1158 ?hzu1158 ?hQu1158 (v := _) (Or.inl ⟨?hwu1158, ?hyu1158⟩) (⟨(WB.at_ H1154 (.head _)).cell 0, (WB.at_ H1154 (.head _)).cell 1, (WB.at_ H1154 (.tail _ (.tail _ (.tail _ (.tail _ (.tail _ (.tail _ (.head _)))))))).cell 0, (WB.at_ H1154 (.tail _ (.tail _ (.tail _ (.tail _ (.tail _ (.tail _ (.head _)))))))).cell 1, (WB.at_ H1154 (.tail _ (.tail _ (.head _)))).cell 0, (WB.at_ H1154 (.tail _ (.tail _ (.head _)))).cell 1, (WB.at_ H1154 (.tail _ (.tail _ (.tail _ (.tail _ (.head _)))))).cell 0, (WB.at_ H1154 (.tail _ (.tail _ (.tail _ (.tail _ (.head _)))))).cell 1⟩) ?_
          case hiu1158 => (simp only [List.getElem?_toArray, List.getElem?_cons_succ, List.getElem?_cons_zero]; exact rfl)
          case hsu1158 => kernel_rfl
          case hfu1158 => kernel_rfl
          case hru1158 => kernel_rfl
          case hzu1158 => kernel_rfl
          case hQu1158 => exact fun _ _ _ h => h
          case hwu1158 => rfl
          case hyu1158 => (intro w hSw; (try dsimp only at hSw); go_simp; (try with_reducible rfl))
          try simp only [Act.put, List.setIfInBounds_toArray, List.set_cons_zero, List.set_cons_succ]
          refine' wpTail_take (i := 4) (oi := _) ?hiu1159 ?hsu1159 ?hfu1159 ?hru1159 ?hzu1159 ?hQu1159 (v := _) (Or.inl ⟨?hwu1159, ?hyu1159⟩) (⟨(WB.at_ H1154 (.head _)).cell 0, (WB.at_ H1154 (.head _)).cell 1, (WB.at_ H1154 (.tail _ (.tail _ (.tail _ (.tail _ (.tail _ (.tail _ (.head _)))))))).cell 0, (WB.at_ H1154 (.tail _ (.tail _ (.tail _ (.tail _ (.tail _ (.tail _ (.head _)))))))).cell 1, (WB.at_ H1154 (.tail _ (.tail _ (.head _)))).cell 0, (WB.at_ H1154 (.tail _ (.tail _ (.head _)))).cell 1, (WB.at_ H1154 (.tail _ (.tail _ (.tail _ (.tail _ (.head _)))))).cell 0, (WB.at_ H1154 (.tail _ (.tail _ (.tail _ (.tail _ (.head _)))))).cell 1⟩) ?_
          case hiu1159 => (simp only [List.getElem?_toArray, List.getElem?_cons_succ, List.getElem?_cons_zero]; exact rfl)
          case hsu1159 => kernel_rfl
          case hfu1159 => kernel_rfl
          case hru1159 => kernel_rfl
          case hzu1159 => kernel_rfl
          case hQu1159 => exact fun _ _ _ h => h
          case hwu1159 => rfl
          case hyu1159 => (intro w hSw; (try dsimp only at hSw); go_simp; (try with_reducible rfl))
          try simp only [Act.put, List.setIfInBounds_toArray, List.set_cons_zero, List.set_cons_succ]
          refine' wpTail_take (i := 5) (oi := _) ?hiu1160 ?hsu1160 ?hfu1160 ?hru1160 ?hzu1160 ?hQu1160 (v := _) (Or.inl ⟨?hwu1160, ?hyu1160⟩) (⟨(WB.at_ H1154 (.head _)).cell 0, (WB.at_ H1154 (.head _)).cell 1, (WB.at_ H1154 (.tail _ (.tail _ (.tail _ (.tail _ (.tail _ (.tail _ (.head _)))))))).cell 0, (WB.at_ H1154 (.tail _ (.tail _ (.tail _ (.tail _ (.tail _ (.tail _ (.head _)))))))).cell 1, (WB.at_ H1154 (.tail _ (.tail _ (.head _)))).cell 0, (WB.at_ H1154 (.tail _ (.tail _ (.head _)))).cell 1, (WB.at_ H1154 (.tail _ (.tail _ (.tail _ (.tail _ (.head _)))))).cell 0, (WB.at_ H1154 (.tail _ (.tail _ (.tail _ (.tail _ (.head _)))))).cell 1⟩) ?_
          case hiu1160 => (simp only [List.getElem?_toArray, List.getElem?_cons_succ, List.getElem?_cons_zero]; exact rfl)
          case hsu1160 => kernel_rfl
          case hfu1160 => kernel_rfl
          case hru1160 => kernel_rfl
          case hzu1160 => kernel_rfl
          case hQu1160 => exact fun _ _ _ h => h
          case hwu1160 => rfl
          case hyu1160 => (intro w hSw; (try dsimp only at hSw); go_simp; (try with_reducible rfl))
          try simp only [Act.put, List.setIfInBounds_toArray, List.set_cons_zero, List.set_cons_succ]
          refine' wpTail_take (i := 6) (oi := _) ?hiu1161 ?hsu1161 ?hfu1161 ?hru1161 ?hzu1161 ?hQu1161 (v := _) (Or.inl ⟨?hwu1161, ?hyu1161⟩) (⟨(WB.at_ H1154 (.head _)).cell 0, (WB.at_ H1154 (.head _)).cell 1, (WB.at_ H1154 (.tail _ (.tail _ (.tail _ (.tail _ (.tail _ (.tail _ (.head _)))))))).cell 0, (WB.at_ H1154 (.tail _ (.tail _ (.tail _ (.tail _ (.tail _ (.tail _ (.head _)))))))).cell 1, (WB.at_ H1154 (.tail _ (.tail _ (.head _)))).cell 0, (WB.at_ H1154 (.tail _ (.tail _ (.head _)))).cell 1, (WB.at_ H1154 (.tail _ (.tail _ (.tail _ (.tail _ (.head _)))))).cell 0, (WB.at_ H1154 (.tail _ (.tail _ (.tail _ (.tail _ (.head _)))))).cell 1⟩) ?_
          case hiu1161 => (simp only [List.getElem?_toArray, List.getElem?_cons_succ, List.getElem?_cons_zero]; exact rfl)
          case hsu1161 => kernel_rfl
          case hfu1161 => kernel_rfl
          case hru1161 => kernel_rfl
          case hzu1161 => kernel_rfl
          case hQu1161 => exact fun _ _ _ h => h
          case hwu1161 => rfl
          case hyu1161 => (intro w hSw; (try dsimp only at hSw); go_simp; (try with_reducible rfl))
          try simp only [Act.put, List.setIfInBounds_toArray, List.set_cons_zero, List.set_cons_succ]
          refine' wpTail_take (i := 7) (oi := _) ?hiu1162 ?hsu1162 ?hfu1162 ?hru1162 ?hzu1162 ?hQu1162 (v := _) (Or.inl ⟨?hwu1162, ?hyu1162⟩) (⟨(WB.at_ H1154 (.head _)).cell 0, (WB.at_ H1154 (.head _)).cell 1, (WB.at_ H1154 (.tail _ (.tail _ (.tail _ (.tail _ (.tail _ (.tail _ (.head _)))))))).cell 0, (WB.at_ H1154 (.tail _ (.tail _ (.tail _ (.tail _ (.tail _ (.tail _ (.head _)))))))).cell 1, (WB.at_ H1154 (.tail _ (.tail _ (.head _)))).cell 0, (WB.at_ H1154 (.tail _ (.tail _ (.head _)))).cell 1, (WB.at_ H1154 (.tail _ (.tail _ (.tail _ (.tail _ (.head _)))))).cell 0, (WB.at_ H1154 (.tail _ (.tail _ (.tail _ (.tail _ (.head _)))))).cell 1⟩) ?_
          case hiu1162 => (simp only [List.getElem?_toArray, List.getElem?_cons_succ, List.getElem?_cons_zero]; exact rfl)
          case hsu1162 => kernel_rfl
          case hfu1162 => kernel_rfl
          case hru1162 => kernel_rfl
          case hzu1162 => kernel_rfl
          case hQu1162 => exact fun _ _ _ h => h
          case hwu1162 => rfl
          case hyu1162 => (intro w hSw; (try dsimp only at hSw); go_simp; (try with_reducible rfl))
          try simp only [Act.put, List.setIfInBounds_toArray, List.set_cons_zero, List.set_cons_succ]
          refine' wpTail_take (i := 8) (oi := _) ?hiu1163 ?hsu1163 ?hfu1163 ?hru1163 ?hzu1163 ?hQu1163 (v := _) (Or.inl ⟨?hwu1163, ?hyu1163⟩) (⟨(WB.at_ H1154 (.head _)).cell 0, (WB.at_ H1154 (.head _)).cell 1, (WB.at_ H1154 (.tail _ (.tail _ (.tail _ (.tail _ (.tail _ (.tail _ (.head _)))))))).cell 0, (WB.at_ H1154 (.tail _ (.tail _ (.tail _ (.tail _ (.tail _ (.tail _ (.head _)))))))).cell 1, (WB.at_ H1154 (.tail _ (.tail _ (.head _)))).cell 0, (WB.at_ H1154 (.tail _ (.tail _ (.head _)))).cell 1, (WB.at_ H1154 (.tail _ (.tail _ (.tail _ (.tail _ (.head _)))))).cell 0, (WB.at_ H1154 (.tail _ (.tail _ (.tail _ (.tail _ (.head _)))))).cell 1⟩) ?_
          case hiu1163 => (simp only [List.getElem?_toArray, List.getElem?_cons_succ, List.getElem?_cons_zero]; exact rfl)
          case hsu1163 => kernel_rfl
          case hfu1163 => kernel_rfl
          case hru1163 => kernel_rfl
          case hzu1163 => kernel_rfl
          case hQu1163 => exact fun _ _ _ h => h
          case hwu1163 => rfl
          case hyu1163 => (intro w hSw; (try dsimp only at hSw); go_simp; (try with_reducible rfl))
          try simp only [Act.put, List.setIfInBounds_toArray, List.set_cons_zero, List.set_cons_succ]
          refine' wpTail_take (i := 9) (oi := _) ?hiu1164 ?hsu1164 ?hfu1164 ?hru1164 ?hzu1164 ?hQu1164 (v := _) (Or.inl ⟨?hwu1164, ?hyu1164⟩) (⟨(WB.at_ H1154 (.head _)).cell 0, (WB.at_ H1154 (.head _)).cell 1, (WB.at_ H1154 (.tail _ (.tail _ (.tail _ (.tail _ (.tail _ (.tail _ (.head _)))))))).cell 0, (WB.at_ H1154 (.tail _ (.tail _ (.tail _ (.tail _ (.tail _ (.tail _ (.head _)))))))).cell 1, (WB.at_ H1154 (.tail _ (.tail _ (.head _)))).cell 0, (WB.at_ H1154 (.tail _ (.tail _ (.head _)))).cell 1, (WB.at_ H1154 (.tail _ (.tail _ (.tail _ (.tail _ (.head _)))))).cell 0, (WB.at_ H1154 (.tail _ (.tail _ (.tail _ (.tail _ (.head _)))))).cell 1⟩) ?_
          case hiu1164 => (simp only [List.getElem?_toArray, List.getElem?_cons_succ, List.getElem?_cons_zero]; exact rfl)
          case hsu1164 => kernel_rfl
          case hfu1164 => kernel_rfl
          case hru1164 => kernel_rfl
          case hzu1164 => kernel_rfl
          case hQu1164 => exact fun _ _ _ h => h
          case hwu1164 => rfl
          case hyu1164 => (intro w hSw; (try dsimp only at hSw); go_simp; (try with_reducible rfl))
          try simp only [Act.put, List.setIfInBounds_toArray, List.set_cons_zero, List.set_cons_succ]
          refine' wpTail_take (i := 10) (oi := _) ?hiu1165 ?hsu1165 ?hfu1165 ?hru1165 ?hzu1165 ?hQu1165 (v := _) (Or.inl ⟨?hwu1165, ?hyu1165⟩) (⟨(WB.at_ H1154 (.head _)).cell 0, (WB.at_ H1154 (.head _)).cell 1, (WB.at_ H1154 (.tail _ (.tail _ (.tail _ (.tail _ (.tail _ (.tail _ (.head _)))))))).cell 0, (WB.at_ H1154 (.tail _ (.tail _ (.tail _ (.tail _ (.tail _ (.tail _ (.head _)))))))).cell 1, (WB.at_ H1154 (.tail _ (.tail _ (.head _)))).cell 0, (WB.at_ H1154 (.tail _ (.tail _ (.head _)))).cell 1, (WB.at_ H1154 (.tail _ (.tail _ (.tail _ (.tail _ (.head _)))))).cell 0, (WB.at_ H1154 (.tail _ (.tail _ (.tail _ (.tail _ (.head _)))))).cell 1⟩) ?_
          case hiu1165 => (simp only [List.getElem?_toArray, List.getElem?_cons_succ, List.getElem?_cons_zero]; exact rfl)
          case hsu1165 => kernel_rfl
          case hfu1165 => kernel_rfl
          case hru1165 => kernel_rfl
          case hzu1165 => kernel_rfl
          case hQu1165 => exact fun _ _ _ h => h
          case hwu1165 => rfl
          case hyu1165 => (intro w hSw; (try dsimp only at hSw); go_simp; (try with_reducible rfl))
          try simp only [Act.put, List.setIfInBounds_toArray, List.set_cons_zero, List.set_cons_succ]
          refine' wpTail_take (i := 11) (oi := _) ?hiu1166 ?hsu1166 ?hfu1166 ?hru1166 ?hzu1166 ?hQu1166 (v := _) (Or.inl ⟨?hwu1166, ?hyu1166⟩) (⟨(WB.at_ H1154 (.head _)).cell 0, (WB.at_ H1154 (.head _)).cell 1, (WB.at_ H1154 (.tail _ (.tail _ (.tail _ (.tail _ (.tail _ (.tail _ (.head _)))))))).cell 0, (WB.at_ H1154 (.tail _ (.tail _ (.tail _ (.tail _ (.tail _ (.tail _ (.head _)))))))).cell 1, (WB.at_ H1154 (.tail _ (.tail _ (.head _)))).cell 0, (WB.at_ H1154 (.tail _ (.tail _ (.head _)))).cell 1, (WB.at_ H1154 (.tail _ (.tail _ (.tail _ (.tail _ (.head _)))))).cell 0, (WB.at_ H1154 (.tail _ (.tail _ (.tail _ (.tail _ (.head _)))))).cell 1⟩) ?_
          case hiu1166 => (simp only [List.getElem?_toArray, List.getElem?_cons_succ, List.getElem?_cons_zero]; exact rfl)
          case hsu1166 => kernel_rfl
          case hfu1166 => kernel_rfl
          case hru1166 => kernel_rfl
          case hzu1166 => kernel_rfl
          case hQu1166 => exact fun _ _ _ h => h
          case hwu1166 => rfl
          case hyu1166 => (intro w hSw; (try dsimp only at hSw); go_simp; (try with_reducible rfl))
          try simp only [Act.put, List.setIfInBounds_toArray, List.set_cons_zero, List.set_cons_succ]
          refine' wpTail_take (i := 12) (oi := _) ?hiu1167 ?hsu1167 ?hfu1167 ?hru1167 ?hzu1167 ?hQu1167 (v := _) (Or.inl ⟨?hwu1167, ?hyu1167⟩) (⟨(WB.at_ H1154 (.head _)).cell 0, (WB.at_ H1154 (.head _)).cell 1, (WB.at_ H1154 (.tail _ (.tail _ (.tail _ (.tail _ (.tail _ (.tail _ (.head _)))))))).cell 0, (WB.at_ H1154 (.tail _ (.tail _ (.tail _ (.tail _ (.tail _ (.tail _ (.head _)))))))).cell 1, (WB.at_ H1154 (.tail _ (.tail _ (.head _)))).cell 0, (WB.at_ H1154 (.tail _ (.tail _ (.head _)))).cell 1, (WB.at_ H1154 (.tail _ (.tail _ (.tail _ (.tail _ (.head _)))))).cell 0, (WB.at_ H1154 (.tail _ (.tail _ (.tail _ (.tail _ (.head _)))))).cell 1⟩) ?_
          case hiu1167 => (simp only [List.getElem?_toArray, List.getElem?_cons_succ, List.getElem?_cons_zero]; exact rfl)
          case hsu1167 => kernel_rfl
          case hfu1167 => kernel_rfl
          case hru1167 => kernel_rfl
          case hzu1167 => kernel_rfl
          case hQu1167 => exact fun _ _ _ h => h
          case hwu1167 => rfl
          case hyu1167 => (intro w hSw; (try dsimp only at hSw); go_simp; (try with_reducible rfl))
          try simp only [Act.put, List.setIfInBounds_toArray, List.set_cons_zero, List.set_cons_succ]
          refine' wpTail_take (i := 13) (oi := _) ?hiu1168 ?hsu1168 ?hfu1168 ?hru1168 ?hzu1168 ?hQu1168 (v := _) (Or.inl ⟨?hwu1168, ?hyu1168⟩) (⟨(WB.at_ H1154 (.head _)).cell 0, (WB.at_ H1154 (.head _)).cell 1, (WB.at_ H1154 (.tail _ (.tail _ (.tail _ (.tail _ (.tail _ (.tail _ (.head _)))))))).cell 0, (WB.at_ H1154 (.tail _ (.tail _ (.tail _ (.tail _ (.tail _ (.tail _ (.head _)))))))).cell 1, (WB.at_ H1154 (.tail _ (.tail _ (.head _)))).cell 0, (WB.at_ H1154 (.tail _ (.tail _ (.head _)))).cell 1, (WB.at_ H1154 (.tail _ (.tail _ (.tail _ (.tail _ (.head _)))))).cell 0, (WB.at_ H1154 (.tail _ (.tail _ (.tail _ (.tail _ (.head _)))))).cell 1⟩) ?_
          case hiu1168 => (simp only [List.getElem?_toArray, List.getElem?_cons_succ, List.getElem?_cons_zero]; exact rfl)
          case hsu1168 => kernel_rfl
          case hfu1168 => kernel_rfl
          case hru1168 => kernel_rfl
          case hzu1168 => kernel_rfl
          case hQu1168 => exact fun _ _ _ h => h
          case hwu1168 => rfl
          case hyu1168 => (intro w hSw; (try dsimp only at hSw); go_simp; (try with_reducible rfl))
          try simp only [Act.put, List.setIfInBounds_toArray, List.set_cons_zero, List.set_cons_succ]
          refine' wpTail_take (i := 14) (oi := _) ?hiu1169 ?hsu1169 ?hfu1169 ?hru1169 ?hzu1169 ?hQu1169 (v := _) (Or.inl ⟨?hwu1169, ?hyu1169⟩) (⟨(WB.at_ H1154 (.head _)).cell 0, (WB.at_ H1154 (.head _)).cell 1, (WB.at_ H1154 (.tail _ (.tail _ (.tail _ (.tail _ (.tail _ (.tail _ (.head _)))))))).cell 0, (WB.at_ H1154 (.tail _ (.tail _ (.tail _ (.tail _ (.tail _ (.tail _ (.head _)))))))).cell 1, (WB.at_ H1154 (.tail _ (.tail _ (.head _)))).cell 0, (WB.at_ H1154 (.tail _ (.tail _ (.head _)))).cell 1, (WB.at_ H1154 (.tail _ (.tail _ (.tail _ (.tail _ (.head _)))))).cell 0, (WB.at_ H1154 (.tail _ (.tail _ (.tail _ (.tail _ (.head _)))))).cell 1⟩) ?_
          case hiu1169 => (simp only [List.getElem?_toArray, List.getElem?_cons_succ, List.getElem?_cons_zero]; exact rfl)
          case hsu1169 => kernel_rfl
          case hfu1169 => kernel_rfl
          case hru1169 => kernel_rfl
          case hzu1169 => kernel_rfl
          case hQu1169 => exact fun _ _ _ h => h
          case hwu1169 => rfl
          case hyu1169 => (intro w hSw; (try dsimp only at hSw); go_simp; (try with_reducible rfl))
          try simp only [Act.put, List.setIfInBounds_toArray, List.set_cons_zero, List.set_cons_succ]
          refine' wpTail_take (i := 15) (oi := _) ?hiu1170 ?hsu1170 ?hfu1170 ?hru1170 ?hzu1170 ?hQu1170 (v := _) (Or.inl ⟨?hwu1170, ?hyu1170⟩) (⟨(WB.at_ H1154 (.head _)).cell 0, (WB.at_ H1154 (.head _)).cell 1, (WB.at_ H1154 (.tail _ (.tail _ (.tail _ (.tail _ (.tail _ (.tail _ (.head _)))))))).cell 0, (WB.at_ H1154 (.tail _ (.tail _ (.tail _ (.tail _ (.tail _ (.tail _ (.head _)))))))).cell 1, (WB.at_ H1154 (.tail _ (.tail _ (.head _)))).cell 0, (WB.at_ H1154 (.tail _ (.tail _ (.head _)))).cell 1, (WB.at_ H1154 (.tail _ (.tail _ (.tail _ (.tail _ (.head _)))))).cell 0, (WB.at_ H1154 (.tail _ (.tail _ (.tail _ (.tail _ (.head _)))))).cell 1⟩) ?_
          case hiu1170 => (simp only [List.getElem?_toArray, List.getElem?_cons_succ, List.getElem?_cons_zero]; exact rfl)
          case hsu1170 => kernel_rfl
          case hfu1170 => kernel_rfl
          case hru1170 => kernel_rfl
          case hzu1170 => kernel_rfl
          case hQu1170 => exact fun _ _ _ h => h
          case hwu1170 => rfl
          case hyu1170 => (intro w hSw; (try dsimp only at hSw); go_simp; (try with_reducible rfl))
          try simp only [Act.put, List.setIfInBounds_toArray, List.set_cons_zero, List.set_cons_succ]
          refine' wpTail_take (i := 16) (oi := _) ?hiu1171 ?hsu1171 ?hfu1171 ?hru1171 ?hzu1171 ?hQu1171 (v := _) (Or.inl ⟨?hwu1171, ?hyu1171⟩) (⟨(WB.at_ H1154 (.head _)).cell 0, (WB.at_ H1154 (.head _)).cell 1, (WB.at_ H1154 (.tail _ (.tail _ (.tail _ (.tail _ (.tail _ (.tail _ (.head _)))))))).cell 0, (WB.at_ H1154 (.tail _ (.tail _ (.tail _ (.tail _ (.tail _ (.tail _ (.head _)))))))).cell 1, (WB.at_ H1154 (.tail _ (.tail _ (.head _)))).cell 0, (WB.at_ H1154 (.tail _ (.tail _ (.head _)))).cell 1, (WB.at_ H1154 (.tail _ (.tail _ (.tail _ (.tail _ (.head _)))))).cell 0, (WB.at_ H1154 (.tail _ (.tail _ (.tail _ (.tail _ (.head _)))))).cell 1⟩) ?_
          case hiu1171 => (simp only [List.getElem?_toArray, List.getElem?_cons_succ, List.getElem?_cons_zero]; exact rfl)
          case hsu1171 => kernel_rfl
          case hfu1171 => kernel_rfl
          case hru1171 => kernel_rfl
          case hzu1171 => kernel_rfl
          case hQu1171 => exact fun _ _ _ h => h
          case hwu1171 => rfl
          case hyu1171 => (intro w hSw; (try dsimp only at hSw); go_simp; (try with_reducible rfl))
          try simp only [Act.put, List.setIfInBounds_toArray, List.set_cons_zero, List.set_cons_succ]
          refine' wpTail_take (i := 17) (oi := _) ?hiu1172 ?hsu1172 ?hfu1172 ?hru1172 ?hzu1172 ?hQu1172 (v := _) (Or.inl ⟨?hwu1172, ?hyu1172⟩) (⟨(WB.at_ H1154 (.head _)).cell 0, (WB.at_ H1154 (.head _)).cell 1, (WB.at_ H1154 (.tail _ (.tail _ (.tail _ (.tail _ (.tail _ (.tail _ (.head _)))))))).cell 0, (WB.at_ H1154 (.tail _ (.tail _ (.tail _ (.tail _ (.tail _ (.tail _ (.head _)))))))).cell 1, (WB.at_ H1154 (.tail _ (.tail _ (.head _)))).cell 0, (WB.at_ H1154 (.tail _ (.tail _ (.head _)))).cell 1, (WB.at_ H1154 (.tail _ (.tail _ (.tail _ (.tail _ (.head _)))))).cell 0, (WB.at_ H1154 (.tail _ (.tail _ (.tail _ (.tail _ (.head _)))))).cell 1⟩) ?_
          case hiu1172 => (simp only [List.getElem?_toArray, List.getElem?_cons_succ, List.getElem?_cons_zero]; exact rfl)
          case hsu1172 => kernel_rfl
          case hfu1172 => kernel_rfl
          case hru1172 => kernel_rfl
          case hzu1172 => kernel_rfl
          case hQu1172 => exact fun _ _ _ h => h
          case hwu1172 => rfl
          case hyu1172 => (intro w hSw; (try dsimp only at hSw); go_simp; (try with_reducible rfl))
          try simp only [Act.put, List.setIfInBounds_toArray, List.set_cons_zero, List.set_cons_succ]
          refine' wpTail_take (i := 20) (oi := _) ?hiu1173 ?hsu1173 ?hfu1173 ?hru1173 ?hzu1173 ?hQu1173 (v := _) (Or.inl ⟨?hwu1173, ?hyu1173⟩) (⟨(WB.at_ H1154 (.head _)).cell 0, (WB.at_ H1154 (.head _)).cell 1, (WB.at_ H1154 (.tail _ (.tail _ (.tail _ (.tail _ (.tail _ (.tail _ (.head _)))))))).cell 0, (WB.at_ H1154 (.tail _ (.tail _ (.tail _ (.tail _ (.tail _ (.tail _ (.head _)))))))).cell 1, (WB.at_ H1154 (.tail _ (.tail _ (.head _)))).cell 0, (WB.at_ H1154 (.tail _ (.tail _ (.head _)))).cell 1, (WB.at_ H1154 (.tail _ (.tail _ (.tail _ (.tail _ (.head _)))))).cell 0, (WB.at_ H1154 (.tail _ (.tail _ (.tail _ (.tail _ (.head _)))))).cell 1⟩) ?_
          case hiu1173 => (simp only [List.getElem?_toArray, List.getElem?_cons_succ, List.getElem?_cons_zero]; exact rfl)
          case hsu1173 => kernel_rfl
          case hfu1173 => kernel_rfl
          case hru1173 => kernel_rfl
          case hzu1173 => kernel_rfl
          case hQu1173 => exact fun _ _ _ h => h
          case hwu1173 => rfl
          case hyu1173 => (intro w hSw; (try dsimp only at hSw); go_simp; (try with_reducible rfl))
          try simp only [Act.put, List.setIfInBounds_toArray, List.set_cons_zero, List.set_cons_succ]
          refine' wpTail_take (i := 21) (oi := _) ?hiu1174 ?hsu1174 ?hfu1174 ?hru1174 ?hzu1174 ?hQu1174 (v := _) (Or.inl ⟨?hwu1174, ?hyu1174⟩) (⟨(WB.at_ H1154 (.head _)).cell 0, (WB.at_ H1154 (.head _)).cell 1, (WB.at_ H1154 (.tail _ (.tail _ (.tail _ (.tail _ (.tail _ (.tail _ (.head _)))))))).cell 0, (WB.at_ H1154 (.tail _ (.tail _ (.tail _ (.tail _ (.tail _ (.tail _ (.head _)))))))).cell 1, (WB.at_ H1154 (.tail _ (.tail _ (.head _)))).cell 0, (WB.at_ H1154 (.tail _ (.tail _ (.head _)))).cell 1, (WB.at_ H1154 (.tail _ (.tail _ (.tail _ (.tail _ (.head _)))))).cell 0, (WB.at_ H1154 (.tail _ (.tail _ (.tail _ (.tail _ (.head _)))))).cell 1⟩) ?_
          case hiu1174 => (simp only [List.getElem?_toArray, List.getElem?_cons_succ, List.getElem?_cons_zero]; exact rfl)
          case hsu1174 => kernel_rfl
          case hfu1174 => kernel_rfl
          case hru1174 => kernel_rfl
          case hzu1174 => kernel_rfl
          case hQu1174 => exact fun _ _ _ h => h
          case hwu1174 => rfl
          case hyu1174 => (intro w hSw; (try dsimp only at hSw); go_simp; (try with_reducible rfl))
          try simp only [Act.put, List.setIfInBounds_toArray, List.set_cons_zero, List.set_cons_succ]
          refine' wpTail_one (i := 18) (o := _) (by kernel_rfl) ?hou1176 ?hwu1176 (fun K hK => ?_)
          case hou1176 => (simp only [List.getElem?_toArray, List.getElem?_cons_succ, List.getElem?_cons_zero]; exact rfl)
          case hwu1176 => rfl
          go_simp
          (with_reducible refine (HCR.out _).mono ?_)
          rintro e v1175 ⟨rfl, hb1175⟩
          have M1175 := WB.next hb1175 H1154
          refine hK.out _ _ (fun _ => ⟨(WB.at_ M1175 (.head _)).cell 0, (WB.at_ M1175 (.head _)).cell 1, (WB.at_ M1175 (.tail _ (.tail _ (.tail _ (.tail _ (.tail _ (.tail _ (.head _)))))))).cell 0, (WB.at_ M1175 (.tail _ (.tail _ (.tail _ (.tail _ (.tail _ (.tail _ (.head _)))))))).cell 1, (WB.at_ M1175 (.tail _ (.tail _ (.head _)))).cell 0, (WB.at_ M1175 (.tail _ (.tail _ (.head _)))).cell 1, (WB.at_ M1175 (.tail _ (.tail _ (.tail _ (.tail _ (.head _)))))).cell 0, (WB.at_ M1175 (.tail _ (.tail _ (.tail _ (.tail _ (.head _)))))).cell 1⟩) ?_
          clear hK K hb1175
          try simp only [Act.put, List.setIfInBounds_toArray, List.set_cons_zero, List.set_cons_succ]
          refine' wpTail_take (i := 19) (oi := _) ?hiu1177 ?hsu1177 ?hfu1177 ?hru1177 ?hzu1177 ?hQu1177 (v := _) (Or.inl ⟨?hwu1177, ?hyu1177⟩) (⟨(WB.at_ M1175 (.head _)).cell 0, (WB.at_ M1175 (.head _)).cell 1, (WB.at_ M1175 (.tail _ (.tail _ (.tail _ (.tail _ (.tail _ (.tail _ (.head _)))))))).cell 0, (WB.at_ M1175 (.tail _ (.tail _ (.tail _ (.tail _ (.tail _ (.tail _ (.head _)))))))).cell 1, (WB.at_ M1175 (.tail _ (.tail _ (.head _)))).cell 0, (WB.at_ M1175 (.tail _ (.tail _ (.head _)))).cell 1, (WB.at_ M1175 (.tail _ (.tail _ (.tail _ (.tail _ (.head _)))))).cell 0, (WB.at_ M1175 (.tail _ (.tail _ (.tail _ (.tail _ (.head _)))))).cell 1⟩) ?_
          case hiu1177 => (simp only [List.getElem?_toArray, List.getElem?_cons_succ, List.getElem?_cons_zero]; exact rfl)
          case hsu1177 => kernel_rfl
          case hfu1177 => kernel_rfl
          case hru1177 => kernel_rfl
          case hzu1177 => kernel_rfl
          case hQu1177 => exact fun _ _ _ h => h
          case hwu1177 => rfl
          case hyu1177 => (intro w hSw; (try dsimp only at hSw); go_simp; (try with_reducible rfl))
          try simp only [Act.put, List.setIfInBounds_toArray, List.set_cons_zero, List.set_cons_succ]
          refine' wpTail_one (i := 22) (o := _) (by kernel_rfl) ?hou1179 ?hwu1179 (fun K hK => ?_)
          case hou1179 => (simp only [List.getElem?_toArray, List.getElem?_cons_succ, List.getElem?_cons_zero]; exact rfl)
          case hwu1179 => rfl
          go_simp
          (with_reducible refine (HCA.out _).mono ?_)
          rintro e v1178 ⟨rfl, hb1178⟩
          have M1178 := WB.next hb1178 M1175
          refine hK.out _ _ (fun _ => ⟨(WB.at_ M1178 (.head _)).cell 0, (WB.at_ M1178 (.head _)).cell 1, (WB.at_ M1178 (.tail _ (.tail _ (.tail _ (.tail _ (.tail _ (.tail _ (.head _)))))))).cell 0, (WB.at_ M1178 (.tail _ (.tail _ (.tail _ (.tail _ (.tail _ (.tail _ (.head _)))))))).cell 1, (WB.at_ M1178 (.tail _ (.tail _ (.head _)))).cell 0, (WB.at_ M1178 (.tail _ (.tail _ (.head _)))).cell 1, (WB.at_ M1178 (.tail _ (.tail _ (.tail _ (.tail _ (.head _)))))).cell 0, (WB.at_ M1178 (.tail _ (.tail _ (.tail _ (.tail _ (.head _)))))).cell 1⟩) ?_
          clear hK K hb1178
          try simp only [Act.put, List.setIfInBounds_toArray, List.set_cons_zero, List.set_cons_succ]
          refine' wpTail_take (i := 23) (oi := _) ?hiu1180 ?hsu1180 ?hfu1180 ?hru1180 ?hzu1180 ?hQu1180 (v := _) (Or.inl ⟨?hwu1180, ?hyu1180⟩) (⟨(WB.at_ M1178 (.head _)).cell 0, (WB.at_ M1178 (.head _)).cell 1, (WB.at_ M1178 (.tail _ (.tail _ (.tail _ (.tail _ (.tail _ (.tail _ (.head _)))))))).cell 0, (WB.at_ M1178 (.tail _ (.tail _ (.tail _ (.tail _ (.tail _ (.tail _ (.head _)))))))).cell 1, (WB.at_ M1178 (.tail _ (.tail _ (.head _)))).cell 0, (WB.at_ M1178 (.tail _ (.tail _ (.head _)))).cell 1, (WB.at_ M1178 (.tail _ (.tail _ (.tail _ (.tail _ (.head _)))))).cell 0, (WB.at_ M1178 (.tail _ (.tail _ (.tail _ (.tail _ (.head _)))))).cell 1⟩) ?_
          case hiu1180 => (simp only [List.getElem?_toArray, List.getElem?_cons_succ, List.getElem?_cons_zero]; exact rfl)
          case hsu1180 => kernel_rfl
          case hfu1180 => kernel_rfl
          case hru1180 => kernel_rfl
          case hzu1180 => kernel_rfl
          case hQu1180 => exact fun _ _ _ h => h
          case hwu1180 => rfl
          case hyu1180 => (intro w hSw; (try dsimp only at hSw); go_simp; (try with_reducible rfl))
          try simp only [Act.put, List.setIfInBounds_toArray, List.set_cons_zero, List.set_cons_succ]
          refine' wpTail_take (i := 24) (oi := _) ?hiu1181 ?hsu1181 ?hfu1181 ?hru1181 ?hzu1181 ?hQu1181 (v := _) (Or.inl ⟨?hwu1181, ?hyu1181⟩) (⟨(WB.at_ M1178 (.head _)).cell 0, (WB.at_ M1178 (.head _)).cell 1, (WB.at_ M1178 (.tail _ (.tail _ (.tail _ (.tail _ (.tail _ (.tail _ (.head _)))))))).cell 0, (WB.at_ M1178 (.tail _ (.tail _ (.tail _ (.tail _ (.tail _ (.tail _ (.head _)))))))).cell 1, (WB.at_ M1178 (.tail _ (.tail _ (.head _)))).cell 0, (WB.at_ M1178 (.tail _ (.tail _ (.head _)))).cell 1, (WB.at_ M1178 (.tail _ (.tail _ (.tail _ (.tail _ (.head _)))))).cell 0, (WB.at_ M1178 (.tail _ (.tail _ (.tail _ (.tail _ (.head _)))))).cell 1⟩) ?_
          case hiu1181 => (simp only [List.getElem?_toArray, List.getElem?_cons_succ, List.getElem?_cons_zero]; exact rfl)
          case hsu1181 => kernel_rfl
          case hfu1181 => kernel_rfl
          case hru1181 => kernel_rfl
          case hzu1181 => kernel_rfl
          case hQu1181 => exact fun _ _ _ h => h
          case hwu1181 => rfl
          case hyu1181 => (intro w hSw; (try dsimp only at hSw); go_simp; (try with_reducible rfl))
          try simp only [Act.put, List.setIfInBounds_toArray, List.set_cons_zero, List.set_cons_succ]
          refine' wpTail_take (i := 25) (oi := _) ?hiu1182 ?hsu1182 ?hfu1182 ?hru1182 ?hzu1182 ?hQu1182 (v := _) (Or.inl ⟨?hwu1182, ?hyu1182⟩) (⟨(WB.at_ M1178 (.head _)).cell 0, (WB.at_ M1178 (.head _)).cell 1, (WB.at_ M1178 (.tail _ (.tail _ (.tail _ (.tail _ (.tail _ (.tail _ (.head _)))))))).cell 0, (WB.at_ M1178 (.tail _ (.tail _ (.tail _ (.tail _ (.tail _ (.tail _ (.head _)))))))).cell 1, (WB.at_ M1178 (.tail _ (.tail _ (.head _)))).cell 0, (WB.at_ M1178 (.tail _ (.tail _ (.head _)))).cell 1, (WB.at_ M1178 (.tail _ (.tail _ (.tail _ (.tail _ (.head _)))))).cell 0, (WB.at_ M1178 (.tail _ (.tail _ (.tail _ (.tail _ (.head _)))))).cell 1⟩) ?_
          case hiu1182 => (simp only [List.getElem?_toArray, List.getElem?_cons_succ, List.getElem?_cons_zero]; exact rfl)
          case hsu1182 => kernel_rfl
          case hfu1182 => kernel_rfl
          case hru1182 => kernel_rfl
          case hzu1182 => kernel_rfl
          case hQu1182 => exact fun _ _ _ h => h
          case hwu1182 => rfl
          case hyu1182 => (intro w hSw; (try dsimp only at hSw); go_simp; (try with_reducible rfl))
          try simp only [Act.put, List.setIfInBounds_toArray, List.set_cons_zero, List.set_cons_succ]
          refine' wpTail_take (i := 26) (oi := _) ?hiu1183 ?hsu1183 ?hfu1183 ?hru1183 ?hzu1183 ?hQu1183 (v := _) (Or.inl ⟨?hwu1183, ?hyu1183⟩) (⟨(WB.at_ M1178 (.head _)).cell 0, (WB.at_ M1178 (.head _)).cell 1, (WB.at_ M1178 (.tail _ (.tail _ (.tail _ (.tail _ (.tail _ (.tail _ (.head _)))))))).cell 0, (WB.at_ M1178 (.tail _ (.tail _ (.tail _ (.tail _ (.tail _ (.tail _ (.head _)))))))).cell 1, (WB.at_ M1178 (.tail _ (.tail _ (.head _)))).cell 0, (WB.at_ M1178 (.tail _ (.tail _ (.head _)))).cell 1, (WB.at_ M1178 (.tail _ (.tail _ (.tail _ (.tail _ (.head _)))))).cell 0, (WB.at_ M1178 (.tail _ (.tail _ (.tail _ (.tail _ (.head _)))))).cell 1⟩) ?_
          case hiu1183 => (simp only [List.getElem?_toArray, List.getElem?_cons_succ, List.getElem?_cons_zero]; exact rfl)
          case hsu1183 => kernel_rfl
          case hfu1183 => kernel_rfl
          case hru1183 => kernel_rfl
          case hzu1183 => kernel_rfl
          case hQu1183 => exact fun _ _ _ h => h
          case hwu1183 => rfl
          case hyu1183 => (intro w hSw; (try dsimp only at hSw); go_simp; (try with_reducible rfl))
          try simp only [Act.put, List.setIfInBounds_toArray, List.set_cons_zero, List.set_cons_succ]
          refine wpTail_done (by kernel_rfl) ?_ _
          go_wp2_with fail
          go_meet
          exact ⟨rfl, M1178⟩
        · skip
          have H1184 := WB.drew H1065
          refine wp_region_tail 99 (fun w' => w'.cell? ⟨g12, 0, none⟩ = some (.int .u64 ah) ∧ w'.cell? ⟨g12, 1, none⟩ = some (.int .u64 al) ∧ w'.cell? ⟨s, 0, none⟩ = some (.int .u64 ah) ∧ w'.cell? ⟨s, 1, none⟩ = some (.int .u64 al) ∧ w'.cell? ⟨g8, 0, none⟩ = some (.int .u64 0) ∧ w'.cell? ⟨g8, 1, none⟩ = some (.int .u64 rl) ∧ w'.cell? ⟨g5, 0, none⟩ = some (.int .u64 0) ∧ w'.cell? ⟨g5, 1, none⟩ = some (.int .u64 0)) (by kernel_rfl) ⟨(WB.at_ H1184 (.head _)).cell 0, (WB.at_ H1184 (.head _)).cell 1, (WB.at_ H1184 (.tail _ (.tail _ (.tail _ (.tail _ (.tail _ (.tail _ (.head _)))))))).cell 0, (WB.at_ H1184 (.tail _ (.tail _ (.tail _ (.tail _ (.tail _ (.tail _ (.head _)))))))).cell 1, (WB.at_ H1184 (.tail _ (.tail _ (.head _)))).cell 0, (WB.at_ H1184 (.tail _ (.tail _ (.head _)))).cell 1, (WB.at_ H1184 (.tail _ (.tail _ (.tail _ (.tail _ (.head _)))))).cell 0, (WB.at_ H1184 (.tail _ (.tail _ (.tail _ (.tail _ (.head _)))))).cell 1⟩ (fun hHeld => ?_)
          clear hHeld
          try simp only [Act.put, List.setIfInBounds_toArray, List.set_cons_zero, List.set_cons_succ]
          refine' wpTail_take (i := 0) (oi := _) ?hiu1185 ?hsu1185 ?hfu1185 ?hru1185 ?hzu1185 ?hQu1185 (v := _) (Or.inl ⟨?hwu1185, ?hyu1185⟩) (⟨(WB.at_ H1184 (.head _)).cell 0, (WB.at_ H1184 (.head _)).cell 1, (WB.at_ H1184 (.tail _ (.tail _ (.tail _ (.tail _ (.tail _ (.tail _ (.head _)))))))).cell 0, (WB.at_ H1184 (.tail _ (.tail _ (.tail _ (.tail _ (.tail _ (.tail _ (.head _)))))))).cell 1, (WB.at_ H1184 (.tail _ (.tail _ (.head _)))).cell 0, (WB.at_ H1184 (.tail _ (.tail _ (.head _)))).cell 1, (WB.at_ H1184 (.tail _ (.tail _ (.tail _ (.tail _ (.head _)))))).cell 0, (WB.at_ H1184 (.tail _ (.tail _ (.tail _ (.tail _ (.head _)))))).cell 1⟩) ?_
          case hiu1185 => (simp only [List.getElem?_toArray, List.getElem?_cons_zero]; exact rfl)
          case hsu1185 => kernel_rfl
          case hfu1185 => kernel_rfl
          case hru1185 => kernel_rfl
          case hzu1185 => kernel_rfl
          case hQu1185 => exact fun _ _ _ h => h
          case hwu1185 => rfl
          case hyu1185 => (intro w hSw; (try dsimp only at hSw); go_simp; (try with_reducible rfl))
          try simp only [Act.put, List.setIfInBounds_toArray, List.set_cons_zero, List.set_cons_succ]
          refine' wpTail_take (i := 1) (oi := _) ?hiu1186 ?hsu1186 ?hfu1186 ?hru1186 ?hzu1186 ?hQu1186 (v := _) (Or.inl ⟨?hwu1186, ?hyu1186⟩) (⟨(WB.at_ H1184 (.head _)).cell 0, (WB.at_ H1184 (.head _)).cell 1, (WB.at_ H1184 (.tail _ (.tail _ (.tail _ (.tail _ (.tail _ (.tail _ (.head _)))))))).cell 0, (WB.at_ H1184 (.tail _ (.tail _ (.tail _ (.tail _ (.tail _ (.tail _ (.head _)))))))).cell 1, (WB.at_ H1184 (.tail _ (.tail _ (.head _)))).cell 0, (WB.at_ H1184 (.tail _ (.tail _ (.head _)))).cell 1, (WB.at_ H1184 (.tail _ (.tail _ (.tail _ (.tail _ (.head _)))))).cell 0, (WB.at_ H1184 (.tail _ (.tail _ (.tail _ (.tail _ (.head _)))))).cell 1⟩) ?_
          case hiu1186 => (simp only [List.getElem?_toArray, List.getElem?_cons_succ, List.getElem?_cons_zero]; exact rfl)
          case hsu1186 => kernel_rfl
          case hfu1186 => kernel_rfl
          case hru1186 => kernel_rfl
          case hzu1186 => kernel_rfl
          case hQu1186 => exact fun _ _ _ h => h
          case hwu1186 => rfl
          case hyu1186 => (intro w hSw; (try dsimp only at hSw); go_simp; (try with_reducible rfl))
          try simp only [Act.put, List.setIfInBounds_toArray, List.set_cons_zero, List.set_cons_succ]
          refine' wpTail_take (i := 2) (oi := _) ?hiu1187 ?hsu1187 ?hfu1187 ?hru1187 ?hzu1187 ?hQu1187 (v := _) (Or.inl ⟨?hwu1187, ?hyu1187⟩) (⟨(WB.at_ H1184 (.head _)).cell 0, (WB.at_ H1184 (.head _)).cell 1, (WB.at_ H1184 (.tail _ (.tail _ (.tail _ (.tail _ (.tail _ (.tail _ (.head _)))))))).cell 0, (WB.at_ H1184 (.tail _ (.tail _ (.tail _ (.tail _ (.tail _ (.tail _ (.head _)))))))).cell 1, (WB.at_ H1184 (.tail _ (.tail _ (.head _)))).cell 0, (WB.at_ H1184 (.tail _ (.tail _ (.head _)))).cell 1, (WB.at_ H1184 (.tail _ (.tail _ (.tail _ (.tail _ (.head _)))))).cell 0, (WB.at_ H1184 (.tail _ (.tail _ (.tail _ (.tail _ (.head _)))))).cell 1⟩) ?_
          case hiu1187 => (simp only [List.getElem?_toArray, List.getElem?_cons_succ, List.getElem?_cons_zero]; exact rfl)
          case hsu1187 => kernel_rfl
          case hfu1187 => kernel_rfl
          case hru1187 => kernel_rfl
          case hzu1187 => kernel_rfl
          case hQu1187 => exact fun _ _ _ h => h
          case hwu1187 => rfl
          case hyu1187 => (intro w hSw; (try dsimp only at hSw); go_simp; (try with_reducible rfl))
          try simp only [Act.put, List.setIfInBounds_toArray, List.set_cons_zero, List.set_cons_succ]
          refine' wpTail_take (i := 3) (oi := _) ?hiu1188 ?hsu1188 ?hfu1188 ?hru1188 ?hzu1188 ?hQu1188 (v := _) (Or.inl ⟨?hwu1188, ?hyu1188⟩) (⟨(WB.at_ H1184 (.head _)).cell 0, (WB.at_ H1184 (.head _)).cell 1, (WB.at_ H1184 (.tail _ (.tail _ (.tail _ (.tail _ (.tail _ (.tail _ (.head _)))))))).cell 0, (WB.at_ H1184 (.tail _ (.tail _ (.tail _ (.tail _ (.tail _ (.tail _ (.head _)))))))).cell 1, (WB.at_ H1184 (.tail _ (.tail _ (.head _)))).cell 0, (WB.at_ H1184 (.tail _ (.tail _ (.head _)))).cell 1, (WB.at_ H1184 (.tail _ (.tail _ (.tail _ (.tail _ (.head _)))))).cell 0, (WB.at_ H1184 (.tail _ (.tail _ (.tail _ (.tail _ (.head _)))))).cell 1⟩) ?_
          case hiu1188 => (simp only [List.getElem?_toArray, List.getElem?_cons_succ, List.getElem?_cons_zero]; exact rfl)
          case hsu1188 => kernel_rfl
          case hfu1188 => kernel_rfl
          case hru1188 => kernel_rfl
          case hzu1188 => kernel_rfl
          case hQu1188 => exact fun _ _ _ h => h
          case hwu1188 => rfl
          case hyu1188 => (intro w hSw; (try dsimp only at hSw); go_simp; (try with_reducible rfl))
          try simp only [Act.put, List.setIfInBounds_toArray, List.set_cons_zero, List.set_cons_succ]
          refine' wpTail_take (i := 4) (oi := _) ?hiu1189 ?hsu1189 ?hfu1189 ?hru1189 ?hzu1189 ?hQu1189 (v := _) (Or.inl ⟨?hwu1189, ?hyu1189⟩) (⟨(WB.at_ H1184 (.head _)).cell 0, (WB.at_ H1184 (.head _)).cell 1, (WB.at_ H1184 (.tail _ (.tail _ (.tail _ (.tail _ (.tail _ (.tail _ (.head _)))))))).cell 0, (WB.at_ H1184 (.tail _ (.tail _ (.tail _ (.tail _ (.tail _ (.tail _ (.head _)))))))).cell 1, (WB.at_ H1184 (.tail _ (.tail _ (.head _)))).cell 0, (WB.at_ H1184 (.tail _ (.tail _ (.head _)))).cell 1, (WB.at_ H1184 (.tail _ (.tail _ (.tail _ (.tail _ (.head _)))))).cell 0, (WB.at_ H1184 (.tail _ (.tail _ (.tail _ (.tail _ (.head _)))))).cell 1⟩) ?_
          case hiu1189 => (simp only [List.getElem?_toArray, List.getElem?_cons_succ, List.getElem?_cons_zero]; exact rfl)
          case hsu1189 => kernel_rfl
          case hfu1189 => kernel_rfl
          case hru1189 => kernel_rfl
          case hzu1189 => kernel_rfl
          case hQu1189 => exact fun _ _ _ h => h
          case hwu1189 => rfl
          case hyu1189 => (intro w hSw; (try dsimp only at hSw); go_simp; (try with_reducible rfl))
          try simp only [Act.put, List.setIfInBounds_toArray, List.set_cons_zero, List.set_cons_succ]
          refine' wpTail_take (i := 5) (oi := _) ?hiu1190 ?hsu1190 ?hfu1190 ?hru1190 ?hzu1190 ?hQu1190 (v := _) (Or.inl ⟨?hwu1190, ?hyu1190⟩) (⟨(WB.at_ H1184 (.head _)).cell 0, (WB.at_ H1184 (.head _)).cell 1, (WB.at_ H1184 (.tail _ (.tail _ (.tail _ (.tail _ (.tail _ (.tail _ (.head _)))))))).cell 0, (WB.at_ H1184 (.tail _ (.tail _ (.tail _ (.tail _ (.tail _ (.tail _ (.head _)))))))).cell 1, (WB.at_ H1184 (.tail _ (.tail _ (.head _)))).cell 0, (WB.at_ H1184 (.tail _ (.tail _ (.head _)))).cell 1, (WB.at_ H1184 (.tail _ (.tail _ (.tail _ (.tail _ (.head _)))))).cell 0, (WB.at_ H1184 (.tail _ (.tail _ (.tail _ (.tail _ (.head _)))))).cell 1⟩) ?_
          case hiu1190 => (simp only [List.getElem?_toArray, List.getElem?_cons_succ, List.getElem?_cons_zero]; exact rfl)
          case hsu1190 => kernel_rfl
          case hfu1190 => kernel_rfl
          case hru1190 => kernel_rfl
          case hzu1190 => kernel_rfl
          case hQu1190 => exact fun _ _ _ h => h
          case hwu1190 => rfl
          case hyu1190 => (intro w hSw; (try dsimp only at hSw); go_simp; (try with_reducible rfl))
          try simp only [Act.put, List.setIfInBounds_toArray, List.set_cons_zero, List.set_cons_succ]
          refine' wpTail_take (i := 6) (oi := _) ?hiu1191 ?hsu1191 ?hfu1191 ?hru1191 ?hzu1191 ?hQu1191 (v := _) (Or.inl ⟨?hwu1191, ?hyu1191⟩) (⟨(WB.at_ H1184 (.head _)).cell 0, (WB.at_ H1184 (.head _)).cell 1, (WB.at_ H1184 (.tail _ (.tail _ (.tail _ (.tail _ (.tail _ (.tail _ (.head _)))))))).cell 0, (WB.at_ H1184 (.tail _ (.tail _ (.tail _ (.tail _ (.tail _ (.tail _ (.head _)))))))).cell 1, (WB.at_ H1184 (.tail _ (.tail _ (.head _)))).cell 0, (WB.at_ H1184 (.tail _ (.tail _ (.head _)))).cell 1, (WB.at_ H1184 (.tail _ (.tail _ (.tail _ (.tail _ (.head _)))))).cell 0, (WB.at_ H1184 (.tail _ (.tail _ (.tail _ (.tail _ (.head _)))))).cell 1⟩) ?_
          case hiu1191 => (simp only [List.getElem?_toArray, List.getElem?_cons_succ, List.getElem?_cons_zero]; exact rfl)
          case hsu1191 => kernel_rfl
          case hfu1191 => kernel_rfl
          case hru1191 => kernel_rfl
          case hzu1191 => kernel_rfl
          case hQu1191 => exact fun _ _ _ h => h
          case hwu1191 => rfl
          case hyu1191 => (intro w hSw; (try dsimp only at hSw); go_simp; (try with_reducible rfl))
          try simp only [Act.put, List.setIfInBounds_toArray, List.set_cons_zero, List.set_cons_succ]
          refine' wpTail_take (i := 7) (oi := _) ?hiu1192 ?hsu1192 ?hfu1192 ?hru1192 ?hzu1192 ?hQu1192 (v := _) (Or.inl ⟨?hwu1192, ?hyu1192⟩) (⟨(WB.at_ H1184 (.head _)).cell 0, (WB.at_ H1184 (.head _)).cell 1, (WB.at_ H1184 (.tail _ (.tail _ (.tail _ (.tail _ (.tail _ (.tail _ (.head _)))))))).cell 0, (WB.at_ H1184 (.tail _ (.tail _ (.tail _ (.tail _ (.tail _ (.tail _ (.head _)))))))).cell 1, (WB.at_ H1184 (.tail _ (.tail _ (.head _)))).cell 0, (WB.at_ H1184 (.tail _ (.tail _ (.head _)))).cell 1, (WB.at_ H1184 (.tail _ (.tail _ (.tail _ (.tail _ (.head _)))))).cell 0, (WB.at_ H1184 (.tail _ (.tail _ (.tail _ (.tail _ (.head _)))))).cell 1⟩) ?_
          case hiu1192 => (simp only [List.getElem?_toArray, List.getElem?_cons_succ, List.getElem?_cons_zero]; exact rfl)
          case hsu1192 => kernel_rfl
          case hfu1192 => kernel_rfl
          case hru1192 => kernel_rfl
          case hzu1192 => kernel_rfl
          case hQu1192 => exact fun _ _ _ h => h
          case hwu1192 => rfl
          case hyu1192 => (intro w hSw; (try dsimp only at hSw); go_simp; (try with_reducible rfl))
          try simp only [Act.put, List.setIfInBounds_toArray, List.set_cons_zero, List.set_cons_succ]
          refine' wpTail_take (i := 8) (oi := _) ?hiu1193 ?hsu1193 ?hfu1193 ?hru1193 ?hzu1193 ?hQu1193 (v := _) (Or.inl ⟨?hwu1193, ?hyu1193⟩) (⟨(WB.at_ H1184 (.head _)).cell 0, (WB.at_ H1184 (.head _)).cell 1, (WB.at_ H1184 (.tail _ (.tail _ (.tail _ (.tail _ (.tail _ (.tail _ (.head _)))))))).cell 0, (WB.at_ H1184 (.tail _ (.tail _ (.tail _ (.tail _ (.tail _ (.tail _ (.head _)))))))).cell 1, (WB.at_ H1184 (.tail _ (.tail _ (.head _)))).cell 0, (WB.at_ H1184 (.tail _ (.tail _ (.head _)))).cell 1, (WB.at_ H1184 (.tail _ (.tail _ (.tail _ (.tail _ (.head _)))))).cell 0, (WB.at_ H1184 (.tail _ (.tail _ (.tail _ (.tail _ (.head _)))))).cell 1⟩) ?_
          case hiu1193 => (simp only [List.getElem?_toArray, List.getElem?_cons_succ, List.getElem?_cons_zero]; exact rfl)
          case hsu1193 => kernel_rfl
          case hfu1193 => kernel_rfl
          case hru1193 => kernel_rfl
          case hzu1193 => kernel_rfl
          case hQu1193 => exact fun _ _ _ h => h
          case hwu1193 => rfl
          case hyu1193 => (intro w hSw; (try dsimp only at hSw); go_simp; (try with_reducible rfl))
          try simp only [Act.put, List.setIfInBounds_toArray, List.set_cons_zero, List.set_cons_succ]
          refine' wpTail_take (i := 9) (oi := _) ?hiu1194 ?hsu1194 ?hfu1194 ?hru1194 ?hzu1194 ?hQu1194 (v := _) (Or.inl ⟨?hwu1194, ?hyu1194⟩) (⟨(WB.at_ H1184 (.head _)).cell 0, (WB.at_ H1184 (.head _)).cell 1, (WB.at_ H1184 (.tail _ (.tail _ (.tail _ (.tail _ (.tail _ (.tail _ (.head _)))))))).cell 0, (WB.at_ H1184 (.tail _ (.tail _ (.tail _ (.tail _ (.tail _ (.tail _ (.head _)))))))).cell 1, (WB.at_ H1184 (.tail _ (.tail _ (.head _)))).cell 0, (WB.at_ H1184 (.tail _ (.tail _ (.head _)))).cell 1, (WB.at_ H1184 (.tail _ (.tail _ (.tail _ (.tail _ (.head _)))))).cell 0, (WB.at_ H1184 (.tail _ (.tail _ (.tail _ (.tail _ (.head _)))))).cell 1⟩) ?_
          case hiu1194 => (simp only [List.getElem?_toArray, List.getElem?_cons_succ, List.getElem?_cons_zero]; exact rfl)
          case hsu1194 => kernel_rfl
          case hfu1194 => kernel_rfl
          case hru1194 => kernel_rfl
          case hzu1194 => kernel_rfl
          case hQu1194 => exact fun _ _ _ h => h
          case hwu1194 => rfl
          case hyu1194 => (intro w hSw; (try dsimp only at hSw); go_simp; (try with_reducible rfl))
          try simp only [Act.put, List.setIfInBounds_toArray, List.set_cons_zero, List.set_cons_succ]
          refine' wpTail_take (i := 10) (oi := _) ?hiu1195 ?hsu1195 ?hfu1195 ?hru1195 ?hzu1195 ?hQu1195 (v := _) (Or.inl ⟨?hwu1195, ?hyu1195⟩) (⟨(WB.at_ H1184 (.head _)).cell 0, (WB.at_ H1184 (.head _)).cell 1, (WB.at_ H1184 (.tail _ (.tail _ (.tail _ (.tail _ (.tail _ (.tail _ (.head _)))))))).cell 0, (WB.at_ H1184 (.tail _ (.tail _ (.tail _ (.tail _ (.tail _ (.tail _ (.head _)))))))).cell 1, (WB.at_ H1184 (.tail _ (.tail _ (.head _)))).cell 0, (WB.at_ H1184 (.tail _ (.tail _ (.head _)))).cell 1, (WB.at_ H1184 (.tail _ (.tail _ (.tail _ (.tail _ (.head _)))))).cell 0, (WB.at_ H1184 (.tail _ (.tail _ (.tail _ (.tail _ (.head _)))))).cell 1⟩) ?_
          case hiu1195 => (simp only [List.getElem?_toArray, List.getElem?_cons_succ, List.getElem?_cons_zero]; exact rfl)
          case hsu1195 => kernel_rfl
          case hfu1195 => kernel_rfl
          case hru1195 => kernel_rfl
          case hzu1195 => kernel_rfl
          case hQu1195 => exact fun _ _ _ h => h
          case hwu1195 => rfl
          case hyu1195 => (intro w hSw; (try dsimp only at hSw); go_simp; (try with_reducible rfl))
          try simp only [Act.put, List.setIfInBounds_toArray, List.set_cons_zero, List.set_cons_succ]
          refine' wpTail_take (i := 11) (oi := _) ?hiu1196 ?hsu1196 ?hfu1196 ?hru1196 ?hzu1196 ?hQu1196 (v := _) (Or.inl ⟨?hwu1196, ?hyu1196⟩) (⟨(WB.at_ H1184 (.head _)).cell 0, (WB.at_ H1184 (.head _)).cell 1, (WB.at_ H1184 (.tail _ (.tail _ (.tail _ (.tail _ (.tail _ (.tail _ (.head _)))))))).cell 0, (WB.at_ H1184 (.tail _ (.tail _ (.tail _ (.tail _ (.tail _ (.tail _ (.head _)))))))).cell 1, (WB.at_ H1184 (.tail _ (.tail _ (.head _)))).cell 0, (WB.at_ H1184 (.tail _ (.tail _ (.head _)))).cell 1, (WB.at_ H1184 (.tail _ (.tail _ (.tail _ (.tail _ (.head _)))))).cell 0, (WB.at_ H1184 (.tail _ (.tail _ (.tail _ (.tail _ (.head _)))))).cell 1⟩) ?_
          case hiu1196 => (simp only [List.getElem?_toArray, List.getElem?_cons_succ, List.getElem?_cons_zero]; exact rfl)
          case hsu1196 => kernel_rfl
          case hfu1196 => kernel_rfl
          case hru1196 => kernel_rfl
          case hzu1196 => kernel_rfl
          case hQu1196 => exact fun _ _ _ h => h
          case hwu1196 => rfl
          case hyu1196 => (intro w hSw; (try dsimp only at hSw); go_simp; (try with_reducible rfl))
          try simp only [Act.put, List.setIfInBounds_toArray, List.set_cons_zero, List.set_cons_succ]
          refine' wpTail_take (i := 12) (oi := _) ?hiu1197 ?hsu1197 ?hfu1197 ?hru1197 ?hzu1197 ?hQu1197 (v := _) (Or.inl ⟨?hwu1197, ?hyu1197⟩) (⟨(WB.at_ H1184 (.head _)).cell 0, (WB.at_ H1184 (.head _)).cell 1, (WB.at_ H1184 (.tail _ (.tail _ (.tail _ (.tail _ (.tail _ (.tail _ (.head _)))))))).cell 0, (WB.at_ H1184 (.tail _ (.tail _ (.tail _ (.tail _ (.tail _ (.tail _ (.head _)))))))).cell 1, (WB.at_ H1184 (.tail _ (.tail _ (.head _)))).cell 0, (WB.at_ H1184 (.tail _ (.tail _ (.head _)))).cell 1, (WB.at_ H1184 (.tail _ (.tail _ (.tail _ (.tail _ (.head _)))))).cell 0, (WB.at_ H1184 (.tail _ (.tail _ (.tail _ (.tail _ (.head _)))))).cell 1⟩) ?_
          case hiu1197 => (simp only [List.getElem?_toArray, List.getElem?_cons_succ, List.getElem?_cons_zero]; exact rfl)
          case hsu1197 => kernel_rfl
          case hfu1197 => kernel_rfl
          case hru1197 => kernel_rfl
          case hzu1197 => kernel_rfl
          case hQu1197 => exact fun _ _ _ h => h
          case hwu1197 => rfl
          case hyu1197 => (intro w hSw; (try dsimp only at hSw); go_simp; (try with_reducible rfl))
          try simp only [Act.put, List.setIfInBounds_toArray, List.set_cons_zero, List.set_cons_succ]
          refine' wpTail_take (i := 13) (oi := _) ?hiu1198 ?hsu1198 ?hfu1198 ?hru1198 ?hzu1198 ?hQu1198 (v := _) (Or.inl ⟨?hwu1198, ?hyu1198⟩) (⟨(WB.at_ H1184 (.head _)).cell 0, (WB.at_ H1184 (.head _)).cell 1, (WB.at_ H1184 (.tail _ (.tail _ (.tail _ (.tail _ (.tail _ (.tail _ (.head _)))))))).cell 0, (WB.at_ H1184 (.tail _ (.tail _ (.tail _ (.tail _ (.tail _ (.tail _ (.head _)))))))).cell 1, (WB.at_ H1184 (.tail _ (.tail _ (.head _)))).cell 0, (WB.at_ H1184 (.tail _ (.tail _ (.head _)))).cell 1, (WB.at_ H1184 (.tail _ (.tail _ (.tail _ (.tail _ (.head _)))))).cell 0, (WB.at_ H1184 (.tail _ (.tail _ (.tail _ (.tail _ (.head _)))))).cell 1⟩) ?_
          case hiu1198 => (simp only [List.getElem?_toArray, List.getElem?_cons_succ, List.getElem?_cons_zero]; exact rfl)
          case hsu1198 => kernel_rfl
          case hfu1198 => kernel_rfl
          case hru1198 => kernel_rfl
          case hzu1198 => kernel_rfl
          case hQu1198 => exact fun _ _ _ h => h
          case hwu1198 => rfl
          case hyu1198 => (intro w hSw; (try dsimp only at hSw); go_simp; (try with_reducible rfl))
          try simp only [Act.put, List.setIfInBounds_toArray, List.set_cons_zero, List.set_cons_succ]
          refine' wpTail_take (i := 14) (oi := _) ?hiu1199 ?hsu1199 ?hfu1199 ?hru1199 ?hzu1199 ?hQu1199 (v := _) (Or.inl ⟨?hwu1199, ?hyu1199⟩) (⟨(WB.at_ H1184 (.head _)).cell 0, (WB.at_ H1184 (.head _)).cell 1, (WB.at_ H1184 (.tail _ (.tail _ (.tail _ (.tail _ (.tail _ (.tail _ (.head _)))))))).cell 0, (WB.at_ H1184 (.tail _ (.tail _ (.tail _ (.tail _ (.tail _ (.tail _ (.head _)))))))).cell 1, (WB.at_ H1184 (.tail _ (.tail _ (.head _)))).cell 0, (WB.at_ H1184 (.tail _ (.tail _ (.head _)))).cell 1, (WB.at_ H1184 (.tail _ (.tail _ (.tail _ (.tail _ (.head _)))))).cell 0, (WB.at_ H1184 (.tail _ (.tail _ (.tail _ (.tail _ (.head _)))))).cell 1⟩) ?_
          case hiu1199 => (simp only [List.getElem?_toArray, List.getElem?_cons_succ, List.getElem?_cons_zero]; exact rfl)
          case hsu1199 => kernel_rfl
          case hfu1199 => kernel_rfl
          case hru1199 => kernel_rfl
          case hzu1199 => kernel_rfl
          case hQu1199 => exact fun _ _ _ h => h
          case hwu1199 => rfl
          case hyu1199 => (intro w hSw; (try dsimp only at hSw); go_simp; (try with_reducible rfl))
          try simp only [Act.put, List.setIfInBounds_toArray, List.set_cons_zero, List.set_cons_succ]
          refine' wpTail_take (i := 15) (oi := _) ?hiu1200 ?hsu1200 ?hfu1200 ?hru1200 ?hzu1200 ?hQu1200 (v := _) (Or.inl ⟨?hwu1200, ?hyu1200⟩) (⟨(WB.at_ H1184 (.head _)).cell 0, (WB.at_ H1184 (.head _)).cell 1, (WB.at_ H1184 (.tail _ (.tail _ (.tail _ (.tail _ (.tail _ (.tail _ (.head _)))))))).cell 0, (WB.at_ H1184 (.tail _ (.tail _ (.tail _ (.tail _ (.tail _ (.tail _ (.head _)))))))).cell 1, (WB.at_ H1184 (.tail _ (.tail _ (.head _)))).cell 0, (WB.at_ H1184 (.tail _ (.tail _ (.head _)))).cell 1, (WB.at_ H1184 (.tail _ (.tail _ (.tail _ (.tail _ (.head _)))))).cell 0, (WB.at_ H1184 (.tail _ (.tail _ (.tail _ (.tail _ (.head _)))))).cell 1⟩) ?_
          case hiu1200 => (simp only [List.getElem?_toArray, List.getElem?_cons_succ, List.getElem?_cons_zero]; exact rfl)
          case hsu1200 => kernel_rfl
          case hfu1200 => kernel_rfl
          case hru1200 => kernel_rfl
          case hzu1200 => kernel_rfl
          case hQu1200 => exact fun _ _ _ h => h
          case hwu1200 => rfl
          case hyu1200 => (intro w hSw; (try dsimp only at hSw); go_simp; (try with_reducible rfl))
          try simp only [Act.put, List.setIfInBounds_toArray, List.set_cons_zero, List.set_cons_succ]
          refine' wpTail_take (i := 16) (oi := _) ?hiu1201 ?hsu1201 ?hfu1201 ?hru1201 ?hzu1201 ?hQu1201 (v := _) (Or.inl ⟨?hwu1201, ?hyu1201⟩) (⟨(WB.at_ H1184 (.head _)).cell 0, (WB.at_ H1184 (.head _)).cell 1, (WB.at_ H1184 (.tail _ (.tail _ (.tail _ (.tail _ (.tail _ (.tail _ (.head _)))))))).cell 0, (WB.at_ H1184 (.tail _ (.tail _ (.tail _ (.tail _ (.tail _ (.tail _ (.head _)))))))).cell 1, (WB.at_ H1184 (.tail _ (.tail _ (.head _)))).cell 0, (WB.at_ H1184 (.tail _ (.tail _ (.head _)))).cell 1, (WB.at_ H1184 (.tail _ (.tail _ (.tail _ (.tail _ (.head _)))))).cell 0, (WB.at_ H1184 (.tail _ (.tail _ (.tail _ (.tail _ (.head _)))))).cell 1⟩) ?_
          case hiu1201 => (simp only [List.getElem?_toArray, List.getElem?_cons_succ, List.getElem?_cons_zero]; exact rfl)
          case hsu1201 => kernel_rfl
          case hfu1201 => kernel_rfl
          case hru1201 => kernel_rfl
          case hzu1201 => kernel_rfl
          case hQu1201 => exact fun _ _ _ h => h
          case hwu1201 => rfl
          case hyu1201 => (intro w hSw; (try dsimp only at hSw); go_simp; (try with_reducible rfl))
          try simp only [Act.put, List.setIfInBounds_toArray, List.set_cons_zero, List.set_cons_succ]
          refine' wpTail_take (i := 17) (oi := _) ?hiu1202 ?hsu1202 ?hfu1202 ?hru1202 ?hzu1202 ?hQu1202 (v := _) (Or.inl ⟨?hwu1202, ?hyu1202⟩) (⟨(WB.at_ H1184 (.head _)).cell 0, (WB.at_ H1184 (.head _)).cell 1, (WB.at_ H1184 (.tail _ (.tail _ (.tail _ (.tail _ (.tail _ (.tail _ (.head _)))))))).cell 0, (WB.at_ H1184 (.tail _ (.tail _ (.tail _ (.tail _ (.tail _ (.tail _ (.head _)))))))).cell 1, (WB.at_ H1184 (.tail _ (.tail _ (.head _)))).cell 0, (WB.at_ H1184 (.tail _ (.tail _ (.head _)))).cell 1, (WB.at_ H1184 (.tail _ (.tail _ (.tail _ (.tail _ (.head _)))))).cell 0, (WB.at_ H1184 (.tail _ (.tail _ (.tail _ (.tail _ (.head _)))))).cell 1⟩) ?_
          case hiu1202 => (simp only [List.getElem?_toArray, List.getElem?_cons_succ, List.getElem?_cons_zero]; exact rfl)
          case hsu1202 => kernel_rfl
          case hfu1202 => kernel_rfl
          case hru1202 => kernel_rfl
          case hzu1202 => kernel_rfl
          case hQu1202 => exact fun _ _ _ h => h
          case hwu1202 => rfl
          case hyu1202 => (intro w hSw; (try dsimp only at hSw); go_simp; (try with_reducible rfl))
          try simp only [Act.put, List.setIfInBounds_toArray, List.set_cons_zero, List.set_cons_succ]
          refine' wpTail_take (i := 20) (oi := _) ?hiu1203 ?hsu1203 ?hfu1203 ?hru1203 ?hzu1203 ?hQu1203 (v := _) (Or.inl ⟨?hwu1203, ?hyu1203⟩) (⟨(WB.at_ H1184 (.head _)).cell 0, (WB.at_ H1184 (.head _)).cell 1, (WB.at_ H1184 (.tail _ (.tail _ (.tail _ (.tail _ (.tail _ (.tail _ (.head _)))))))).cell 0, (WB.at_ H1184 (.tail _ (.tail _ (.tail _ (.tail _ (.tail _ (.tail _ (.head _)))))))).cell 1, (WB.at_ H1184 (.tail _ (.tail _ (.head _)))).cell 0, (WB.at_ H1184 (.tail _ (.tail _ (.head _)))).cell 1, (WB.at_ H1184 (.tail _ (.tail _ (.tail _ (.tail _ (.head _)))))).cell 0, (WB.at_ H1184 (.tail _ (.tail _ (.tail _ (.tail _ (.head _)))))).cell 1⟩) ?_
          case hiu1203 => (simp only [List.getElem?_toArray, List.getElem?_cons_succ, List.getElem?_cons_zero]; exact rfl)
          case hsu1203 => kernel_rfl
          case hfu1203 => kernel_rfl
          case hru1203 => kernel_rfl
          case hzu1203 => kernel_rfl
          case hQu1203 => exact fun _ _ _ h => h
          case hwu1203 => rfl
          case hyu1203 => (intro w hSw; (try dsimp only at hSw); go_simp; (try with_reducible rfl))
          try simp only [Act.put, List.setIfInBounds_toArray, List.set_cons_zero, List.set_cons_succ]
          refine' wpTail_take (i := 21) (oi := _) ?hiu1204 ?hsu1204 ?hfu1204 ?hru1204 ?hzu1204 ?hQu1204 (v := _) (Or.inl ⟨?hwu1204, ?hyu1204⟩) (⟨(WB.at_ H1184 (.head _)).cell 0, (WB.at_ H1184 (.head _)).cell 1, (WB.at_ H1184 (.tail _ (.tail _ (.tail _ (.tail _ (.tail _ (.tail _ (.head _)))))))).cell 0, (WB.at_ H1184 (.tail _ (.tail _ (.tail _ (.tail _ (.tail _ (.tail _ (.head _)))))))).cell 1, (WB.at_ H1184 (.tail _ (.tail _ (.head _)))).cell 0, (WB.at_ H1184 (.tail _ (.tail _ (.head _)))).cell 1, (WB.at_ H1184 (.tail _ (.tail _ (.tail _ (.tail _ (.head _)))))).cell 0, (WB.at_ H1184 (.tail _ (.tail _ (.tail _ (.tail _ (.head _)))))).cell 1⟩) ?_
          case hiu1204 => (simp only [List.getElem?_toArray, List.getElem?_cons_succ, List.getElem?_cons_zero]; exact rfl)
          case hsu1204 => kernel_rfl
          case hfu1204 => kernel_rfl
          case hru1204 => kernel_rfl
          case hzu1204 => kernel_rfl
          case hQu1204 => exact fun _ _ _ h => h
          case hwu1204 => rfl
          case hyu1204 => (intro w hSw; (try dsimp only at hSw); go_simp; (try with_reducible rfl))
          try simp only [Act.put, List.setIfInBounds_toArray, List.set_cons_zero, List.set_cons_succ]
          refine' wpTail_one (i := 18) (o := _) (by kernel_rfl) ?hou1206 ?hwu1206 (fun K hK => ?_)
          case hou1206 => (simp only [List.getElem?_toArray, List.getElem?_cons_succ, List.getElem?_cons_zero]; exact rfl)
          case hwu1206 => rfl
          go_simp
          (with_reducible refine (HCR.out _).mono ?_)
          rintro e v1205 ⟨rfl, hb1205⟩
          have M1205 := WB.next hb1205 H1184
          refine hK.out _ _ (fun _ => ⟨(WB.at_ M1205 (.head _)).cell 0, (WB.at_ M1205 (.head _)).cell 1, (WB.at_ M1205 (.tail _ (.tail _ (.tail _ (.tail _ (.tail _ (.tail _ (.head _)))))))).cell 0, (WB.at_ M1205 (.tail _ (.tail _ (.tail _ (.tail _ (.tail _ (.tail _ (.head _)))))))).cell 1, (WB.at_ M1205 (.tail _ (.tail _ (.head _)))).cell 0, (WB.at_ M1205 (.tail _ (.tail _ (.head _)))).cell 1, (WB.at_ M1205 (.tail _ (.tail _ (.tail _ (.tail _ (.head _)))))).cell 0, (WB.at_ M1205 (.tail _ (.tail _ (.tail _ (.tail _ (.head _)))))).cell 1⟩) ?_
          clear hK K hb1205
          try simp only [Act.put, List.setIfInBounds_toArray, List.set_cons_zero, List.set_cons_succ]
          refine' wpTail_take (i := 19) (oi := _) ?hiu1207 ?hsu1207 ?hfu1207 ?hru1207 ?hzu1207 ?hQu1207 (v := _) (Or.inl ⟨?hwu1207, ?hyu1207⟩) (⟨(WB.at_ M1205 (.head _)).cell 0, (WB.at_ M1205 (.head _)).cell 1, (WB.at_ M1205 (.tail _ (.tail _ (.tail _ (.tail _ (.tail _ (.tail _ (.head _)))))))).cell 0, (WB.at_ M1205 (.tail _ (.tail _ (.tail _ (.tail _ (.tail _ (.tail _ (.head _)))))))).cell 1, (WB.at_ M1205 (.tail _ (.tail _ (.head _)))).cell 0, (WB.at_ M1205 (.tail _ (.tail _ (.head _)))).cell 1, (WB.at_ M1205 (.tail _ (.tail _ (.tail _ (.tail _ (.head _)))))).cell 0, (WB.at_ M1205 (.tail _ (.tail _ (.tail _ (.tail _ (.head _)))))).cell 1⟩) ?_
          case hiu1207 => (simp only [List.getElem?_toArray, List.getElem?_cons_succ, List.getElem?_cons_zero]; exact rfl)
          case hsu1207 => kernel_rfl
          case hfu1207 => kernel_rfl
          case hru1207 => kernel_rfl
          case hzu1207 => kernel_rfl
          case hQu1207 => exact fun _ _ _ h => h
          case hwu1207 => rfl
          case hyu1207 => (intro w hSw; (try dsimp only at hSw); go_simp; (try with_reducible rfl))
          try simp only [Act.put, List.setIfInBounds_toArray, List.set_cons_zero, List.set_cons_succ]
          refine' wpTail_one (i := 22) (o := _) (by kernel_rfl) ?hou1209 ?hwu1209 (fun K hK => ?_)
          case hou1209 => (simp only [List.getElem?_toArray, List.getElem?_cons_succ, List.getElem?_cons_zero]; exact rfl)
          case hwu1209 => rfl
          go_simp
          (with_reducible refine (HCA.out _).mono ?_)
          rintro e v1208 ⟨rfl, hb1208⟩
          have M1208 := WB.next hb1208 M1205
          refine hK.out _ _ (fun _ => ⟨(WB.at_ M1208 (.head _)).cell 0, (WB.at_ M1208 (.head _)).cell 1, (WB.at_ M1208 (.tail _ (.tail _ (.tail _ (.tail _ (.tail _ (.tail _ (.head _)))))))).cell 0, (WB.at_ M1208 (.tail _ (.tail _ (.tail _ (.tail _ (.tail _ (.tail _ (.head _)))))))).cell 1, (WB.at_ M1208 (.tail _ (.tail _ (.head _)))).cell 0, (WB.at_ M1208 (.tail _ (.tail _ (.head _)))).cell 1, (WB.at_ M1208 (.tail _ (.tail _ (.tail _ (.tail _ (.head _)))))).cell 0, (WB.at_ M1208 (.tail _ (.tail _ (.tail _ (.tail _ (.head _)))))).cell 1⟩) ?_
          clear hK K hb1208
          try simp only [Act.put, List.setIfInBounds_toArray, List.set_cons_zero, List.set_cons_succ]
          refine' wpTail_take (i := 23) (oi := _) ?hiu1210 ?hsu1210 ?hfu1210 ?hru1210 ?hzu1210 ?hQu1210 (v := _) (Or.inl ⟨?hwu1210, ?hyu1210⟩) (⟨(WB.at_ M1208 (.head _)).cell 0, (WB.at_ M1208 (.head _)).cell 1, (WB.at_ M1208 (.tail _ (.tail _ (.tail _ (.tail _ (.tail _ (.tail _ (.head _)))))))).cell 0, (WB.at_ M1208 (.tail _ (.tail _ (.tail _ (.tail _ (.tail _ (.tail _ (.head _)))))))).cell 1, (WB.at_ M1208 (.tail _ (.tail _ (.head _)))).cell 0, (WB.at_ M1208 (.tail _ (.tail _ (.head _)))).cell 1, (WB.at_ M1208 (.tail _ (.tail _ (.tail _ (.tail _ (.head _)))))).cell 0, (WB.at_ M1208 (.tail _ (.tail _ (.tail _ (.tail _ (.head _)))))).cell 1⟩) ?_
          case hiu1210 => (simp only [List.getElem?_toArray, List.getElem?_cons_succ, List.getElem?_cons_zero]; exact rfl)
          case hsu1210 => kernel_rfl
          case hfu1210 => kernel_rfl
          case hru1210 => kernel_rfl
          case hzu1210 => kernel_rfl
          case hQu1210 => exact fun _ _ _ h => h
          case hwu1210 => rfl
          case hyu1210 => (intro w hSw; (try dsimp only at hSw); go_simp; (try with_reducible rfl))
          try simp only [Act.put, List.setIfInBounds_toArray, List.set_cons_zero, List.set_cons_succ]
          refine' wpTail_take (i := 24) (oi := _) ?hiu1211 ?hsu1211 ?hfu1211 ?hru1211 ?hzu1211 ?hQu1211 (v := _) (Or.inl ⟨?hwu1211, ?hyu1211⟩) (⟨(WB.at_ M1208 (.head _)).cell 0, (WB.at_ M1208 (.head _)).cell 1, (WB.at_ M1208 (.tail _ (.tail _ (.tail _ (.tail _ (.tail _ (.tail _ (.head _)))))))).cell 0, (WB.at_ M1208 (.tail _ (.tail _ (.tail _ (.tail _ (.tail _ (.tail _ (.head _)))))))).cell 1, (WB.at_ M1208 (.tail _ (.tail _ (.head _)))).cell 0, (WB.at_ M1208 (.tail _ (.tail _ (.head _)))).cell 1, (WB.at_ M1208 (.tail _ (.tail _ (.tail _ (.tail _ (.head _)))))).cell 0, (WB.at_ M1208 (.tail _ (.tail _ (.tail _ (.tail _ (.head _)))))).cell 1⟩) ?_
          case hiu1211 => (simp only [List.getElem?_toArray, List.getElem?_cons_succ, List.getElem?_cons_zero]; exact rfl)
          case hsu1211 => kernel_rfl
          case hfu1211 => kernel_rfl
          case hru1211 => kernel_rfl
          case hzu1211 => kernel_rfl
          case hQu1211 => exact fun _ _ _ h => h
          case hwu1211 => rfl
          case hyu1211 => (intro w hSw; (try dsimp only at hSw); go_simp; (try with_reducible rfl))
          try simp only [Act.put, List.setIfInBounds_toArray, List.set_cons_zero, List.set_cons_succ]
          refine' wpTail_take (i := 25) (oi := _) ?hiu1212 ?hsu1212 ?hfu1212 ?hru1212 ?hzu1212 ?hQu1212 (v := _) (Or.inl ⟨?hwu1212, ?hyu1212⟩) (⟨(WB.at_ M1208 (.head _)).cell 0, (WB.at_ M1208 (.head _)).cell 1, (WB.at_ M1208 (.tail _ (.tail _ (.tail _ (.tail _ (.tail _ (.tail _ (.head _)))))))).cell 0, (WB.at_ M1208 (.tail _ (.tail _ (.tail _ (.tail _ (.tail _ (.tail _ (.head _)))))))).cell 1, (WB.at_ M1208 (.tail _ (.tail _ (.head _)))).cell 0, (WB.at_ M1208 (.tail _ (.tail _ (.head _)))).cell 1, (WB.at_ M1208 (.tail _ (.tail _ (.tail _ (.tail _ (.head _)))))).cell 0, (WB.at_ M1208 (.tail _ (.tail _ (.tail _ (.tail _ (.head _)))))).cell 1⟩) ?_
          case hiu1212 => (simp only [List.getElem?_toArray, List.getElem?_cons_succ, List.getElem?_cons_zero]; exact rfl)
          case hsu1212 => kernel_rfl
          case hfu1212 => kernel_rfl
          case hru1212 => kernel_rfl
          case hzu1212 => kernel_rfl
          case hQu1212 => exact fun _ _ _ h => h
          case hwu1212 => rfl
          case hyu1212 => (intro w hSw; (try dsimp only at hSw); go_simp; (try with_reducible rfl))
          try simp only [Act.put, List.setIfInBounds_toArray, List.set_cons_zero, List.set_cons_succ]
          refine' wpTail_take (i := 26) (oi := _) ?hiu1213 ?hsu1213 ?hfu1213 ?hru1213 ?hzu1213 ?hQu1213 (v := _) (Or.inl ⟨?hwu1213, ?hyu1213⟩) (⟨(WB.at_ M1208 (.head _)).cell 0, (WB.at_ M1208 (.head _)).cell 1, (WB.at_ M1208 (.tail _ (.tail _ (.tail _ (.tail _ (.tail _ (.tail _ (.head _)))))))).cell 0, (WB.at_ M1208 (.tail _ (.tail _ (.tail _ (.tail _ (.tail _ (.tail _ (.head _)))))))).cell 1, (WB.at_ M1208 (.tail _ (.tail _ (.head _)))).cell 0, (WB.at_ M1208 (.tail _ (.tail _ (.head _)))).cell 1, (WB.at_ M1208 (.tail _ (.tail _ (.tail _ (.tail _ (.head _)))))).cell 0, (WB.at_ M1208 (.tail _ (.tail _ (.tail _ (.tail _ (.head _)))))).cell 1⟩) ?_
          case hiu1213 => (simp only [List.getElem?_toArray, List.getElem?_cons_succ, List.getElem?_cons_zero]; exact rfl)
          case hsu1213 => kernel_rfl
          case hfu1213 => kernel_rfl
          case hru1213 => kernel_rfl
          case hzu1213 => kernel_rfl
          case hQu1213 => exact fun _ _ _ h => h
          case hwu1213 => rfl
          case hyu1213 => (intro w hSw; (try dsimp only at hSw); go_simp; (try with_reducible rfl))
          try simp only [Act.put, List.setIfInBounds_toArray, List.set_cons_zero, List.set_cons_succ]
          refine wpTail_done (by kernel_rfl) ?_ _
          go_wp2_with fail
          go_meet
          exact ⟨rfl, M1208⟩
  case rest =>
  obtain ⟨rfl, HZ⟩ := hcut
  go_upto_region 16 with (fail)
  obtain ⟨q1214a, q1214b, q1214c, q1214d⟩ := two_cells (WB.at_ HZ (.tail _ (.tail _ (.head _))))
  obtain ⟨q1215a, q1215b, q1215c, q1215d⟩ := two_cells (WB.at_ HZ (.tail _ (.tail _ (.tail _ (.tail _ (.head _))))))
  go_wp2_with fail
  refine (HCR.out _).mono ?_
  rintro e v1216 ⟨rfl, hb1216⟩
  have M1216 := WB.next hb1216 HZ
  clear hb1216
  clear q1214a q1214b q1214c q1214d q1215a q1215b q1215c q1215d
  rcases hn.out with ⟨h01, rfl, rfl⟩ | ⟨rfl, hneg⟩
  · skip
    have HF := hide (show decide (cr < 0) = false from decide_eq_false (by rcases h01 with rfl | rfl <;> decide))
    have hf := HF.out
    clear h01
    go_upto_region 21 with (fail)
    clear hf
    obtain ⟨q1217a, q1217b, q1217c, q1217d⟩ := two_cells (WB.at_ M1216 (.tail _ (.tail _ (.tail _ (.tail _ (.tail _ (.head _)))))))
    obtain ⟨q1218a, q1218b, q1218c, q1218d⟩ := two_cells (WB.at_ M1216 (.tail _ (.tail _ (.tail _ (.tail _ (.head _))))))
    go_wp2_with fail
    refine (HCB.out _).mono ?_
    rintro e v1219 ⟨rfl, hb1219⟩
    have M1219 := WB.next hb1219 M1216
    clear hb1219
    clear q1217a q1217b q1217c q1217d q1218a q1218b q1218c q1218d
    rcases hb.out with ⟨rfl, hcp⟩ | ⟨rfl, hng, hcp⟩
    · have HCP := hide hcp
      clear hcp
      go_upto_region 22 with (fail)
      obtain ⟨q1220a, q1220b, q1220c, q1220d⟩ := two_cells (WB.at_ M1219 (.tail _ (.tail _ (.head _))))
      obtain ⟨q1221a, q1221b, q1221c, q1221d⟩ := two_cells (WB.at_ M1219 (.tail _ (.tail _ (.tail _ (.tail _ (.tail _ (.head _)))))))
      go_wp2_with fail
      refine (HCP.out _).mono ?_
      rintro e v1222 ⟨rfl, hb1222⟩
      have M1222 := WB.next hb1222 M1219
      clear hb1222
      clear q1220a q1220b q1220c q1220d q1221a q1221b q1221c q1221d
      go_wp2_with fail
      go_ret
      exact ⟨rfl, M1222.out.low⟩
    · have HCP := hide hcp
      have HNG := hide hng
      clear hcp hng
      go_upto_region 23 with (fail)
      obtain ⟨q1223a, q1223b, q1223c, q1223d⟩ := two_cells (WB.at_ M1219 (.tail _ (.tail _ (.head _))))
      go_wp2_with fail
      refine (HNG.out _).mono ?_
      rintro e v1224 ⟨rfl, hb1224⟩
      have M1224 := WB.next hb1224 M1219
      clear hb1224
      clear q1223a q1223b q1223c q1223d
      have H1225 := WB.addz (x := mh) (y := ml) M1224
      obtain ⟨g16, hg16⟩ : ∃ g, g = v1224.heap.size := ⟨_, rfl⟩
      rw [← hg16] at H1225
      have HGg16 := hide hg16
      clear hg16
      go_upto_region 24 with (fail)
      rw [← HGg16.out]
      obtain ⟨W1225, hW1225⟩ : ∃ W : World, W = v1224.alloc (.cells #[.int .u64 mh, .int .u64 ml] 24) := ⟨_, rfl⟩
      rw [← hW1225] at H1225 ⊢
      clear hW1225
      obtain ⟨q1226a, q1226b, q1226c, q1226d⟩ := two_cells (WB.at_ H1225 (.tail _ (.tail _ (.tail _ (.tail _ (.tail _ (.tail _ (.head _))))))))
      obtain ⟨q1227a, q1227b, q1227c, q1227d⟩ := two_cells (WB.at_ H1225 (.head _))
      go_wp2_with fail
      refine (HCP.out _).mono ?_
      rintro e v1228 ⟨rfl, hb1228⟩
      have M1228 := WB.next hb1228 H1225
      clear hb1228
      clear q1226a q1226b q1226c q1226d q1227a q1227b q1227c q1227d
      go_wp2_with fail
      go_ret
      exact ⟨rfl, M1228.out.low⟩
  · have HNEG := hide hneg
    clear hneg
    go_upto_region 17 with (fail)
    obtain ⟨q1229a, q1229b, q1229c, q1229d⟩ := two_cells (WB.at_ M1216 (.tail _ (.tail _ (.head _))))
    go_wp2_with fail
    refine (HNEG.out _).mono ?_
    rintro e v1230 ⟨rfl, hb1230⟩
    have M1230 := WB.next hb1230 M1216
    clear hb1230
    clear q1229a q1229b q1229c q1229d
    have H1231 := WB.addz (x := nh) (y := nl) M1230
    obtain ⟨g14, hg14⟩ : ∃ g, g = v1230.heap.size := ⟨_, rfl⟩
    rw [← hg14] at H1231
    have HGg14 := hide hg14
    clear hg14
    go_upto_region 18 with (fail)
    rw [← HGg14.out]
    obtain ⟨W1231, hW1231⟩ : ∃ W : World, W = v1230.alloc (.cells #[.int .u64 nh, .int .u64 nl] 24) := ⟨_, rfl⟩
    rw [← hW1231] at H1231 ⊢
    clear hW1231
    obtain ⟨q1232a, q1232b, q1232c, q1232d⟩ := two_cells (WB.at_ H1231 (.head _))
    obtain ⟨q1233a, q1233b, q1233c, q1233d⟩ := two_cells (WB.at_ H1231 (.tail _ (.tail _ (.tail _ (.head _)))))
    go_upto_region 21 with (fail)
    have P1234 := WB.put (x := nh) (y := nl) (WB.tail (WB.tail (WB.tail H1231)))
    obtain ⟨W1234, hW1234⟩ : ∃ W : World, W = (W1231.setCell ⟨g8, 0, none⟩ (.int .u64 nh)).setCell ⟨g8, 1, none⟩ (.int .u64 nl) := ⟨_, rfl⟩
    rw [← hW1234] at P1234 ⊢
    clear hW1234
    clear q1232a q1232b q1232c q1232d q1233a q1233b q1233c q1233d
    obtain ⟨q1235a, q1235b, q1235c, q1235d⟩ := two_cells (WB.at_ P1234 (.tail _ (.tail _ (.tail _ (.head _)))))
    obtain ⟨q1236a, q1236b, q1236c, q1236d⟩ := two_cells (WB.at_ P1234 (.tail _ (.tail _ (.head _))))
    go_wp2_with fail
    refine (HCB.out _).mono ?_
    rintro e v1237 ⟨rfl, hb1237⟩
    have M1237 := WB.next hb1237 P1234
    clear hb1237
    clear q1235a q1235b q1235c q1235d q1236a q1236b q1236c q1236d
    rcases hb.out with ⟨rfl, hcp⟩ | ⟨rfl, hng, hcp⟩
    · have HCP := hide hcp
      clear hcp
      go_upto_region 22 with (fail)
      obtain ⟨q1238a, q1238b, q1238c, q1238d⟩ := two_cells (WB.at_ M1237 (.head _))
      obtain ⟨q1239a, q1239b, q1239c, q1239d⟩ := two_cells (WB.at_ M1237 (.tail _ (.tail _ (.tail _ (.head _)))))
      go_wp2_with fail
      refine (HCP.out _).mono ?_
      rintro e v1240 ⟨rfl, hb1240⟩
      have M1240 := WB.next hb1240 M1237
      clear hb1240
      clear q1238a q1238b q1238c q1238d q1239a q1239b q1239c q1239d
      go_wp2_with fail
      go_ret
      exact ⟨rfl, M1240.out.low⟩
    · have HCP := hide hcp
      have HNG := hide hng
      clear hcp hng
      go_upto_region 23 with (fail)
      obtain ⟨q1241a, q1241b, q1241c, q1241d⟩ := two_cells (WB.at_ M1237 (.head _))
      go_wp2_with fail
      refine (HNG.out _).mono ?_
      rintro e v1242 ⟨rfl, hb1242⟩
      have M1242 := WB.next hb1242 M1237
      clear hb1242
      clear q1241a q1241b q1241c q1241d
      have H1243 := WB.addz (x := mh) (y := ml) M1242
      obtain ⟨g16, hg16⟩ : ∃ g, g = v1242.heap.size := ⟨_, rfl⟩
      rw [← hg16] at H1243
      have HGg16 := hide hg16
      clear hg16
      go_upto_region 24 with (fail)
      rw [← HGg16.out]
      obtain ⟨W1243, hW1243⟩ : ∃ W : World, W = v1242.alloc (.cells #[.int .u64 mh, .int .u64 ml] 24) := ⟨_, rfl⟩
      rw [← hW1243] at H1243 ⊢
      clear hW1243
      obtain ⟨q1244a, q1244b, q1244c, q1244d⟩ := two_cells (WB.at_ H1243 (.tail _ (.tail _ (.tail _ (.tail _ (.head _))))))
      obtain ⟨q1245a, q1245b, q1245c, q1245d⟩ := two_cells (WB.at_ H1243 (.head _))
      go_wp2_with fail
      refine (HCP.out _).mono ?_
      rintro e v1246 ⟨rfl, hb1246⟩
      have M1246 := WB.next hb1246 H1243
      clear hb1246
      clear q1244a q1244b q1244c q1244d q1245a q1245b q1245c q1245d
      go_wp2_with fail
      go_ret
      exact ⟨rfl, M1246.out.low⟩
end Go.Proofs.YthedfplafcfklaaDoor
