/- What WideExact answers; conditions: none but that the numbers are of 128 bits. -/
import Derived.Test.YthedfplafcfklaaDoorDigD
import Derived.Test.YthedfplafcfklaaDoorWideD
namespace Go.Proofs.YthedfplafcfklaaDoor
open Go.RowKit Go.WideShapes Go.ChangeShapes
set_option linter.unusedVariables false
set_option maxRecDepth 100000

theorem quoW_tdiv (x y : Int) : quoW x y = x.tdiv y := by
  unfold quoW absW xorB
  by_cases hx : x < 0 <;> by_cases hy : y < 0
  · have h := Int.neg_tdiv_neg x y
    rw [Int.tdiv_eq_ediv_of_nonneg (by omega)] at h
    simp [hx, hy, h]
  · have h := Int.neg_tdiv x y
    rw [Int.tdiv_eq_ediv_of_nonneg (by omega)] at h
    simp [hx, hy]
    omega
  · have h := Int.tdiv_neg x y
    rw [Int.tdiv_eq_ediv_of_nonneg (by omega)] at h
    have h2 := Int.ediv_neg x y
    simp [hx, hy]
    omega
  · have h := Int.tdiv_eq_ediv_of_nonneg (a := x) (b := y) (by omega)
    rw [h]
    simp [hx, hy]
theorem remW_tmod (x y : Int) : remW x y = x.tmod y := by
  have e : ∀ a : Int, 0 ≤ a → a.tmod y = a % absW y := by
    intro a ha
    unfold absW
    split
    · rw [← Int.tmod_neg, Int.tmod_eq_emod_of_nonneg ha]
    · rw [Int.tmod_eq_emod_of_nonneg ha]
  unfold remW
  by_cases hx : x < 0
  · have h := Int.neg_tmod x y
    rw [e _ (by omega)] at h
    have ha : absW x = -x := by unfold absW; rw [if_pos hx]
    rw [ha]
    simp [hx]
    omega
  · have ha : absW x = x := by unfold absW; rw [if_neg hx]
    rw [e x (by omega), ha]
    simp [hx]

theorem bnds {x y : Int} (hx : (dgs x.natAbs).length ≤ 39) (hy : (dgs y.natAbs).length ≤ 39) : (x + y).natAbs < 10 ^ 100 ∧ (x + -y).natAbs < 10 ^ 100 ∧ (x * y).natAbs < 10 ^ 100 ∧ (-x).natAbs < 10 ^ 100 := by
  have h1 : x.natAbs < 10 ^ 39 := by
    have h := dval_lt (dgs_dok x.natAbs)
    rw [dgs_val] at h
    exact Nat.lt_of_lt_of_le h (Nat.pow_le_pow_right (by omega) hx)
  have h2 : y.natAbs < 10 ^ 39 := by
    have h := dval_lt (dgs_dok y.natAbs)
    rw [dgs_val] at h
    exact Nat.lt_of_lt_of_le h (Nat.pow_le_pow_right (by omega) hy)
  have h3 : x.natAbs * y.natAbs < 10 ^ 39 * 10 ^ 39 := Nat.mul_lt_mul'' h1 h2
  refine ⟨by omega, by omega, ?_, by omega⟩
  rw [Int.natAbs_mul]
  exact Nat.lt_trans h3 (by decide)

theorem tdiv_len {x y : Int} {k : Nat} (hx : (dgs x.natAbs).length ≤ 39) (h : (dgs (x.tdiv y).natAbs).length = k) : k ≤ 400 := by
  have h1 := dval_lt (dgs_dok x.natAbs)
  rw [dgs_val] at h1
  have h2 : x.natAbs < 10 ^ 39 := Nat.lt_of_lt_of_le h1 (Nat.pow_le_pow_right (by omega) hx)
  have h3 := dgs_len (x.tdiv y).natAbs 39 (by rw [Int.natAbs_tdiv]; exact Nat.lt_of_le_of_lt (Nat.div_le_self _ _) h2)
  omega
theorem tmod_len {x y : Int} {k : Nat} (hx : (dgs x.natAbs).length ≤ 39) (h : (dgs (x.tmod y).natAbs).length = k) : k ≤ 400 := by
  have h1 := dval_lt (dgs_dok x.natAbs)
  rw [dgs_val] at h1
  have h2 : x.natAbs < 10 ^ 39 := Nat.lt_of_lt_of_le h1 (Nat.pow_le_pow_right (by omega) hx)
  have h3 := dgs_len (x.tmod y).natAbs 39 (by rw [Int.natAbs_tmod]; exact Nat.lt_of_le_of_lt (Nat.mod_le _ _) h2)
  omega

set_option maxHeartbeats 16000000 in
theorem exact_law {x y : Int} (hx : Fits x) (hy : Fits y) (w : World) :
    Calls Tryd.prog 3 #[wv (hiW x) (loW x), wv (hiW y) (loW y)] w fun e w' => e = .returned (.bool true) ∧ Below w.heap.size w w' := by
  obtain ⟨sh, sl, se, hs⟩ := ansW_form (x + y)
  obtain ⟨dh, dl, de, hd⟩ := ansW_form (x - y)
  obtain ⟨ph, pl, pe, hp⟩ := ansW_form (x * y)
  obtain ⟨nh, nl, ne, hn⟩ := ansW_form (-x)
  obtain ⟨sx, hsx⟩ : ∃ b, b = decide (x < 0) := ⟨_, rfl⟩
  obtain ⟨sy, hsy⟩ : ∃ b, b = decide (y < 0) := ⟨_, rfl⟩
  obtain ⟨bS, hbS⟩ : ∃ b, b = decide (x + y < 0) := ⟨_, rfl⟩
  obtain ⟨bD, hbD⟩ : ∃ b, b = decide (x + -y < 0) := ⟨_, rfl⟩
  obtain ⟨bP, hbP⟩ : ∃ b, b = decide (x * y < 0) := ⟨_, rfl⟩
  obtain ⟨bN, hbN⟩ : ∃ b, b = decide (-x < 0) := ⟨_, rfl⟩
  obtain ⟨bM, hbM⟩ : ∃ b, b = decide (-y < 0) := ⟨_, rfl⟩
  have HOX := hide (fun W => (show Calls Tryd.prog 9 #[wv (hiW x) (loW x)] W (NumS W sx x.natAbs) from by rw [hsx]; exact ref_of hx W))
  have HOY := hide (fun W => (show Calls Tryd.prog 9 #[wv (hiW y) (loW y)] W (NumS W sy y.natAbs) from by rw [hsy]; exact ref_of hy W))
  have HS := hide (fun W => (show Calls Tryd.prog 10 #[wv (hiW x) (loW x), wv (hiW y) (loW y)] W fun e w' => e = .returned (.tuple #[wv sh sl, .int .i64 se]) ∧ Below W.heap.size W w' from by rw [← hs]; exact add_any hx hy W))
  have HD := hide (fun W => (show Calls Tryd.prog 11 #[wv (hiW x) (loW x), wv (hiW y) (loW y)] W fun e w' => e = .returned (.tuple #[wv dh dl, .int .i64 de]) ∧ Below W.heap.size W w' from by rw [← hd]; exact sub_any hx hy W))
  have HP := hide (fun W => (show Calls Tryd.prog 12 #[wv (hiW x) (loW x), wv (hiW y) (loW y)] W fun e w' => e = .returned (.tuple #[wv ph pl, .int .i64 pe]) ∧ Below W.heap.size W w' from by rw [← hp]; exact mul_any hx hy W))
  have HN := hide (fun W => (show Calls Tryd.prog 13 #[wv (hiW x) (loW x)] W fun e w' => e = .returned (.tuple #[wv nh nl, .int .i64 ne]) ∧ Below W.heap.size W w' from by rw [← hn]; exact neg_any hx W))
  have HCW := hide (fun W => cmp_any hx hy W)
  obtain ⟨qh, ql, qe, rh, rl, re, HQ, HR, hqr⟩ : ∃ qh ql qe rh rl re, Hid (∀ W, Calls Tryd.prog 14 #[wv (hiW x) (loW x), wv (hiW y) (loW y)] W fun e w' => e = .returned (.tuple #[wv qh ql, .int .i64 qe]) ∧ Below W.heap.size W w') ∧ Hid (∀ W, Calls Tryd.prog 15 #[wv (hiW x) (loW x), wv (hiW y) (loW y)] W fun e w' => e = .returned (.tuple #[wv rh rl, .int .i64 re]) ∧ Below W.heap.size W w') ∧
      ((y = 0 → qh = 0 ∧ ql = 0 ∧ qe = 10 ∧ rh = 0 ∧ rl = 0 ∧ re = 10) ∧ (y ≠ 0 → ansW (x.tdiv y) = .tuple #[wv qh ql, .int .i64 qe] ∧ ansW (x.tmod y) = .tuple #[wv rh rl, .int .i64 re])) := by
    by_cases h0 : y = 0
    · subst h0
      exact ⟨0, 0, 10, 0, 0, 10, hide (fun W => quo_zero _ _ W), hide (fun W => rem_zero _ _ W), fun _ => ⟨rfl, rfl, rfl, rfl, rfl, rfl⟩, fun h => absurd rfl h⟩
    · obtain ⟨qh, ql, qe, hq⟩ := ansW_form (quoW x y)
      obtain ⟨rh, rl, re, hr⟩ := ansW_form (remW x y)
      exact ⟨qh, ql, qe, rh, rl, re, hide (fun W => by rw [← hq]; exact quo_any hx hy h0 W), hide (fun W => by rw [← hr]; exact rem_any hx hy h0 W), fun h => absurd h h0, fun _ => ⟨by rw [← quoW_tdiv]; exact hq, by rw [← remW_tmod]; exact hr⟩⟩
  have HZ := hide hqr
  have HAN := hide (And.intro hs (And.intro hd (And.intro hp hn)))
  have HBS := hide (And.intro hsx (And.intro hsy (And.intro hbS (And.intro hbD (And.intro hbP (And.intro hbN hbM))))))
  have HFX := hide (And.intro (fits_len hx) (fits_len hy))
  obtain ⟨xh, hxh⟩ : ∃ z, z = hiW x := ⟨_, rfl⟩
  obtain ⟨xl, hxl⟩ : ∃ z, z = loW x := ⟨_, rfl⟩
  obtain ⟨yh, hyh⟩ : ∃ z, z = hiW y := ⟨_, rfl⟩
  obtain ⟨yl, hyl⟩ : ∃ z, z = loW y := ⟨_, rfl⟩
  rw [← hxh, ← hxl] at HOX HS HD HP HN HCW HQ HR ⊢
  rw [← hyh, ← hyl] at HOY HS HD HP HCW HQ HR ⊢
  have H0 := NB.add 24 #[.int .u64 yh, .int .u64 yl] (NB.add 24 #[.int .u64 xh, .int .u64 xl] (NB.nil w))
  clear hx hy hs hd hp hn hsx hsy hbS hbD hbP hbN hbM hqr hxh hxl hyh hyl
  go_enter Tryd.func3, Tryd.ntmps3
  go_upto_region 1 with (fail)
  obtain ⟨W, hW⟩ : ∃ W : World, W = ((w.alloc (.cells #[.int .u64 xh, .int .u64 xl] 24)).alloc (.cells #[.int .u64 yh, .int .u64 yl] 24)) := ⟨_, rfl⟩
  obtain ⟨ga, hga⟩ : ∃ g, g = w.heap.size := ⟨_, rfl⟩
  obtain ⟨gb, hgb⟩ : ∃ g, g = (w.alloc (.cells #[.int .u64 xh, .int .u64 xl] 24)).heap.size := ⟨_, rfl⟩
  have hgb' : w.heap.size + 1 = gb := by rw [hgb]; simp
  rw [← hW] at H0 ⊢
  rw [← hgb, ← hga] at H0
  try rw [hgb']
  try rw [← hga]
  clear hW hga hgb hgb'
  go_wp2_with fail
  refine (awake01 _).mono ?_
  rintro e v1001 ⟨rfl, hb1001⟩
  have M1001 := NB.next hb1001 H0
  clear hb1001
  obtain ⟨q1002a, q1002b, q1002c, q1002d⟩ := two_cellsN (NB.at_ M1001 (.tail _ (.head _)))
  go_wp2_with fail
  refine (HOX.out _).mono ?_
  rintro e v1003 ⟨A, n, c, rfl, hdx, hcx, hb1003⟩
  have M1003 := NB.next hb1003 M1001
  clear hb1003
  clear q1002a q1002b q1002c q1002d
  have HDX := hide hdx
  have HCX := hide hcx
  clear hdx hcx
  have H1004 := NB.add 28 #[.bool sx, .slice A n c] M1003
  obtain ⟨g5, hg5⟩ : ∃ g, g = v1003.heap.size := ⟨_, rfl⟩
  rw [← hg5] at H1004
  have HGg5 := hide hg5
  clear hg5
  replace HDX := hide (HDX.out.alloc (.cells #[.bool sx, .slice A n c] 28))
  go_upto_region 4 with (fail)
  rw [← HGg5.out]
  obtain ⟨W1004, hW1004⟩ : ∃ W : World, W = v1003.alloc (.cells #[.bool sx, .slice A n c] 28) := ⟨_, rfl⟩
  rw [← hW1004] at H1004 HDX ⊢
  clear hW1004
  obtain ⟨q1005a, q1005b, q1005c, q1005d⟩ := two_cellsN (NB.at_ H1004 (.tail _ (.head _)))
  go_wp2_with fail
  refine (HOY.out _).mono ?_
  rintro e v1006 ⟨A', m, c', rfl, hdy, hcy, hb1006⟩
  have M1006 := NB.next hb1006 H1004
  replace HDX := hide (HDX.out.below hb1006)
  clear hb1006
  clear q1005a q1005b q1005c q1005d
  have HDY := hide hdy
  have HCY := hide hcy
  clear hdy hcy
  have H1007 := NB.add 28 #[.bool sy, .slice A' m c'] M1006
  obtain ⟨g6, hg6⟩ : ∃ g, g = v1006.heap.size := ⟨_, rfl⟩
  rw [← hg6] at H1007
  have HGg6 := hide hg6
  clear hg6
  replace HDX := hide (HDX.out.alloc (.cells #[.bool sy, .slice A' m c'] 28))
  replace HDY := hide (HDY.out.alloc (.cells #[.bool sy, .slice A' m c'] 28))
  go_upto_region 5 with (fail)
  rw [← HGg6.out]
  obtain ⟨W1007, hW1007⟩ : ∃ W : World, W = v1006.alloc (.cells #[.bool sy, .slice A' m c'] 28) := ⟨_, rfl⟩
  rw [← hW1007] at H1007 HDX HDY ⊢
  clear hW1007
  obtain ⟨q1008a, q1008b, q1008c, q1008d⟩ := two_cellsN (NB.at_ H1007 (.tail _ (.tail _ (.tail _ (.head _)))))
  obtain ⟨q1009a, q1009b, q1009c, q1009d⟩ := two_cellsN (NB.at_ H1007 (.tail _ (.tail _ (.head _))))
  go_wp2_with fail
  refine (HS.out _).mono ?_
  rintro e v1010 ⟨rfl, hb1010⟩
  have M1010 := NB.next hb1010 H1007
  replace HDX := hide (HDX.out.below hb1010)
  replace HDY := hide (HDY.out.below hb1010)
  clear hb1010
  clear q1008a q1008b q1008c q1008d q1009a q1009b q1009c q1009d
  have H1011 := NB.add 24 #[.int .u64 sh, .int .u64 sl] M1010
  obtain ⟨g7, hg7⟩ : ∃ g, g = v1010.heap.size := ⟨_, rfl⟩
  rw [← hg7] at H1011
  have HGg7 := hide hg7
  clear hg7
  replace HDX := hide (HDX.out.alloc (.cells #[.int .u64 sh, .int .u64 sl] 24))
  replace HDY := hide (HDY.out.alloc (.cells #[.int .u64 sh, .int .u64 sl] 24))
  go_upto_region 6 with (fail)
  rw [← HGg7.out]
  obtain ⟨W1011, hW1011⟩ : ∃ W : World, W = v1010.alloc (.cells #[.int .u64 sh, .int .u64 sl] 24) := ⟨_, rfl⟩
  rw [← hW1011] at H1011 HDX HDY ⊢
  clear hW1011
  obtain ⟨q1012a, q1012b, q1012c, q1012d⟩ := two_cellsN (NB.at_ H1011 (.tail _ (.tail _ (.tail _ (.tail _ (.head _))))))
  obtain ⟨q1013a, q1013b, q1013c, q1013d⟩ := two_cellsN (NB.at_ H1011 (.tail _ (.tail _ (.tail _ (.head _)))))
  go_wp2_with fail
  refine (HD.out _).mono ?_
  rintro e v1014 ⟨rfl, hb1014⟩
  have M1014 := NB.next hb1014 H1011
  replace HDX := hide (HDX.out.below hb1014)
  replace HDY := hide (HDY.out.below hb1014)
  clear hb1014
  clear q1012a q1012b q1012c q1012d q1013a q1013b q1013c q1013d
  have H1015 := NB.add 24 #[.int .u64 dh, .int .u64 dl] M1014
  obtain ⟨g9, hg9⟩ : ∃ g, g = v1014.heap.size := ⟨_, rfl⟩
  rw [← hg9] at H1015
  have HGg9 := hide hg9
  clear hg9
  replace HDX := hide (HDX.out.alloc (.cells #[.int .u64 dh, .int .u64 dl] 24))
  replace HDY := hide (HDY.out.alloc (.cells #[.int .u64 dh, .int .u64 dl] 24))
  go_upto_region 7 with (fail)
  rw [← HGg9.out]
  obtain ⟨W1015, hW1015⟩ : ∃ W : World, W = v1014.alloc (.cells #[.int .u64 dh, .int .u64 dl] 24) := ⟨_, rfl⟩
  rw [← hW1015] at H1015 HDX HDY ⊢
  clear hW1015
  obtain ⟨q1016a, q1016b, q1016c, q1016d⟩ := two_cellsN (NB.at_ H1015 (.tail _ (.tail _ (.tail _ (.tail _ (.tail _ (.head _)))))))
  obtain ⟨q1017a, q1017b, q1017c, q1017d⟩ := two_cellsN (NB.at_ H1015 (.tail _ (.tail _ (.tail _ (.tail _ (.head _))))))
  go_wp2_with fail
  refine (HP.out _).mono ?_
  rintro e v1018 ⟨rfl, hb1018⟩
  have M1018 := NB.next hb1018 H1015
  replace HDX := hide (HDX.out.below hb1018)
  replace HDY := hide (HDY.out.below hb1018)
  clear hb1018
  clear q1016a q1016b q1016c q1016d q1017a q1017b q1017c q1017d
  have H1019 := NB.add 24 #[.int .u64 ph, .int .u64 pl] M1018
  obtain ⟨g11, hg11⟩ : ∃ g, g = v1018.heap.size := ⟨_, rfl⟩
  rw [← hg11] at H1019
  have HGg11 := hide hg11
  clear hg11
  replace HDX := hide (HDX.out.alloc (.cells #[.int .u64 ph, .int .u64 pl] 24))
  replace HDY := hide (HDY.out.alloc (.cells #[.int .u64 ph, .int .u64 pl] 24))
  go_upto_region 8 with (fail)
  rw [← HGg11.out]
  obtain ⟨W1019, hW1019⟩ : ∃ W : World, W = v1018.alloc (.cells #[.int .u64 ph, .int .u64 pl] 24) := ⟨_, rfl⟩
  rw [← hW1019] at H1019 HDX HDY ⊢
  clear hW1019
  obtain ⟨q1020a, q1020b, q1020c, q1020d⟩ := two_cellsN (NB.at_ H1019 (.tail _ (.tail _ (.tail _ (.tail _ (.tail _ (.tail _ (.head _))))))))
  go_wp2_with fail
  refine (HN.out _).mono ?_
  rintro e v1021 ⟨rfl, hb1021⟩
  have M1021 := NB.next hb1021 H1019
  replace HDX := hide (HDX.out.below hb1021)
  replace HDY := hide (HDY.out.below hb1021)
  clear hb1021
  clear q1020a q1020b q1020c q1020d
  have H1022 := NB.add 24 #[.int .u64 nh, .int .u64 nl] M1021
  obtain ⟨g13, hg13⟩ : ∃ g, g = v1021.heap.size := ⟨_, rfl⟩
  rw [← hg13] at H1022
  have HGg13 := hide hg13
  clear hg13
  replace HDX := hide (HDX.out.alloc (.cells #[.int .u64 nh, .int .u64 nl] 24))
  replace HDY := hide (HDY.out.alloc (.cells #[.int .u64 nh, .int .u64 nl] 24))
  go_upto_region 9 with (fail)
  rw [← HGg13.out]
  obtain ⟨W1022, hW1022⟩ : ∃ W : World, W = v1021.alloc (.cells #[.int .u64 nh, .int .u64 nl] 24) := ⟨_, rfl⟩
  rw [← hW1022] at H1022 HDX HDY ⊢
  clear hW1022
  obtain ⟨q1023a, q1023b, q1023c, q1023d⟩ := two_cellsN (NB.at_ H1022 (.tail _ (.tail _ (.tail _ (.tail _ (.tail _ (.tail _ (.tail _ (.head _)))))))))
  obtain ⟨q1024a, q1024b, q1024c, q1024d⟩ := two_cellsN (NB.at_ H1022 (.tail _ (.tail _ (.tail _ (.tail _ (.tail _ (.tail _ (.head _))))))))
  go_wp2_with fail
  refine (HQ.out _).mono ?_
  rintro e v1025 ⟨rfl, hb1025⟩
  have M1025 := NB.next hb1025 H1022
  replace HDX := hide (HDX.out.below hb1025)
  replace HDY := hide (HDY.out.below hb1025)
  clear hb1025
  clear q1023a q1023b q1023c q1023d q1024a q1024b q1024c q1024d
  have H1026 := NB.add 24 #[.int .u64 qh, .int .u64 ql] M1025
  obtain ⟨g15, hg15⟩ : ∃ g, g = v1025.heap.size := ⟨_, rfl⟩
  rw [← hg15] at H1026
  have HGg15 := hide hg15
  clear hg15
  replace HDX := hide (HDX.out.alloc (.cells #[.int .u64 qh, .int .u64 ql] 24))
  replace HDY := hide (HDY.out.alloc (.cells #[.int .u64 qh, .int .u64 ql] 24))
  go_upto_region 10 with (fail)
  rw [← HGg15.out]
  obtain ⟨W1026, hW1026⟩ : ∃ W : World, W = v1025.alloc (.cells #[.int .u64 qh, .int .u64 ql] 24) := ⟨_, rfl⟩
  rw [← hW1026] at H1026 HDX HDY ⊢
  clear hW1026
  obtain ⟨q1027a, q1027b, q1027c, q1027d⟩ := two_cellsN (NB.at_ H1026 (.tail _ (.tail _ (.tail _ (.tail _ (.tail _ (.tail _ (.tail _ (.tail _ (.head _))))))))))
  obtain ⟨q1028a, q1028b, q1028c, q1028d⟩ := two_cellsN (NB.at_ H1026 (.tail _ (.tail _ (.tail _ (.tail _ (.tail _ (.tail _ (.tail _ (.head _)))))))))
  go_wp2_with fail
  refine (HR.out _).mono ?_
  rintro e v1029 ⟨rfl, hb1029⟩
  have M1029 := NB.next hb1029 H1026
  replace HDX := hide (HDX.out.below hb1029)
  replace HDY := hide (HDY.out.below hb1029)
  clear hb1029
  clear q1027a q1027b q1027c q1027d q1028a q1028b q1028c q1028d
  have H1030 := NB.add 24 #[.int .u64 rh, .int .u64 rl] M1029
  obtain ⟨g17, hg17⟩ : ∃ g, g = v1029.heap.size := ⟨_, rfl⟩
  rw [← hg17] at H1030
  have HGg17 := hide hg17
  clear hg17
  replace HDX := hide (HDX.out.alloc (.cells #[.int .u64 rh, .int .u64 rl] 24))
  replace HDY := hide (HDY.out.alloc (.cells #[.int .u64 rh, .int .u64 rl] 24))
  go_upto_region 11 with (fail)
  rw [← HGg17.out]
  obtain ⟨W1030, hW1030⟩ : ∃ W : World, W = v1029.alloc (.cells #[.int .u64 rh, .int .u64 rl] 24) := ⟨_, rfl⟩
  rw [← hW1030] at H1030 HDX HDY ⊢
  clear hW1030
  have HR0 := NB.drew H1030
  replace HDX : Hid (Dg W1030.drew A n (dgs x.natAbs)) := HDX
  replace HDY : Hid (Dg W1030.drew A' m (dgs y.natAbs)) := HDY
  have SX := hide (show ∀ W, Hid (NB w [(g17, 24, #[.int .u64 rh, .int .u64 rl]), (g15, 24, #[.int .u64 qh, .int .u64 ql]), (g13, 24, #[.int .u64 nh, .int .u64 nl]), (g11, 24, #[.int .u64 ph, .int .u64 pl]), (g9, 24, #[.int .u64 dh, .int .u64 dl]), (g7, 24, #[.int .u64 sh, .int .u64 sl]), (g6, 28, #[.bool sy, .slice A' m c']), (g5, 28, #[.bool sx, .slice A n c]), (gb, 24, #[.int .u64 yh, .int .u64 yl]), (ga, 24, #[.int .u64 xh, .int .u64 xl])] W) → W.cell? ⟨ga, 0, none⟩ = some (.int .u64 xh) ∧ W.cell? ⟨ga, 1, none⟩ = some (.int .u64 xl) ∧ W.cell? ⟨gb, 0, none⟩ = some (.int .u64 yh) ∧ W.cell? ⟨gb, 1, none⟩ = some (.int .u64 yl) ∧ W.cell? ⟨g5, 0, none⟩ = some (.bool sx) ∧ W.cell? ⟨g5, 1, none⟩ = some (.slice A n c) ∧ W.cell? ⟨g6, 0, none⟩ = some (.bool sy) ∧ W.cell? ⟨g6, 1, none⟩ = some (.slice A' m c') ∧ W.cell? ⟨g7, 0, none⟩ = some (.int .u64 sh) ∧ W.cell? ⟨g7, 1, none⟩ = some (.int .u64 sl) ∧ W.cell? ⟨g9, 0, none⟩ = some (.int .u64 dh) ∧ W.cell? ⟨g9, 1, none⟩ = some (.int .u64 dl) ∧ W.cell? ⟨g11, 0, none⟩ = some (.int .u64 ph) ∧ W.cell? ⟨g11, 1, none⟩ = some (.int .u64 pl) ∧ W.cell? ⟨g13, 0, none⟩ = some (.int .u64 nh) ∧ W.cell? ⟨g13, 1, none⟩ = some (.int .u64 nl) from fun W hb => ⟨(NB.at_ hb (.tail _ (.tail _ (.tail _ (.tail _ (.tail _ (.tail _ (.tail _ (.tail _ (.tail _ (.head _))))))))))).cell 0, (NB.at_ hb (.tail _ (.tail _ (.tail _ (.tail _ (.tail _ (.tail _ (.tail _ (.tail _ (.tail _ (.head _))))))))))).cell 1, (NB.at_ hb (.tail _ (.tail _ (.tail _ (.tail _ (.tail _ (.tail _ (.tail _ (.tail _ (.head _)))))))))).cell 0, (NB.at_ hb (.tail _ (.tail _ (.tail _ (.tail _ (.tail _ (.tail _ (.tail _ (.tail _ (.head _)))))))))).cell 1, (NB.at_ hb (.tail _ (.tail _ (.tail _ (.tail _ (.tail _ (.tail _ (.tail _ (.head _))))))))).cell 0, (NB.at_ hb (.tail _ (.tail _ (.tail _ (.tail _ (.tail _ (.tail _ (.tail _ (.head _))))))))).cell 1, (NB.at_ hb (.tail _ (.tail _ (.tail _ (.tail _ (.tail _ (.tail _ (.head _)))))))).cell 0, (NB.at_ hb (.tail _ (.tail _ (.tail _ (.tail _ (.tail _ (.tail _ (.head _)))))))).cell 1, (NB.at_ hb (.tail _ (.tail _ (.tail _ (.tail _ (.tail _ (.head _))))))).cell 0, (NB.at_ hb (.tail _ (.tail _ (.tail _ (.tail _ (.tail _ (.head _))))))).cell 1, (NB.at_ hb (.tail _ (.tail _ (.tail _ (.tail _ (.head _)))))).cell 0, (NB.at_ hb (.tail _ (.tail _ (.tail _ (.tail _ (.head _)))))).cell 1, (NB.at_ hb (.tail _ (.tail _ (.tail _ (.head _))))).cell 0, (NB.at_ hb (.tail _ (.tail _ (.tail _ (.head _))))).cell 1, (NB.at_ hb (.tail _ (.tail _ (.head _)))).cell 0, (NB.at_ hb (.tail _ (.tail _ (.head _)))).cell 1⟩)
  have hn39 : n ≤ 39 ∧ m ≤ 39 := ⟨by have h1 := HDX.out.1; have h2 := HFX.out.1; omega, by have h1 := HDY.out.1; have h2 := HFX.out.2; omega⟩
  have HC1 := hide (fun (W : World) (hk : Below W1030.drew.heap.size W1030.drew W) => (show Calls Tryd.prog 17 #[.agg #[.bool sx, .slice A n c], .agg #[.bool sy, .slice A' m c']] W (NumS W bS (x + y).natAbs) from by
    rw [HBS.out.1, HBS.out.2.1, HBS.out.2.2.1]
    exact ref_add x y (HDX.out.below hk) (HDY.out.below hk) (by omega) (by omega) HCX.out HCY.out))
  have HC3 := hide (fun (W : World) (hk : Below W1030.drew.heap.size W1030.drew W) => (show Calls Tryd.prog 18 #[.agg #[.bool sy, .slice A' m c']] W (NumS W bM (-y).natAbs) from by
    rw [HBS.out.2.1, HBS.out.2.2.2.2.2.2]
    exact ref_neg y (HDY.out.below hk) (by omega) HCY.out))
  have HC4 := hide (fun (W : World) (hk : Below W1030.drew.heap.size W1030.drew W) (B : Option Addr) (k d : Nat) (hB : Dg W B k (dgs (-y).natAbs)) (hkd : k ≤ d) => (show Calls Tryd.prog 17 #[.agg #[.bool sx, .slice A n c], .agg #[.bool bM, .slice B k d]] W (NumS W bD (x + -y).natAbs) from by
    rw [HBS.out.1, HBS.out.2.2.2.1, HBS.out.2.2.2.2.2.2]
    exact ref_add x (-y) (HDX.out.below hk) hB (by omega) (by have h1 := hB.1; have h2 := HFX.out.2; rw [Int.natAbs_neg] at h1; omega) HCX.out hkd))
  have HC6 := hide (fun (W : World) (hk : Below W1030.drew.heap.size W1030.drew W) => (show Calls Tryd.prog 19 #[.agg #[.bool sx, .slice A n c], .agg #[.bool sy, .slice A' m c']] W (NumS W bP (x * y).natAbs) from by
    rw [HBS.out.1, HBS.out.2.1, HBS.out.2.2.2.2.1]
    exact ref_mul x y (HDX.out.below hk) (HDY.out.below hk) (by omega) (by omega) HCX.out HCY.out))
  have HC8 := hide (fun (W : World) (hk : Below W1030.drew.heap.size W1030.drew W) => (show Calls Tryd.prog 18 #[.agg #[.bool sx, .slice A n c]] W (NumS W bN (-x).natAbs) from by
    rw [HBS.out.1, HBS.out.2.2.2.2.2.1]
    exact ref_neg x (HDX.out.below hk) (by omega) HCX.out))
  have HC11 := hide (fun (W : World) (hk : Below W1030.drew.heap.size W1030.drew W) => (show Calls Tryd.prog 21 #[.agg #[.bool sx, .slice A n c], .agg #[.bool sy, .slice A' m c']] W fun e w' => e = .returned (.int .i64 (cmpI x y)) ∧ Below W.heap.size W w' from by
    rw [HBS.out.1, HBS.out.2.1]
    exact ref_cmp x y (HDX.out.below hk) (HDY.out.below hk) (by omega) (by omega) HCX.out HCY.out))
  have HL := hide (fun (z : Int) (B : Option Addr) (k : Nat) (W : World) (hB : Dg W B k (dgs z.natAbs)) (hz : z.natAbs < 10 ^ 100) => (show k ≤ 400 from by have h1 := hB.1; have h2 := dgs_len _ 100 hz; omega))
  have HZB := hide (show (x + y).natAbs < 10 ^ 100 ∧ (x + -y).natAbs < 10 ^ 100 ∧ (x * y).natAbs < 10 ^ 100 ∧ (-x).natAbs < 10 ^ 100 from bnds HFX.out.1 HFX.out.2)
  obtain ⟨cc, hcc⟩ : ∃ z, z = cmpI x y := ⟨_, rfl⟩
  rw [← hcc] at HCW HC11
  clear hcc
  go_region_held3 (fun w' => w'.cell? ⟨ga, 0, none⟩ = some (.int .u64 xh) ∧ w'.cell? ⟨ga, 1, none⟩ = some (.int .u64 xl) ∧ w'.cell? ⟨gb, 0, none⟩ = some (.int .u64 yh) ∧ w'.cell? ⟨gb, 1, none⟩ = some (.int .u64 yl) ∧ w'.cell? ⟨g5, 0, none⟩ = some (.bool sx) ∧ w'.cell? ⟨g5, 1, none⟩ = some (.slice A n c) ∧ w'.cell? ⟨g6, 0, none⟩ = some (.bool sy) ∧ w'.cell? ⟨g6, 1, none⟩ = some (.slice A' m c') ∧ w'.cell? ⟨g7, 0, none⟩ = some (.int .u64 sh) ∧ w'.cell? ⟨g7, 1, none⟩ = some (.int .u64 sl) ∧ w'.cell? ⟨g9, 0, none⟩ = some (.int .u64 dh) ∧ w'.cell? ⟨g9, 1, none⟩ = some (.int .u64 dl) ∧ w'.cell? ⟨g11, 0, none⟩ = some (.int .u64 ph) ∧ w'.cell? ⟨g11, 1, none⟩ = some (.int .u64 pl) ∧ w'.cell? ⟨g13, 0, none⟩ = some (.int .u64 nh) ∧ w'.cell? ⟨g13, 1, none⟩ = some (.int .u64 nl))
    (first | exact SX.out _ (by assumption))
    (first
      | (go_at_call 17; (with_reducible refine (HC1.out _ (Below.refl _ _)).mono ?_); rintro e wa ⟨B1, k1, d1, rfl, hd1, hc1, hb1⟩; have hm1 := NB.next hb1 HR0; have hk1 := hb1)
      | (go_at_call 16; (with_reducible refine (alike_true (x + y) HAN.out.1 HBS.out.2.2.1 hd1 (HL.out _ _ _ _ hd1 HZB.out.1) hc1).mono ?_); rintro e wb ⟨rfl, hb2⟩; have hm2 := NB.next hb2 hm1; have hk2 := hk1.trans (hb2.mono hk1.size))
      | (go_at_call 18; (with_reducible refine (HC3.out _ hk2).mono ?_); rintro e wc ⟨B3, k3, d3, rfl, hd3, hc3, hb3⟩; have hm3 := NB.next hb3 hm2; have hk3 := hk2.trans (hb3.mono hk2.size))
      | (go_at_call 17; (with_reducible refine (HC4.out _ hk3 B3 k3 d3 hd3 hc3).mono ?_); rintro e wd ⟨B4, k4, d4, rfl, hd4, hc4, hb4⟩; have hm4 := NB.next hb4 hm3; have hk4 := hk3.trans (hb4.mono hk3.size))
      | (go_at_call 16; (with_reducible refine (alike_true (x + -y) (by rw [← Int.sub_eq_add_neg]; exact HAN.out.2.1) HBS.out.2.2.2.1 hd4 (HL.out _ _ _ _ hd4 HZB.out.2.1) hc4).mono ?_); rintro e we ⟨rfl, hb5⟩; have hm5 := NB.next hb5 hm4; have hk5 := hk4.trans (hb5.mono hk4.size))
      | (go_at_call 19; (with_reducible refine (HC6.out _ hk5).mono ?_); rintro e wf ⟨B6, k6, d6, rfl, hd6, hc6, hb6⟩; have hm6 := NB.next hb6 hm5; have hk6 := hk5.trans (hb6.mono hk5.size))
      | (go_at_call 16; (with_reducible refine (alike_true (x * y) HAN.out.2.2.1 HBS.out.2.2.2.2.1 hd6 (HL.out _ _ _ _ hd6 HZB.out.2.2.1) hc6).mono ?_); rintro e wg ⟨rfl, hb7⟩; have hm7 := NB.next hb7 hm6; have hk7 := hk6.trans (hb7.mono hk6.size))
      | (go_at_call 18; (with_reducible refine (HC8.out _ hk7).mono ?_); rintro e wh ⟨B8, k8, d8, rfl, hd8, hc8, hb8⟩; have hm8 := NB.next hb8 hm7; have hk8 := hk7.trans (hb8.mono hk7.size))
      | (go_at_call 16; (with_reducible refine (alike_true (-x) HAN.out.2.2.2 HBS.out.2.2.2.2.2.1 hd8 (HL.out _ _ _ _ hd8 HZB.out.2.2.2) hc8).mono ?_); rintro e wi ⟨rfl, hb9⟩; have hm9 := NB.next hb9 hm8; have hk9 := hk8.trans (hb9.mono hk8.size))
      | (go_at_call 20; (with_reducible refine (HCW.out _).mono ?_); rintro e wj ⟨rfl, hb10⟩; have hm10 := NB.next hb10 hm9; have hk10 := hk9.trans (hb10.mono hk9.size))
      | (go_at_call 21; (with_reducible refine (HC11.out _ hk10).mono ?_); rintro e wk ⟨rfl, hb11⟩; have hm11 := NB.next hb11 hm10; have hk11 := hk10.trans (hb11.mono hk10.size)))
  have HXK := hide (HDX.out.below hk11)
  have HYK := hide (HDY.out.below hk11)
  clear hm1 hm2 hm3 hm4 hm5 hm6 hm7 hm8 hm9 hm10 hk1 hk2 hk3 hk4 hk5 hk6 hk7 hk8 hk9 hk10 hk11 hb1 hb2 hb3 hb4 hb5 hb6 hb7 hb8 hb9 hb10 hb11 hd1 hc1 hd3 hc3 hd4 hc4 hd6 hc6 hd8 hc8 HC1 HC3 HC4 HC6 HC8 HC11 HS HD HP HN HQ HR HOX HOY HCW SX HR0
  by_cases h0 : y = 0
  · have hm0 : m = 0 := by have h1 := HYK.out.1; rw [h0] at h1; exact h1.symm
    obtain ⟨z1, z2, z3, z4, z5, z6⟩ := HZ.out.1 h0
    subst hm0 z1 z2 z3 z4 z5 z6
    obtain ⟨q1031a, q1031b, q1031c, q1031d⟩ := two_cellsN (NB.at_ hm11 (.tail _ (.tail _ (.tail _ (.tail _ (.tail _ (.tail _ (.head _))))))))
    obtain ⟨q1032a, q1032b, q1032c, q1032d⟩ := two_cellsN (NB.at_ hm11 (.tail _ (.head _)))
    obtain ⟨q1033a, q1033b, q1033c, q1033d⟩ := two_cellsN (NB.at_ hm11 (.head _))
    go_wp2_with fail
    go_ret
    exact ⟨rfl, hm11.out.low⟩
  · have hm0 : ((m : Int) == 0) = false := by rw [beq_eq_false_iff_ne]; have h1 := HYK.out.1; intro h2; have h3 : m = 0 := (by omega); rw [h3, List.length_eq_zero_iff, dgs_nil] at h1; omega
    obtain ⟨hq1, hq2⟩ := HZ.out.2 h0
    have HQ1 := hide hq1
    have HQ2 := hide hq2
    obtain ⟨bq, hbq⟩ : ∃ b, b = decide (x.tdiv y < 0) := ⟨_, rfl⟩
    obtain ⟨br, hbr⟩ : ∃ b, b = decide (x.tmod y < 0) := ⟨_, rfl⟩
    have HQU := hide (show Calls Tryd.prog 22 #[.agg #[.bool sx, .slice A n c], .agg #[.bool sy, .slice A' m c']] wk fun e w' => ∃ A k c A' k' c', e = .returned (.tuple #[.agg #[.bool bq, .slice A k c], .agg #[.bool br, .slice A' k' c']]) ∧ Dg w' A k (dgs (x.tdiv y).natAbs) ∧ k ≤ c ∧ Dg w' A' k' (dgs (x.tmod y).natAbs) ∧ k' ≤ c' ∧ Below wk.heap.size wk w' from by
      rw [HBS.out.1, HBS.out.2.1, hbq, hbr]
      exact ref_quo x y HXK.out HYK.out (by omega) (by omega) HCX.out HCY.out h0)
    have HBQ := hide (And.intro hbq hbr)
    clear hq1 hq2 hbq hbr
    obtain ⟨q1034a, q1034b, q1034c, q1034d⟩ := two_cellsN (NB.at_ hm11 (.tail _ (.tail _ (.tail _ (.tail _ (.tail _ (.tail _ (.tail _ (.head _)))))))))
    obtain ⟨q1035a, q1035b, q1035c, q1035d⟩ := two_cellsN (NB.at_ hm11 (.tail _ (.tail _ (.tail _ (.tail _ (.tail _ (.tail _ (.head _))))))))
    go_wp2_with fail
    refine (HQU.out).mono ?_
    rintro e v1036 ⟨A1, k1, d1, A2, k2, d2, rfl, hd1, hc1, hd2, hc2, hb1036⟩
    have M1036 := NB.next hb1036 hm11
    clear hb1036
    clear q1034a q1034b q1034c q1034d q1035a q1035b q1035c q1035d
    have H50 := NB.add 28 #[.bool br, .slice A2 k2 d2] (NB.add 28 #[.bool bq, .slice A1 k1 d1] M1036)
    have hd3 := (hd1.alloc (.cells #[.bool bq, .slice A1 k1 d1] 28)).alloc (.cells #[.bool br, .slice A2 k2 d2] 28)
    have hd4 := (hd2.alloc (.cells #[.bool bq, .slice A1 k1 d1] 28)).alloc (.cells #[.bool br, .slice A2 k2 d2] 28)
    obtain ⟨g19, hg19⟩ : ∃ g, g = v1036.heap.size := ⟨_, rfl⟩
    obtain ⟨g20, hg20⟩ : ∃ g, g = (v1036.alloc (.cells #[.bool bq, .slice A1 k1 d1] 28)).heap.size := ⟨_, rfl⟩
    have hg20' : v1036.heap.size + 1 = g20 := by rw [hg20]; simp
    rw [← hg20, ← hg19] at H50
    have HG19 := hide hg19
    have HG20 := hide hg20'
    clear hg19 hg20 hg20'
    go_upto_region 16 with (fail)
    try rw [HG20.out]
    rw [← HG19.out]
    obtain ⟨W50, hW50⟩ : ∃ W : World, W = (v1036.alloc (.cells #[.bool bq, .slice A1 k1 d1] 28)).alloc (.cells #[.bool br, .slice A2 k2 d2] 28) := ⟨_, rfl⟩
    rw [← hW50] at H50 hd3 hd4 ⊢
    clear hW50
    have HD3 := hide hd3
    have HD4 := hide hd4
    clear hd1 hd2 hd3 hd4
    obtain ⟨q1037a, q1037b, q1037c, q1037d⟩ := two_cellsN (NB.at_ H50 (.tail _ (.tail _ (.tail _ (.head _)))))
    obtain ⟨q1038a, q1038b, q1038c, q1038d⟩ := two_cellsN (NB.at_ H50 (.tail _ (.head _)))
    go_wp2_with fail
    refine (alike_true (x.tdiv y) HQ1.out HBQ.out.1 HD3.out (tdiv_len HFX.out.1 HD3.out.1) hc1).mono ?_
    rintro e v1039 ⟨rfl, hb1039⟩
    have M1039 := NB.next hb1039 H50
    replace HD4 := hide (HD4.out.below hb1039)
    clear hb1039
    clear q1037a q1037b q1037c q1037d q1038a q1038b q1038c q1038d
    obtain ⟨q1040a, q1040b, q1040c, q1040d⟩ := two_cellsN (NB.at_ M1039 (.tail _ (.tail _ (.head _))))
    obtain ⟨q1041a, q1041b, q1041c, q1041d⟩ := two_cellsN (NB.at_ M1039 (.head _))
    go_wp2_with fail
    refine (alike_true (x.tmod y) HQ2.out HBQ.out.2 HD4.out (tmod_len HFX.out.1 HD4.out.1) hc2).mono ?_
    rintro e v1042 ⟨rfl, hb1042⟩
    have M1042 := NB.next hb1042 M1039
    replace HD4 := hide (HD4.out.below hb1042)
    clear hb1042
    clear q1040a q1040b q1040c q1040d q1041a q1041b q1041c q1041d
    go_wp2_with fail
    go_ret
    exact ⟨rfl, M1042.out.low⟩
end Go.Proofs.YthedfplafcfklaaDoor
