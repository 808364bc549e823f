/- What layer 8's awake and is answer; no conditions. -/
import Derived.Test.YtgleldpdelhhhaaDoorFold2
namespace Go.Proofs.YtgleldpdelhhhaaDoor
open Go.RowKit Go.WideShapes Go.ChangeShapes
set_option linter.unusedVariables false
set_option maxRecDepth 100000

theorem parse_2 (w : World) : Calls Tryd.prog 37 #[.string ⟨#[50]⟩] w fun e w' => e = .returned (.tuple #[wv 0 2, .int .i64 0]) ∧ Below w.heap.size w w' := by
  have h := parse_good ⟨#[50]⟩ (by decide +kernel) (by decide) (by decide) (by decide +kernel) w
  have e : parseN (valL (⟨#[50]⟩ : ByteArray).data.toList : Nat) = .tuple #[wv 0 2, .int .i64 0] := by
    rw [show (valL (⟨#[50]⟩ : ByteArray).data.toList : Nat) = 2 by decide +kernel]
    rfl
  rw [e] at h
  exact h

theorem parse_3 (w : World) : Calls Tryd.prog 37 #[.string ⟨#[51]⟩] w fun e w' => e = .returned (.tuple #[wv 0 3, .int .i64 0]) ∧ Below w.heap.size w w' := by
  have h := parse_good ⟨#[51]⟩ (by decide +kernel) (by decide) (by decide) (by decide +kernel) w
  have e : parseN (valL (⟨#[51]⟩ : ByteArray).data.toList : Nat) = .tuple #[wv 0 3, .int .i64 0] := by
    rw [show (valL (⟨#[51]⟩ : ByteArray).data.toList : Nat) = 3 by decide +kernel]
    rfl
  rw [e] at h
  exact h

theorem add_23 (w : World) : Calls Tryd.prog 44 #[wv 0 2, wv 0 3] w fun e w' => e = .returned (.tuple #[wv 0 5, .int .i64 0]) ∧ Below w.heap.size w w' := by
  have h := add_any (x := 2) (y := 3) (by decide) (by decide) w
  rw [show hiW 2 = 0 by decide, show loW 2 = 2 by decide, show hiW 3 = 0 by decide, show loW 3 = 3 by decide, show ansW (2 + 3) = .tuple #[wv 0 5, .int .i64 0] from ansW_val _] at h
  exact h

set_option maxHeartbeats 8000000 in
theorem awake08 (w : World) : Calls Tryd.prog 8 #[] w fun e w' => e = .returned (.bool true) ∧ Below w.heap.size w w' := by
  have H0 := CB.nil w
  go_enter Tryd.func8, Tryd.ntmps8
  go_wp2_with fail
  refine (int_any ⟨#[50]⟩ 0 2 (hide (fun W => parse_2 W)) _).mono ?_
  rintro e v1001 ⟨rfl, hb1001⟩
  have M1001 := CB.next hb1001 H0
  clear hb1001
  have H1002 := CB.add 26 #[.int .i64 1, .int .u64 0, .int .u64 2, .bool false, .string ⟨#[]⟩] M1001
  obtain ⟨g1, hg1⟩ : ∃ g, g = v1001.heap.size := ⟨_, rfl⟩
  rw [← hg1] at H1002
  have HGg1 := hide hg1
  clear hg1
  go_upto_region 2 with (fail)
  rw [← HGg1.out]
  obtain ⟨W1002, hW1002⟩ : ∃ W : World, W = v1001.alloc (.cells #[.int .i64 1, .int .u64 0, .int .u64 2, .bool false, .string ⟨#[]⟩] 26) := ⟨_, rfl⟩
  rw [← hW1002] at H1002 ⊢
  clear hW1002
  go_wp2_with fail
  refine (int_any ⟨#[51]⟩ 0 3 (hide (fun W => parse_3 W)) _).mono ?_
  rintro e v1003 ⟨rfl, hb1003⟩
  have M1003 := CB.next hb1003 H1002
  clear hb1003
  have H1004 := CB.add 26 #[.int .i64 1, .int .u64 0, .int .u64 3, .bool false, .string ⟨#[]⟩] M1003
  obtain ⟨g3, hg3⟩ : ∃ g, g = v1003.heap.size := ⟨_, rfl⟩
  rw [← hg3] at H1004
  have HGg3 := hide hg3
  clear hg3
  go_upto_region 3 with (fail)
  rw [← HGg3.out]
  obtain ⟨W1004, hW1004⟩ : ∃ W : World, W = v1003.alloc (.cells #[.int .i64 1, .int .u64 0, .int .u64 3, .bool false, .string ⟨#[]⟩] 26) := ⟨_, rfl⟩
  rw [← hW1004] at H1004 ⊢
  clear hW1004
  obtain ⟨q1005a, q1005b, q1005c, q1005d, q1005e, q1005f, q1005g, q1005h, q1005i, q1005j⟩ := five_cells (CB.at_ H1004 (.tail _ (.head _)))
  obtain ⟨q1006a, q1006b, q1006c, q1006d, q1006e, q1006f, q1006g, q1006h, q1006i, q1006j⟩ := five_cells (CB.at_ H1004 (.head _))
  go_wp2_with fail
  refine (binary_int ⟨#[43]⟩ false false 0 2 0 3 0 5 ⟨#[]⟩ ⟨#[]⟩ (hide (fun W => numbers_add 0 2 0 3 0 5 (hide (fun W => add_23 W)) W)) _).mono ?_
  rintro e v1007 ⟨rfl, hb1007⟩
  have M1007 := CB.next hb1007 H1004
  clear hb1007
  clear q1005a q1005b q1005c q1005d q1005e q1005f q1005g q1005h q1005i q1005j q1006a q1006b q1006c q1006d q1006e q1006f q1006g q1006h q1006i q1006j
  have H1008 := CB.add 26 #[.int .i64 1, .int .u64 0, .int .u64 5, .bool false, .string ⟨#[]⟩] M1007
  obtain ⟨g5, hg5⟩ : ∃ g, g = v1007.heap.size := ⟨_, rfl⟩
  rw [← hg5] at H1008
  have HGg5 := hide hg5
  clear hg5
  go_upto_region 4 with (fail)
  rw [← HGg5.out]
  obtain ⟨W1008, hW1008⟩ : ∃ W : World, W = v1007.alloc (.cells #[.int .i64 1, .int .u64 0, .int .u64 5, .bool false, .string ⟨#[]⟩] 26) := ⟨_, rfl⟩
  rw [← hW1008] at H1008 ⊢
  clear hW1008
  obtain ⟨q1009a, q1009b, q1009c, q1009d, q1009e, q1009f, q1009g, q1009h, q1009i, q1009j⟩ := five_cells (CB.at_ H1008 (.head _))
  go_wp2_with fail
  refine (value_5 _).mono ?_
  rintro e v1010 ⟨rfl, hb1010⟩
  have M1010 := CB.next hb1010 H1008
  clear hb1010
  clear q1009a q1009b q1009c q1009d q1009e q1009f q1009g q1009h q1009i q1009j
  have H1011 := CB.add 36 #[.int .i64 1, .int .i64 5, .int .i64 0, .int .i64 0, .string ⟨#[]⟩] M1010
  obtain ⟨g7, hg7⟩ : ∃ g, g = v1010.heap.size := ⟨_, rfl⟩
  rw [← hg7] at H1011
  have HGg7 := hide hg7
  clear hg7
  go_upto_region 5 with (fail)
  rw [← HGg7.out]
  obtain ⟨W1011, hW1011⟩ : ∃ W : World, W = v1010.alloc (.cells #[.int .i64 1, .int .i64 5, .int .i64 0, .int .i64 0, .string ⟨#[]⟩] 36) := ⟨_, rfl⟩
  rw [← hW1011] at H1011 ⊢
  clear hW1011
  obtain ⟨q1012a, q1012b, q1012c, q1012d, q1012e, q1012f, q1012g, q1012h, q1012i, q1012j⟩ := five_cells (CB.at_ H1011 (.tail _ (.tail _ (.tail _ (.head _)))))
  go_wp2_with fail
  refine (binary_mixed ⟨#[43]⟩ false false 0 2 0 0 ⟨#[]⟩ ⟨#[]⟩ _).mono ?_
  rintro e v1013 ⟨rfl, hb1013⟩
  have M1013 := CB.next hb1013 H1011
  clear hb1013
  clear q1012a q1012b q1012c q1012d q1012e q1012f q1012g q1012h q1012i q1012j
  have H1014 := CB.add 26 #[.int .i64 0, .int .u64 0, .int .u64 0, .bool false, .string ⟨#[]⟩] M1013
  obtain ⟨g9, hg9⟩ : ∃ g, g = v1013.heap.size := ⟨_, rfl⟩
  rw [← hg9] at H1014
  have HGg9 := hide hg9
  clear hg9
  go_upto_region 6 with (fail)
  rw [← HGg9.out]
  obtain ⟨W1014, hW1014⟩ : ∃ W : World, W = v1013.alloc (.cells #[.int .i64 0, .int .u64 0, .int .u64 0, .bool false, .string ⟨#[]⟩] 26) := ⟨_, rfl⟩
  rw [← hW1014] at H1014 ⊢
  clear hW1014
  obtain ⟨q1015a, q1015b, q1015c, q1015d, q1015e, q1015f, q1015g, q1015h, q1015i, q1015j⟩ := five_cells (CB.at_ H1014 (.tail _ (.head _)))
  go_wp2_with fail
  refine (text_any ⟨#[120]⟩ _).mono ?_
  rintro e v1016 ⟨rfl, hb1016⟩
  have M1016 := CB.next hb1016 H1014
  clear hb1016
  clear q1015a q1015b q1015c q1015d q1015e q1015f q1015g q1015h q1015i q1015j
  go_wp2_with fail
  go_ret
  exact ⟨rfl, M1016.out.low⟩

theorem is_bool (op : ByteArray) (a b : Array Value) (va vb : Value) (r : Bool) (hva : va = .agg a) (hvb : vb = .agg b)
    (ha : ∃ k h l x s, a = konA k h l x s) (hb : ∃ k h l x s, b = konA k h l x s)
    (HB : Hid (∀ W, Calls Tryd.prog 11 #[.string op, va, vb] W fun e w' => e = .returned (.tuple #[kon 2 0 0 r ⟨#[]⟩, .int .i64 0]) ∧ Below W.heap.size W w')) (w : World) :
    Calls Tryd.prog 19 #[.string op, va, vb] w fun e w' => e = .returned (.tuple #[.bool r, .bool true]) ∧ Below w.heap.size w w' := by
  subst hva hvb
  obtain ⟨k1, h1, l1, x1, s1, rfl⟩ := ha
  obtain ⟨k2, h2, l2, x2, s2, rfl⟩ := hb
  have H0 := CB.add 26 (konA k2 h2 l2 x2 s2) (CB.add 26 (konA k1 h1 l1 x1 s1) (CB.nil w))
  go_enter Tryd.func19, Tryd.ntmps19
  go_wp2_with fail
  refine (HB.out _).mono ?_
  rintro e v1 ⟨rfl, hb1⟩
  have M1 := CB.next hb1 H0
  clear hb1
  have H2 := CB.add 26 (konA 2 0 0 r ⟨#[]⟩) M1
  obtain ⟨g, hg⟩ : ∃ g, g = v1.heap.size := ⟨_, rfl⟩
  rw [← hg] at H2
  have HG := hide hg
  clear hg
  go_wp2_with fail
  rw [← HG.out]
  obtain ⟨W2, hW2⟩ : ∃ W : World, W = v1.alloc (.cells (konA 2 0 0 r ⟨#[]⟩) 26) := ⟨_, rfl⟩
  rw [← hW2] at H2 ⊢
  clear hW2
  have H3 := CB.drew H2
  refine wp_region_tail 99 (fun w' => w'.cell? ⟨g, 0, none⟩ = some (.int .i64 2) ∧ w'.cell? ⟨g, 3, none⟩ = some (.bool r)) (by kernel_rfl) ⟨(CB.at_ H3 (.head _)).cell 0, (CB.at_ H3 (.head _)).cell 3⟩ (fun hHeld => ?_)
  clear hHeld
  try simp only [Act.put, List.setIfInBounds_toArray, List.set_cons_zero, List.set_cons_succ]
  refine' wpTail_take (i := 0) (oi := _) ?hiu1017 ?hsu1017 ?hfu1017 ?hru1017 ?hzu1017 ?hQu1017 (v := _) (Or.inl ⟨?hwu1017, ?hyu1017⟩) (⟨(CB.at_ H3 (.head _)).cell 0, (CB.at_ H3 (.head _)).cell 3⟩) ?_
  case hiu1017 => (simp only [List.getElem?_toArray, List.getElem?_cons_zero]; exact rfl)
  case hsu1017 => kernel_rfl
  case hfu1017 => kernel_rfl
  case hru1017 => kernel_rfl
  case hzu1017 => kernel_rfl
  case hQu1017 => exact fun _ _ _ h => h
  case hwu1017 => rfl
  case hyu1017 => (intro w hSw; (try dsimp only at hSw); go_simp; (try with_reducible rfl))
  try simp only [Act.put, List.setIfInBounds_toArray, List.set_cons_zero, List.set_cons_succ]
  refine' wpTail_take (i := 1) (oi := _) ?hiu1018 ?hsu1018 ?hfu1018 ?hru1018 ?hzu1018 ?hQu1018 (v := _) (Or.inl ⟨?hwu1018, ?hyu1018⟩) (⟨(CB.at_ H3 (.head _)).cell 0, (CB.at_ H3 (.head _)).cell 3⟩) ?_
  case hiu1018 => (simp only [List.getElem?_toArray, List.getElem?_cons_succ, List.getElem?_cons_zero]; exact rfl)
  case hsu1018 => kernel_rfl
  case hfu1018 => kernel_rfl
  case hru1018 => kernel_rfl
  case hzu1018 => kernel_rfl
  case hQu1018 => exact fun _ _ _ h => h
  case hwu1018 => rfl
  case hyu1018 => (intro w hSw; (try dsimp only at hSw); go_simp; (try with_reducible rfl))
  try simp only [Act.put, List.setIfInBounds_toArray, List.set_cons_zero, List.set_cons_succ]
  refine' wpTail_take (i := 2) (oi := _) ?hiu1019 ?hsu1019 ?hfu1019 ?hru1019 ?hzu1019 ?hQu1019 (v := _) (Or.inl ⟨?hwu1019, ?hyu1019⟩) (⟨(CB.at_ H3 (.head _)).cell 0, (CB.at_ H3 (.head _)).cell 3⟩) ?_
  case hiu1019 => (simp only [List.getElem?_toArray, List.getElem?_cons_succ, List.getElem?_cons_zero]; exact rfl)
  case hsu1019 => kernel_rfl
  case hfu1019 => kernel_rfl
  case hru1019 => kernel_rfl
  case hzu1019 => kernel_rfl
  case hQu1019 => exact fun _ _ _ h => h
  case hwu1019 => rfl
  case hyu1019 => (intro w hSw; (try dsimp only at hSw); go_simp; (try with_reducible rfl))
  try simp only [Act.put, List.setIfInBounds_toArray, List.set_cons_zero, List.set_cons_succ]
  refine' wpTail_take (i := 3) (oi := _) ?hiu1020 ?hsu1020 ?hfu1020 ?hru1020 ?hzu1020 ?hQu1020 (v := _) (Or.inl ⟨?hwu1020, ?hyu1020⟩) (⟨(CB.at_ H3 (.head _)).cell 0, (CB.at_ H3 (.head _)).cell 3⟩) ?_
  case hiu1020 => (simp only [List.getElem?_toArray, List.getElem?_cons_succ, List.getElem?_cons_zero]; exact rfl)
  case hsu1020 => kernel_rfl
  case hfu1020 => kernel_rfl
  case hru1020 => kernel_rfl
  case hzu1020 => kernel_rfl
  case hQu1020 => exact fun _ _ _ h => h
  case hwu1020 => rfl
  case hyu1020 => (intro w hSw; (try dsimp only at hSw); go_simp; (try with_reducible rfl))
  try simp only [Act.put, List.setIfInBounds_toArray, List.set_cons_zero, List.set_cons_succ]
  refine' wpTail_take (i := 4) (oi := _) ?hiu1021 ?hsu1021 ?hfu1021 ?hru1021 ?hzu1021 ?hQu1021 (v := _) (Or.inl ⟨?hwu1021, ?hyu1021⟩) (⟨(CB.at_ H3 (.head _)).cell 0, (CB.at_ H3 (.head _)).cell 3⟩) ?_
  case hiu1021 => (simp only [List.getElem?_toArray, List.getElem?_cons_succ, List.getElem?_cons_zero]; exact rfl)
  case hsu1021 => kernel_rfl
  case hfu1021 => kernel_rfl
  case hru1021 => kernel_rfl
  case hzu1021 => kernel_rfl
  case hQu1021 => exact fun _ _ _ h => h
  case hwu1021 => rfl
  case hyu1021 => (intro w hSw; (try dsimp only at hSw); go_simp; (try with_reducible rfl))
  try simp only [Act.put, List.setIfInBounds_toArray, List.set_cons_zero, List.set_cons_succ]
  refine' wpTail_take (i := 5) (oi := _) ?hiu1022 ?hsu1022 ?hfu1022 ?hru1022 ?hzu1022 ?hQu1022 (v := _) (Or.inl ⟨?hwu1022, ?hyu1022⟩) (⟨(CB.at_ H3 (.head _)).cell 0, (CB.at_ H3 (.head _)).cell 3⟩) ?_
  case hiu1022 => (simp only [List.getElem?_toArray, List.getElem?_cons_succ, List.getElem?_cons_zero]; exact rfl)
  case hsu1022 => kernel_rfl
  case hfu1022 => kernel_rfl
  case hru1022 => kernel_rfl
  case hzu1022 => kernel_rfl
  case hQu1022 => exact fun _ _ _ h => h
  case hwu1022 => rfl
  case hyu1022 => (intro w hSw; (try dsimp only at hSw); go_simp; (try with_reducible rfl))
  try simp only [Act.put, List.setIfInBounds_toArray, List.set_cons_zero, List.set_cons_succ]
  refine' wpTail_take (i := 6) (oi := _) ?hiu1023 ?hsu1023 ?hfu1023 ?hru1023 ?hzu1023 ?hQu1023 (v := _) (Or.inl ⟨?hwu1023, ?hyu1023⟩) (⟨(CB.at_ H3 (.head _)).cell 0, (CB.at_ H3 (.head _)).cell 3⟩) ?_
  case hiu1023 => (simp only [List.getElem?_toArray, List.getElem?_cons_succ, List.getElem?_cons_zero]; exact rfl)
  case hsu1023 => kernel_rfl
  case hfu1023 => kernel_rfl
  case hru1023 => kernel_rfl
  case hzu1023 => kernel_rfl
  case hQu1023 => exact fun _ _ _ h => h
  case hwu1023 => rfl
  case hyu1023 => (intro w hSw; (try dsimp only at hSw); go_simp; (try with_reducible rfl))
  try simp only [Act.put, List.setIfInBounds_toArray, List.set_cons_zero, List.set_cons_succ]
  refine' wpTail_take (i := 7) (oi := _) ?hiu1024 ?hsu1024 ?hfu1024 ?hru1024 ?hzu1024 ?hQu1024 (v := _) (Or.inl ⟨?hwu1024, ?hyu1024⟩) (⟨(CB.at_ H3 (.head _)).cell 0, (CB.at_ H3 (.head _)).cell 3⟩) ?_
  case hiu1024 => (simp only [List.getElem?_toArray, List.getElem?_cons_succ, List.getElem?_cons_zero]; exact rfl)
  case hsu1024 => kernel_rfl
  case hfu1024 => kernel_rfl
  case hru1024 => kernel_rfl
  case hzu1024 => kernel_rfl
  case hQu1024 => exact fun _ _ _ h => h
  case hwu1024 => rfl
  case hyu1024 => (intro w hSw; (try dsimp only at hSw); go_simp; (try with_reducible rfl))
  try simp only [Act.put, List.setIfInBounds_toArray, List.set_cons_zero, List.set_cons_succ]
  refine' wpTail_take (i := 8) (oi := _) ?hiu1025 ?hsu1025 ?hfu1025 ?hru1025 ?hzu1025 ?hQu1025 (v := _) (Or.inl ⟨?hwu1025, ?hyu1025⟩) (⟨(CB.at_ H3 (.head _)).cell 0, (CB.at_ H3 (.head _)).cell 3⟩) ?_
  case hiu1025 => (simp only [List.getElem?_toArray, List.getElem?_cons_succ, List.getElem?_cons_zero]; exact rfl)
  case hsu1025 => kernel_rfl
  case hfu1025 => kernel_rfl
  case hru1025 => kernel_rfl
  case hzu1025 => kernel_rfl
  case hQu1025 => exact fun _ _ _ h => h
  case hwu1025 => rfl
  case hyu1025 => (intro w hSw; (try dsimp only at hSw); go_simp; (try with_reducible rfl))
  try simp only [Act.put, List.setIfInBounds_toArray, List.set_cons_zero, List.set_cons_succ]
  refine' wpTail_take (i := 9) (oi := _) ?hiu1026 ?hsu1026 ?hfu1026 ?hru1026 ?hzu1026 ?hQu1026 (v := _) (Or.inl ⟨?hwu1026, ?hyu1026⟩) (⟨(CB.at_ H3 (.head _)).cell 0, (CB.at_ H3 (.head _)).cell 3⟩) ?_
  case hiu1026 => (simp only [List.getElem?_toArray, List.getElem?_cons_succ, List.getElem?_cons_zero]; exact rfl)
  case hsu1026 => kernel_rfl
  case hfu1026 => kernel_rfl
  case hru1026 => kernel_rfl
  case hzu1026 => kernel_rfl
  case hQu1026 => exact fun _ _ _ h => h
  case hwu1026 => rfl
  case hyu1026 => (intro w hSw; (try dsimp only at hSw); go_simp; (try with_reducible rfl))
  try simp only [Act.put, List.setIfInBounds_toArray, List.set_cons_zero, List.set_cons_succ]
  refine' wpTail_take (i := 10) (oi := _) ?hiu1027 ?hsu1027 ?hfu1027 ?hru1027 ?hzu1027 ?hQu1027 (v := _) (Or.inl ⟨?hwu1027, ?hyu1027⟩) (⟨(CB.at_ H3 (.head _)).cell 0, (CB.at_ H3 (.head _)).cell 3⟩) ?_
  case hiu1027 => (simp only [List.getElem?_toArray, List.getElem?_cons_succ, List.getElem?_cons_zero]; exact rfl)
  case hsu1027 => kernel_rfl
  case hfu1027 => kernel_rfl
  case hru1027 => kernel_rfl
  case hzu1027 => kernel_rfl
  case hQu1027 => exact fun _ _ _ h => h
  case hwu1027 => rfl
  case hyu1027 => (intro w hSw; (try dsimp only at hSw); go_simp; (try with_reducible rfl))
  try simp only [Act.put, List.setIfInBounds_toArray, List.set_cons_zero, List.set_cons_succ]
  refine wpTail_done (by kernel_rfl) ?_ _
  go_wp2_with fail
  go_ret2
  exact ⟨rfl, H3.out.low⟩
end Go.Proofs.YtgleldpdelhhhaaDoor
