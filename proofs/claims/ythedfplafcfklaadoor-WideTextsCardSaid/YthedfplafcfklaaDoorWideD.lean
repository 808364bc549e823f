/- What layer 1's awake answers; no conditions. -/
import Derived.Test.YthedfplafcfklaaDoorWideB
import Derived.Test.YthedfplafcfklaaDoorWideC
namespace Go.Proofs.YthedfplafcfklaaDoor
open Go.RowKit Go.WideShapes Go.ChangeShapes
set_option linter.unusedVariables false
set_option maxRecDepth 100000

theorem WB.nil (w : World) : Hid (WB w [] w) := hide ⟨fun p hp => (by cases hp), Below.refl _ _, fun p hp => (by cases hp), List.Pairwise.nil⟩
def maxS : ByteArray := ⟨#[49, 55, 48, 49, 52, 49, 49, 56, 51, 52, 54, 48, 52, 54, 57, 50, 51, 49, 55, 51, 49, 54, 56, 55, 51, 48, 51, 55, 49, 53, 56, 56, 52, 49, 48, 53, 55, 50, 55]⟩
theorem parse_max (w : World) : Calls Tryd.prog 26 #[.string ⟨#[49, 55, 48, 49, 52, 49, 49, 56, 51, 52, 54, 48, 52, 54, 57, 50, 51, 49, 55, 51, 49, 54, 56, 55, 51, 48, 51, 55, 49, 53, 56, 56, 52, 49, 48, 53, 55, 50, 55]⟩] w fun e w' => e = .returned (.tuple #[wv 9223372036854775807 18446744073709551615, .int .i64 0]) ∧ Below w.heap.size w w' := by
  have h := parse_good ⟨#[49, 55, 48, 49, 52, 49, 49, 56, 51, 52, 54, 48, 52, 54, 57, 50, 51, 49, 55, 51, 49, 54, 56, 55, 51, 48, 51, 55, 49, 53, 56, 56, 52, 49, 48, 53, 55, 50, 55]⟩ (by decide +kernel) (by decide) (by decide) (by decide +kernel) w
  have e : parseN (valL (⟨#[49, 55, 48, 49, 52, 49, 49, 56, 51, 52, 54, 48, 52, 54, 57, 50, 51, 49, 55, 51, 49, 54, 56, 55, 51, 48, 51, 55, 49, 53, 56, 56, 52, 49, 48, 53, 55, 50, 55]⟩ : ByteArray).data.toList : Nat) = .tuple #[wv 9223372036854775807 18446744073709551615, .int .i64 0] := by
    rw [show (valL (⟨#[49, 55, 48, 49, 52, 49, 49, 56, 51, 52, 54, 48, 52, 54, 57, 50, 51, 49, 55, 51, 49, 54, 56, 55, 51, 48, 51, 55, 49, 53, 56, 56, 52, 49, 48, 53, 55, 50, 55]⟩ : ByteArray).data.toList : Nat) = 170141183460469231731687303715884105727 by decide +kernel]
    rfl
  rw [e] at h
  exact h
theorem of_val (n : Int) (a b : Int) (hn : -9223372036854775808 ≤ n ∧ n ≤ 9223372036854775807) (ha : hiW n = a) (hb : loW n = b) (w : World) : Calls Tryd.prog 25 #[.int .i64 n] w fun e w' => e = .returned (wv a b) ∧ Below w.heap.size w w' := by
  rw [← ha, ← hb]; exact of_any n hn w
theorem print_max (w : World) : Calls Tryd.prog 28 #[wv 9223372036854775807 18446744073709551615] w fun e w' => e = .returned (.string ⟨#[49, 55, 48, 49, 52, 49, 49, 56, 51, 52, 54, 48, 52, 54, 57, 50, 51, 49, 55, 51, 49, 54, 56, 55, 51, 48, 51, 55, 49, 53, 56, 56, 52, 49, 48, 53, 55, 50, 55]⟩) ∧ Below w.heap.size w w' := by
  have h := print_any (x := 170141183460469231731687303715884105727) (by decide) w
  rw [show hiW 170141183460469231731687303715884105727 = 9223372036854775807 by decide, show loW 170141183460469231731687303715884105727 = 18446744073709551615 by decide, show (textW 170141183460469231731687303715884105727).toArray = #[49, 55, 48, 49, 52, 49, 49, 56, 51, 52, 54, 48, 52, 54, 57, 50, 51, 49, 55, 51, 49, 54, 56, 55, 51, 48, 51, 55, 49, 53, 56, 56, 52, 49, 48, 53, 55, 50, 55] by decide +kernel] at h
  exact h
theorem print_m1 (w : World) : Calls Tryd.prog 28 #[wv 18446744073709551615 18446744073709551615] w fun e w' => e = .returned (.string ⟨#[45, 49]⟩) ∧ Below w.heap.size w w' := by
  have h := print_any (x := -1) (by decide) w
  rw [show hiW (-1) = 18446744073709551615 by decide, show loW (-1) = 18446744073709551615 by decide, show (textW (-1)).toArray = #[45, 49] by decide +kernel] at h
  exact h
theorem add_max (w : World) : Calls Tryd.prog 10 #[wv 9223372036854775807 18446744073709551615, wv 0 1] w fun e w' => e = .returned (.tuple #[wv 0 0, .int .i64 10]) ∧ Below w.heap.size w w' := by
  have h := add_any (x := 170141183460469231731687303715884105727) (y := 1) (by decide) (by decide) w
  rw [show hiW 170141183460469231731687303715884105727 = 9223372036854775807 by decide, show loW 170141183460469231731687303715884105727 = 18446744073709551615 by decide, show hiW 1 = 0 by decide, show loW 1 = 1 by decide, show ansW (170141183460469231731687303715884105727 + 1) = .tuple #[wv 0 0, .int .i64 10] from ansW_val _] at h
  exact h
theorem quo_72 (w : World) : Calls Tryd.prog 14 #[wv 18446744073709551615 18446744073709551609, wv 0 2] w fun e w' => e = .returned (.tuple #[wv 18446744073709551615 18446744073709551613, .int .i64 0]) ∧ Below w.heap.size w w' := by
  have h := quo_any (x := -7) (y := 2) (by decide) (by decide) (by decide) w
  rw [show hiW (-7) = 18446744073709551615 by decide, show loW (-7) = 18446744073709551609 by decide, show hiW 2 = 0 by decide, show loW 2 = 2 by decide, show ansW (quoW (-7) 2) = .tuple #[wv 18446744073709551615 18446744073709551613, .int .i64 0] from ansW_val _] at h
  exact h
theorem rem_72 (w : World) : Calls Tryd.prog 15 #[wv 18446744073709551615 18446744073709551609, wv 0 2] w fun e w' => e = .returned (.tuple #[wv 18446744073709551615 18446744073709551615, .int .i64 0]) ∧ Below w.heap.size w w' := by
  have h := rem_any (x := -7) (y := 2) (by decide) (by decide) (by decide) w
  rw [show hiW (-7) = 18446744073709551615 by decide, show loW (-7) = 18446744073709551609 by decide, show hiW 2 = 0 by decide, show loW 2 = 2 by decide, show ansW (remW (-7) 2) = .tuple #[wv 18446744073709551615 18446744073709551615, .int .i64 0] from ansW_val _] at h
  exact h

set_option maxHeartbeats 8000000 in
theorem awake01 (w : World) : Calls Tryd.prog 8 #[] w fun e w' => e = .returned (.bool true) ∧ Below w.heap.size w w' := by
  have H0 := WB.nil w
  go_enter Tryd.func8, Tryd.ntmps8
  go_wp2_with fail
  refine (parse_max _).mono ?_
  rintro e w1 ⟨rfl, hb1⟩
  have H1 := WB.addz (x := 9223372036854775807) (y := 18446744073709551615) (WB.next hb1 H0)
  obtain ⟨g1, hg1⟩ : ∃ g, g = w1.heap.size := ⟨_, rfl⟩
  rw [← hg1] at H1
  have HG1 := hide hg1
  clear hb1 hg1 H0
  go_wp2_with fail
  rw [← HG1.out]
  obtain ⟨W1, hW1⟩ : ∃ W : World, W = w1.alloc (.cells #[.int .u64 9223372036854775807, .int .u64 18446744073709551615] 24) := ⟨_, rfl⟩
  rw [← hW1] at H1 ⊢
  clear hW1
  have H1d := WB.drew H1
  go_cut [3, 4] (fun s3 s4 wx => ∃ g, s3 = .pointer (some ⟨g, 0, none⟩) ∧ s4 = .int .i64 10 ∧ Hid (WB w [(g1, 9223372036854775807, 18446744073709551615)] wx))
  case first =>
    refine wp_region_tail 99 (fun w' => w'.cell? ⟨g1, 0, none⟩ = some (.int .u64 9223372036854775807) ∧ w'.cell? ⟨g1, 1, none⟩ = some (.int .u64 18446744073709551615)) (by kernel_rfl) ⟨(WB.at_ H1d (.head _)).cell 0, (WB.at_ H1d (.head _)).cell 1⟩ (fun hHeld => ?_)
    obtain ⟨V0, hV0⟩ : ∃ W : World, W = W1.drew := ⟨_, rfl⟩
    rw [← hV0] at H1d ⊢
    clear hV0 hHeld H1
    try simp only [Act.put, List.setIfInBounds_toArray, List.set_cons_zero, List.set_cons_succ]
    refine' wpTail_take (i := 0) (oi := _) ?hiu1001 ?hsu1001 ?hfu1001 ?hru1001 ?hzu1001 ?hQu1001 (v := _) (Or.inl ⟨?hwu1001, ?hyu1001⟩) (⟨(WB.at_ H1d (.head _)).cell 0, (WB.at_ H1d (.head _)).cell 1⟩) ?_
    case hiu1001 => (simp only [List.getElem?_toArray, List.getElem?_cons_zero]; exact rfl)
    case hsu1001 => kernel_rfl
    case hfu1001 => kernel_rfl
    case hru1001 => kernel_rfl
    case hzu1001 => kernel_rfl
    case hQu1001 => exact fun _ _ _ h => h
    case hwu1001 => rfl
    case hyu1001 => (intro w hSw; (try dsimp only at hSw); go_simp; (try with_reducible rfl))
    try simp only [Act.put, List.setIfInBounds_toArray, List.set_cons_zero, List.set_cons_succ]
    refine' wpTail_two (i := 1) (j := 6) (o := _) (p := _) (by kernel_rfl) ?hi1002 ?hj1002 ?wi1002 ?wj1002 ?si1002 ?sj1002
    case hi1002 => (simp only [List.getElem?_toArray, List.getElem?_cons_succ, List.getElem?_cons_zero]; exact rfl)
    case hj1002 => (simp only [List.getElem?_toArray, List.getElem?_cons_succ, List.getElem?_cons_zero]; exact rfl)
    case wi1002 => rfl
    case wj1002 => rfl
    case si1002 =>
      intro K hK
      go_simp
      (with_reducible refine (of_val 1 0 1 (by decide) (by decide) (by decide) _).mono ?_)
      rintro e V1003 ⟨rfl, hb1003⟩
      have hm1003 := WB.next hb1003 H1d
      refine hK.out _ _ (fun _ => ⟨(WB.at_ hm1003 (.head _)).cell 0, (WB.at_ hm1003 (.head _)).cell 1⟩) ?_
      clear hK K hb1003
      try simp only [Act.put, List.setIfInBounds_toArray, List.set_cons_zero, List.set_cons_succ]
      refine' wpTail_two (i := 2) (j := 6) (o := _) (p := _) (by kernel_rfl) ?hi1004 ?hj1004 ?wi1004 ?wj1004 ?si1004 ?sj1004
      case hi1004 => (simp only [List.getElem?_toArray, List.getElem?_cons_succ, List.getElem?_cons_zero]; exact rfl)
      case hj1004 => (simp only [List.getElem?_toArray, List.getElem?_cons_succ, List.getElem?_cons_zero]; exact rfl)
      case wi1004 => rfl
      case wj1004 => rfl
      case si1004 =>
        intro K hK
        go_simp
        (with_reducible refine (add_max _).mono ?_)
        rintro e V1005 ⟨rfl, hb1005⟩
        have hm1005 := WB.next hb1005 hm1003
        refine hK.out _ _ (fun _ => ⟨(WB.at_ hm1005 (.head _)).cell 0, (WB.at_ hm1005 (.head _)).cell 1⟩) ?_
        clear hK K hb1005
        try simp only [Act.put, List.setIfInBounds_toArray, List.set_cons_zero, List.set_cons_succ]
        refine' wpTail_take (i := 3) (oi := _) ?hiu1006 ?hsu1006 ?hfu1006 ?hru1006 ?hzu1006 ?hQu1006 (v := _) (Or.inl ⟨?hwu1006, ?hyu1006⟩) (⟨(WB.at_ hm1005 (.head _)).cell 0, (WB.at_ hm1005 (.head _)).cell 1⟩) ?_
        case hiu1006 => (simp only [List.getElem?_toArray, List.getElem?_cons_succ, List.getElem?_cons_zero]; exact rfl)
        case hsu1006 => kernel_rfl
        case hfu1006 => kernel_rfl
        case hru1006 => kernel_rfl
        case hzu1006 => kernel_rfl
        case hQu1006 => exact fun _ _ _ h => h
        case hwu1006 => rfl
        case hyu1006 => (intro w hSw; (try dsimp only at hSw); go_simp; (try with_reducible rfl))
        try simp only [Act.put, List.setIfInBounds_toArray, List.set_cons_zero, List.set_cons_succ]
        refine' wpTail_take (i := 4) (oi := _) ?hiu1007 ?hsu1007 ?hfu1007 ?hru1007 ?hzu1007 ?hQu1007 (v := _) (Or.inl ⟨?hwu1007, ?hyu1007⟩) (⟨(WB.at_ hm1005 (.head _)).cell 0, (WB.at_ hm1005 (.head _)).cell 1⟩) ?_
        case hiu1007 => (simp only [List.getElem?_toArray, List.getElem?_cons_succ, List.getElem?_cons_zero]; exact rfl)
        case hsu1007 => kernel_rfl
        case hfu1007 => kernel_rfl
        case hru1007 => kernel_rfl
        case hzu1007 => kernel_rfl
        case hQu1007 => exact fun _ _ _ h => h
        case hwu1007 => rfl
        case hyu1007 => (intro w hSw; (try dsimp only at hSw); go_simp; (try with_reducible rfl))
        try simp only [Act.put, List.setIfInBounds_toArray, List.set_cons_zero, List.set_cons_succ]
        refine' wpTail_take (i := 5) (oi := _) ?hiu1008 ?hsu1008 ?hfu1008 ?hru1008 ?hzu1008 ?hQu1008 (v := _) (Or.inl ⟨?hwu1008, ?hyu1008⟩) (⟨(WB.at_ hm1005 (.head _)).cell 0, (WB.at_ hm1005 (.head _)).cell 1⟩) ?_
        case hiu1008 => (simp only [List.getElem?_toArray, List.getElem?_cons_succ, List.getElem?_cons_zero]; exact rfl)
        case hsu1008 => kernel_rfl
        case hfu1008 => kernel_rfl
        case hru1008 => kernel_rfl
        case hzu1008 => kernel_rfl
        case hQu1008 => exact fun _ _ _ h => h
        case hwu1008 => rfl
        case hyu1008 => (intro w hSw; (try dsimp only at hSw); go_simp; (try with_reducible rfl))
        try simp only [Act.put, List.setIfInBounds_toArray, List.set_cons_zero, List.set_cons_succ]
        refine' wpTail_one (i := 6) (o := _) (by kernel_rfl) ?hou1009 ?hwu1009 (fun K hK => ?_)
        case hou1009 => (simp only [List.getElem?_toArray, List.getElem?_cons_succ, List.getElem?_cons_zero]; exact rfl)
        case hwu1009 => rfl
        go_simp
        have hm1010 := WB.addz (x := 0) (y := 0) hm1005
        refine hK.out _ _ (fun _ => ⟨(WB.at_ hm1010 (.tail _ (.head _))).cell 0, (WB.at_ hm1010 (.tail _ (.head _))).cell 1⟩) ?_
        clear hK K
        try simp only [Act.put, List.setIfInBounds_toArray, List.set_cons_zero, List.set_cons_succ]
        obtain ⟨V1010, hV1010⟩ : ∃ X : World, X = V1005.alloc (.cells #[.int .u64 0, .int .u64 0] 24) := ⟨_, rfl⟩
        rw [← hV1010] at hm1010 ⊢
        obtain ⟨g1010, hg1010⟩ : ∃ g, g = V1005.heap.size := ⟨_, rfl⟩
        rw [← hg1010] at hm1010 ⊢
        clear hV1010 hg1010
        obtain ⟨x1011a, x1011b, x1011c, x1011d⟩ := WB.head hm1010
        refine' wpTail_one (i := 7) (o := _) (by kernel_rfl) ?hou1012 ?hwu1012 (fun K hK => ?_)
        case hou1012 => (simp only [List.getElem?_toArray, List.getElem?_cons_succ, List.getElem?_cons_zero]; exact rfl)
        case hwu1012 => rfl
        go_simp
        have hp1011 := WB.put (x := 0) (y := 0) hm1010
        refine hK.out _ _ (fun _ => ⟨(WB.at_ hp1011 (.tail _ (.head _))).cell 0, (WB.at_ hp1011 (.tail _ (.head _))).cell 1⟩) ?_
        clear hK K x1011a x1011b x1011c x1011d
        try simp only [Act.put, List.setIfInBounds_toArray, List.set_cons_zero, List.set_cons_succ]
        refine' wpTail_take (i := 8) (oi := _) ?hiu1013 ?hsu1013 ?hfu1013 ?hru1013 ?hzu1013 ?hQu1013 (v := _) (Or.inl ⟨?hwu1013, ?hyu1013⟩) (⟨(WB.at_ hp1011 (.tail _ (.head _))).cell 0, (WB.at_ hp1011 (.tail _ (.head _))).cell 1⟩) ?_
        case hiu1013 => (simp only [List.getElem?_toArray, List.getElem?_cons_succ, List.getElem?_cons_zero]; exact rfl)
        case hsu1013 => kernel_rfl
        case hfu1013 => kernel_rfl
        case hru1013 => kernel_rfl
        case hzu1013 => kernel_rfl
        case hQu1013 => exact fun _ _ _ h => h
        case hwu1013 => rfl
        case hyu1013 => (intro w hSw; (try dsimp only at hSw); go_simp; (try with_reducible rfl))
        try simp only [Act.put, List.setIfInBounds_toArray, List.set_cons_zero, List.set_cons_succ]
        refine wpTail_done (by kernel_rfl) ?_ _
        go_wp2_with fail
        go_meet
        exact ⟨_, rfl, rfl, WB.tail hp1011⟩
      case sj1004 =>
        intro K hK
        go_simp
        have hm1014 := WB.addz (x := 0) (y := 0) hm1003
        refine hK.out _ _ (fun _ => ⟨(WB.at_ hm1014 (.tail _ (.head _))).cell 0, (WB.at_ hm1014 (.tail _ (.head _))).cell 1⟩) ?_
        clear hK K
        try simp only [Act.put, List.setIfInBounds_toArray, List.set_cons_zero, List.set_cons_succ]
        obtain ⟨V1014, hV1014⟩ : ∃ X : World, X = V1003.alloc (.cells #[.int .u64 0, .int .u64 0] 24) := ⟨_, rfl⟩
        rw [← hV1014] at hm1014 ⊢
        obtain ⟨g1014, hg1014⟩ : ∃ g, g = V1003.heap.size := ⟨_, rfl⟩
        rw [← hg1014] at hm1014 ⊢
        clear hV1014 hg1014
        refine' wpTail_one (i := 2) (o := _) (by kernel_rfl) ?hou1015 ?hwu1015 (fun K hK => ?_)
        case hou1015 => (simp only [List.getElem?_toArray, List.getElem?_cons_succ, List.getElem?_cons_zero]; exact rfl)
        case hwu1015 => rfl
        go_simp
        (with_reducible refine (add_max _).mono ?_)
        rintro e V1016 ⟨rfl, hb1016⟩
        have hm1016 := WB.next hb1016 hm1014
        refine hK.out _ _ (fun _ => ⟨(WB.at_ hm1016 (.tail _ (.head _))).cell 0, (WB.at_ hm1016 (.tail _ (.head _))).cell 1⟩) ?_
        clear hK K hb1016
        try simp only [Act.put, List.setIfInBounds_toArray, List.set_cons_zero, List.set_cons_succ]
        refine' wpTail_take (i := 3) (oi := _) ?hiu1017 ?hsu1017 ?hfu1017 ?hru1017 ?hzu1017 ?hQu1017 (v := _) (Or.inl ⟨?hwu1017, ?hyu1017⟩) (⟨(WB.at_ hm1016 (.tail _ (.head _))).cell 0, (WB.at_ hm1016 (.tail _ (.head _))).cell 1⟩) ?_
        case hiu1017 => (simp only [List.getElem?_toArray, List.getElem?_cons_succ, List.getElem?_cons_zero]; exact rfl)
        case hsu1017 => kernel_rfl
        case hfu1017 => kernel_rfl
        case hru1017 => kernel_rfl
        case hzu1017 => kernel_rfl
        case hQu1017 => exact fun _ _ _ h => h
        case hwu1017 => rfl
        case hyu1017 => (intro w hSw; (try dsimp only at hSw); go_simp; (try with_reducible rfl))
        try simp only [Act.put, List.setIfInBounds_toArray, List.set_cons_zero, List.set_cons_succ]
        refine' wpTail_take (i := 4) (oi := _) ?hiu1018 ?hsu1018 ?hfu1018 ?hru1018 ?hzu1018 ?hQu1018 (v := _) (Or.inl ⟨?hwu1018, ?hyu1018⟩) (⟨(WB.at_ hm1016 (.tail _ (.head _))).cell 0, (WB.at_ hm1016 (.tail _ (.head _))).cell 1⟩) ?_
        case hiu1018 => (simp only [List.getElem?_toArray, List.getElem?_cons_succ, List.getElem?_cons_zero]; exact rfl)
        case hsu1018 => kernel_rfl
        case hfu1018 => kernel_rfl
        case hru1018 => kernel_rfl
        case hzu1018 => kernel_rfl
        case hQu1018 => exact fun _ _ _ h => h
        case hwu1018 => rfl
        case hyu1018 => (intro w hSw; (try dsimp only at hSw); go_simp; (try with_reducible rfl))
        try simp only [Act.put, List.setIfInBounds_toArray, List.set_cons_zero, List.set_cons_succ]
        refine' wpTail_take (i := 5) (oi := _) ?hiu1019 ?hsu1019 ?hfu1019 ?hru1019 ?hzu1019 ?hQu1019 (v := _) (Or.inl ⟨?hwu1019, ?hyu1019⟩) (⟨(WB.at_ hm1016 (.tail _ (.head _))).cell 0, (WB.at_ hm1016 (.tail _ (.head _))).cell 1⟩) ?_
        case hiu1019 => (simp only [List.getElem?_toArray, List.getElem?_cons_succ, List.getElem?_cons_zero]; exact rfl)
        case hsu1019 => kernel_rfl
        case hfu1019 => kernel_rfl
        case hru1019 => kernel_rfl
        case hzu1019 => kernel_rfl
        case hQu1019 => exact fun _ _ _ h => h
        case hwu1019 => rfl
        case hyu1019 => (intro w hSw; (try dsimp only at hSw); go_simp; (try with_reducible rfl))
        try simp only [Act.put, List.setIfInBounds_toArray, List.set_cons_zero, List.set_cons_succ]
        obtain ⟨x1020a, x1020b, x1020c, x1020d⟩ := WB.head hm1016
        refine' wpTail_one (i := 7) (o := _) (by kernel_rfl) ?hou1021 ?hwu1021 (fun K hK => ?_)
        case hou1021 => (simp only [List.getElem?_toArray, List.getElem?_cons_succ, List.getElem?_cons_zero]; exact rfl)
        case hwu1021 => rfl
        go_simp
        have hp1020 := WB.put (x := 0) (y := 0) hm1016
        refine hK.out _ _ (fun _ => ⟨(WB.at_ hp1020 (.tail _ (.head _))).cell 0, (WB.at_ hp1020 (.tail _ (.head _))).cell 1⟩) ?_
        clear hK K x1020a x1020b x1020c x1020d
        try simp only [Act.put, List.setIfInBounds_toArray, List.set_cons_zero, List.set_cons_succ]
        refine' wpTail_take (i := 8) (oi := _) ?hiu1022 ?hsu1022 ?hfu1022 ?hru1022 ?hzu1022 ?hQu1022 (v := _) (Or.inl ⟨?hwu1022, ?hyu1022⟩) (⟨(WB.at_ hp1020 (.tail _ (.head _))).cell 0, (WB.at_ hp1020 (.tail _ (.head _))).cell 1⟩) ?_
        case hiu1022 => (simp only [List.getElem?_toArray, List.getElem?_cons_succ, List.getElem?_cons_zero]; exact rfl)
        case hsu1022 => kernel_rfl
        case hfu1022 => kernel_rfl
        case hru1022 => kernel_rfl
        case hzu1022 => kernel_rfl
        case hQu1022 => exact fun _ _ _ h => h
        case hwu1022 => rfl
        case hyu1022 => (intro w hSw; (try dsimp only at hSw); go_simp; (try with_reducible rfl))
        try simp only [Act.put, List.setIfInBounds_toArray, List.set_cons_zero, List.set_cons_succ]
        refine wpTail_done (by kernel_rfl) ?_ _
        go_wp2_with fail
        go_meet
        exact ⟨_, rfl, rfl, WB.tail hp1020⟩
    case sj1002 =>
      intro K hK
      go_simp
      have hm1023 := WB.addz (x := 0) (y := 0) H1d
      refine hK.out _ _ (fun _ => ⟨(WB.at_ hm1023 (.tail _ (.head _))).cell 0, (WB.at_ hm1023 (.tail _ (.head _))).cell 1⟩) ?_
      clear hK K
      try simp only [Act.put, List.setIfInBounds_toArray, List.set_cons_zero, List.set_cons_succ]
      obtain ⟨V1023, hV1023⟩ : ∃ X : World, X = V0.alloc (.cells #[.int .u64 0, .int .u64 0] 24) := ⟨_, rfl⟩
      rw [← hV1023] at hm1023 ⊢
      obtain ⟨g1023, hg1023⟩ : ∃ g, g = V0.heap.size := ⟨_, rfl⟩
      rw [← hg1023] at hm1023 ⊢
      clear hV1023 hg1023
      refine' wpTail_one (i := 1) (o := _) (by kernel_rfl) ?hou1024 ?hwu1024 (fun K hK => ?_)
      case hou1024 => (simp only [List.getElem?_toArray, List.getElem?_cons_succ, List.getElem?_cons_zero]; exact rfl)
      case hwu1024 => rfl
      go_simp
      (with_reducible refine (of_val 1 0 1 (by decide) (by decide) (by decide) _).mono ?_)
      rintro e V1025 ⟨rfl, hb1025⟩
      have hm1025 := WB.next hb1025 hm1023
      refine hK.out _ _ (fun _ => ⟨(WB.at_ hm1025 (.tail _ (.head _))).cell 0, (WB.at_ hm1025 (.tail _ (.head _))).cell 1⟩) ?_
      clear hK K hb1025
      try simp only [Act.put, List.setIfInBounds_toArray, List.set_cons_zero, List.set_cons_succ]
      refine' wpTail_one (i := 2) (o := _) (by kernel_rfl) ?hou1026 ?hwu1026 (fun K hK => ?_)
      case hou1026 => (simp only [List.getElem?_toArray, List.getElem?_cons_succ, List.getElem?_cons_zero]; exact rfl)
      case hwu1026 => rfl
      go_simp
      (with_reducible refine (add_max _).mono ?_)
      rintro e V1027 ⟨rfl, hb1027⟩
      have hm1027 := WB.next hb1027 hm1025
      refine hK.out _ _ (fun _ => ⟨(WB.at_ hm1027 (.tail _ (.head _))).cell 0, (WB.at_ hm1027 (.tail _ (.head _))).cell 1⟩) ?_
      clear hK K hb1027
      try simp only [Act.put, List.setIfInBounds_toArray, List.set_cons_zero, List.set_cons_succ]
      refine' wpTail_take (i := 3) (oi := _) ?hiu1028 ?hsu1028 ?hfu1028 ?hru1028 ?hzu1028 ?hQu1028 (v := _) (Or.inl ⟨?hwu1028, ?hyu1028⟩) (⟨(WB.at_ hm1027 (.tail _ (.head _))).cell 0, (WB.at_ hm1027 (.tail _ (.head _))).cell 1⟩) ?_
      case hiu1028 => (simp only [List.getElem?_toArray, List.getElem?_cons_succ, List.getElem?_cons_zero]; exact rfl)
      case hsu1028 => kernel_rfl
      case hfu1028 => kernel_rfl
      case hru1028 => kernel_rfl
      case hzu1028 => kernel_rfl
      case hQu1028 => exact fun _ _ _ h => h
      case hwu1028 => rfl
      case hyu1028 => (intro w hSw; (try dsimp only at hSw); go_simp; (try with_reducible rfl))
      try simp only [Act.put, List.setIfInBounds_toArray, List.set_cons_zero, List.set_cons_succ]
      refine' wpTail_take (i := 4) (oi := _) ?hiu1029 ?hsu1029 ?hfu1029 ?hru1029 ?hzu1029 ?hQu1029 (v := _) (Or.inl ⟨?hwu1029, ?hyu1029⟩) (⟨(WB.at_ hm1027 (.tail _ (.head _))).cell 0, (WB.at_ hm1027 (.tail _ (.head _))).cell 1⟩) ?_
      case hiu1029 => (simp only [List.getElem?_toArray, List.getElem?_cons_succ, List.getElem?_cons_zero]; exact rfl)
      case hsu1029 => kernel_rfl
      case hfu1029 => kernel_rfl
      case hru1029 => kernel_rfl
      case hzu1029 => kernel_rfl
      case hQu1029 => exact fun _ _ _ h => h
      case hwu1029 => rfl
      case hyu1029 => (intro w hSw; (try dsimp only at hSw); go_simp; (try with_reducible rfl))
      try simp only [Act.put, List.setIfInBounds_toArray, List.set_cons_zero, List.set_cons_succ]
      refine' wpTail_take (i := 5) (oi := _) ?hiu1030 ?hsu1030 ?hfu1030 ?hru1030 ?hzu1030 ?hQu1030 (v := _) (Or.inl ⟨?hwu1030, ?hyu1030⟩) (⟨(WB.at_ hm1027 (.tail _ (.head _))).cell 0, (WB.at_ hm1027 (.tail _ (.head _))).cell 1⟩) ?_
      case hiu1030 => (simp only [List.getElem?_toArray, List.getElem?_cons_succ, List.getElem?_cons_zero]; exact rfl)
      case hsu1030 => kernel_rfl
      case hfu1030 => kernel_rfl
      case hru1030 => kernel_rfl
      case hzu1030 => kernel_rfl
      case hQu1030 => exact fun _ _ _ h => h
      case hwu1030 => rfl
      case hyu1030 => (intro w hSw; (try dsimp only at hSw); go_simp; (try with_reducible rfl))
      try simp only [Act.put, List.setIfInBounds_toArray, List.set_cons_zero, List.set_cons_succ]
      obtain ⟨x1031a, x1031b, x1031c, x1031d⟩ := WB.head hm1027
      refine' wpTail_one (i := 7) (o := _) (by kernel_rfl) ?hou1032 ?hwu1032 (fun K hK => ?_)
      case hou1032 => (simp only [List.getElem?_toArray, List.getElem?_cons_succ, List.getElem?_cons_zero]; exact rfl)
      case hwu1032 => rfl
      go_simp
      have hp1031 := WB.put (x := 0) (y := 0) hm1027
      refine hK.out _ _ (fun _ => ⟨(WB.at_ hp1031 (.tail _ (.head _))).cell 0, (WB.at_ hp1031 (.tail _ (.head _))).cell 1⟩) ?_
      clear hK K x1031a x1031b x1031c x1031d
      try simp only [Act.put, List.setIfInBounds_toArray, List.set_cons_zero, List.set_cons_succ]
      refine' wpTail_take (i := 8) (oi := _) ?hiu1033 ?hsu1033 ?hfu1033 ?hru1033 ?hzu1033 ?hQu1033 (v := _) (Or.inl ⟨?hwu1033, ?hyu1033⟩) (⟨(WB.at_ hp1031 (.tail _ (.head _))).cell 0, (WB.at_ hp1031 (.tail _ (.head _))).cell 1⟩) ?_
      case hiu1033 => (simp only [List.getElem?_toArray, List.getElem?_cons_succ, List.getElem?_cons_zero]; exact rfl)
      case hsu1033 => kernel_rfl
      case hfu1033 => kernel_rfl
      case hru1033 => kernel_rfl
      case hzu1033 => kernel_rfl
      case hQu1033 => exact fun _ _ _ h => h
      case hwu1033 => rfl
      case hyu1033 => (intro w hSw; (try dsimp only at hSw); go_simp; (try with_reducible rfl))
      try simp only [Act.put, List.setIfInBounds_toArray, List.set_cons_zero, List.set_cons_succ]
      refine wpTail_done (by kernel_rfl) ?_ _
      go_wp2_with fail
      go_meet
      exact ⟨_, rfl, rfl, WB.tail hp1031⟩
  case rest =>
  obtain ⟨g0, rfl, rfl, H2⟩ := hcut
  clear H1 H1d
  go_wp2_with fail
  refine (of_val (-7) 18446744073709551615 18446744073709551609 (by decide) (by decide) (by decide) _).mono ?_
  rintro e v1 ⟨rfl, hb1⟩
  have M1 := WB.next hb1 H2
  clear hb1
  go_wp2_with fail
  refine (of_val 2 0 2 (by decide) (by decide) (by decide) _).mono ?_
  rintro e v2 ⟨rfl, hb2⟩
  have M2 := WB.next hb2 M1
  clear hb2
  go_wp2_with fail
  refine (quo_72 _).mono ?_
  rintro e v3 ⟨rfl, hb3⟩
  have M3 := WB.next hb3 M2
  clear hb3
  have H3 := WB.addz (x := 18446744073709551615) (y := 18446744073709551613) M3
  obtain ⟨g5, hg5⟩ : ∃ g, g = v3.heap.size := ⟨_, rfl⟩
  rw [← hg5] at H3
  have HG5 := hide hg5
  clear hg5 M1 M2 M3 H2
  go_wp2_with fail
  rw [← HG5.out]
  obtain ⟨W5, hW5⟩ : ∃ W : World, W = v3.alloc (.cells #[.int .u64 18446744073709551615, .int .u64 18446744073709551613] 24) := ⟨_, rfl⟩
  rw [← hW5] at H3 ⊢
  clear hW5
  refine (of_val (-7) 18446744073709551615 18446744073709551609 (by decide) (by decide) (by decide) _).mono ?_
  rintro e v4 ⟨rfl, hb4⟩
  have M4 := WB.next hb4 H3
  clear hb4
  go_wp2_with fail
  refine (of_val 2 0 2 (by decide) (by decide) (by decide) _).mono ?_
  rintro e v5 ⟨rfl, hb5⟩
  have M5 := WB.next hb5 M4
  clear hb5
  go_wp2_with fail
  refine (rem_72 _).mono ?_
  rintro e v6 ⟨rfl, hb6⟩
  have M6 := WB.next hb6 M5
  clear hb6
  have H4 := WB.addz (x := 18446744073709551615) (y := 18446744073709551615) M6
  obtain ⟨g7, hg7⟩ : ∃ g, g = v6.heap.size := ⟨_, rfl⟩
  rw [← hg7] at H4
  have HG7 := hide hg7
  clear hg7 M4 M5 M6 H3
  go_wp2_with fail
  rw [← HG7.out]
  obtain ⟨W7, hW7⟩ : ∃ W : World, W = v6.alloc (.cells #[.int .u64 18446744073709551615, .int .u64 18446744073709551615] 24) := ⟨_, rfl⟩
  rw [← hW7] at H4 ⊢
  clear hW7
  have H4d := WB.drew H4
  refine wp_region_tail 99 (fun w' => w'.cell? ⟨g7, 0, none⟩ = some (.int .u64 18446744073709551615) ∧ w'.cell? ⟨g7, 1, none⟩ = some (.int .u64 18446744073709551615) ∧ w'.cell? ⟨g5, 0, none⟩ = some (.int .u64 18446744073709551615) ∧ w'.cell? ⟨g5, 1, none⟩ = some (.int .u64 18446744073709551613) ∧ w'.cell? ⟨g1, 0, none⟩ = some (.int .u64 9223372036854775807) ∧ w'.cell? ⟨g1, 1, none⟩ = some (.int .u64 18446744073709551615)) (by kernel_rfl) ⟨(WB.at_ H4d (.head _)).cell 0, (WB.at_ H4d (.head _)).cell 1, (WB.at_ H4d (.tail _ (.head _))).cell 0, (WB.at_ H4d (.tail _ (.head _))).cell 1, (WB.at_ H4d (.tail _ (.tail _ (.head _)))).cell 0, (WB.at_ H4d (.tail _ (.tail _ (.head _)))).cell 1⟩ (fun hHeld => ?_)
  clear hHeld
  try simp only [Act.put, List.setIfInBounds_toArray, List.set_cons_zero, List.set_cons_succ]
  refine' wpTail_take (i := 0) (oi := _) ?hiu1034 ?hsu1034 ?hfu1034 ?hru1034 ?hzu1034 ?hQu1034 (v := _) (Or.inl ⟨?hwu1034, ?hyu1034⟩) (⟨(WB.at_ H4d (.head _)).cell 0, (WB.at_ H4d (.head _)).cell 1, (WB.at_ H4d (.tail _ (.head _))).cell 0, (WB.at_ H4d (.tail _ (.head _))).cell 1, (WB.at_ H4d (.tail _ (.tail _ (.head _)))).cell 0, (WB.at_ H4d (.tail _ (.tail _ (.head _)))).cell 1⟩) ?_
  case hiu1034 => (simp only [List.getElem?_toArray, List.getElem?_cons_zero]; exact rfl)
  case hsu1034 => kernel_rfl
  case hfu1034 => kernel_rfl
  case hru1034 => kernel_rfl
  case hzu1034 => kernel_rfl
  case hQu1034 => exact fun _ _ _ h => h
  case hwu1034 => rfl
  case hyu1034 => (intro w hSw; (try dsimp only at hSw); go_simp; (try with_reducible rfl))
  try simp only [Act.put, List.setIfInBounds_toArray, List.set_cons_zero, List.set_cons_succ]
  refine' wpTail_take (i := 1) (oi := _) ?hiu1035 ?hsu1035 ?hfu1035 ?hru1035 ?hzu1035 ?hQu1035 (v := _) (Or.inl ⟨?hwu1035, ?hyu1035⟩) (⟨(WB.at_ H4d (.head _)).cell 0, (WB.at_ H4d (.head _)).cell 1, (WB.at_ H4d (.tail _ (.head _))).cell 0, (WB.at_ H4d (.tail _ (.head _))).cell 1, (WB.at_ H4d (.tail _ (.tail _ (.head _)))).cell 0, (WB.at_ H4d (.tail _ (.tail _ (.head _)))).cell 1⟩) ?_
  case hiu1035 => (simp only [List.getElem?_toArray, List.getElem?_cons_succ, List.getElem?_cons_zero]; exact rfl)
  case hsu1035 => kernel_rfl
  case hfu1035 => kernel_rfl
  case hru1035 => kernel_rfl
  case hzu1035 => kernel_rfl
  case hQu1035 => exact fun _ _ _ h => h
  case hwu1035 => rfl
  case hyu1035 => (intro w hSw; (try dsimp only at hSw); go_simp; (try with_reducible rfl))
  try simp only [Act.put, List.setIfInBounds_toArray, List.set_cons_zero, List.set_cons_succ]
  refine' wpTail_take (i := 2) (oi := _) ?hiu1036 ?hsu1036 ?hfu1036 ?hru1036 ?hzu1036 ?hQu1036 (v := _) (Or.inl ⟨?hwu1036, ?hyu1036⟩) (⟨(WB.at_ H4d (.head _)).cell 0, (WB.at_ H4d (.head _)).cell 1, (WB.at_ H4d (.tail _ (.head _))).cell 0, (WB.at_ H4d (.tail _ (.head _))).cell 1, (WB.at_ H4d (.tail _ (.tail _ (.head _)))).cell 0, (WB.at_ H4d (.tail _ (.tail _ (.head _)))).cell 1⟩) ?_
  case hiu1036 => (simp only [List.getElem?_toArray, List.getElem?_cons_succ, List.getElem?_cons_zero]; exact rfl)
  case hsu1036 => kernel_rfl
  case hfu1036 => kernel_rfl
  case hru1036 => kernel_rfl
  case hzu1036 => kernel_rfl
  case hQu1036 => exact fun _ _ _ h => h
  case hwu1036 => rfl
  case hyu1036 => (intro w hSw; (try dsimp only at hSw); go_simp; (try with_reducible rfl))
  try simp only [Act.put, List.setIfInBounds_toArray, List.set_cons_zero, List.set_cons_succ]
  refine' wpTail_take (i := 3) (oi := _) ?hiu1037 ?hsu1037 ?hfu1037 ?hru1037 ?hzu1037 ?hQu1037 (v := _) (Or.inl ⟨?hwu1037, ?hyu1037⟩) (⟨(WB.at_ H4d (.head _)).cell 0, (WB.at_ H4d (.head _)).cell 1, (WB.at_ H4d (.tail _ (.head _))).cell 0, (WB.at_ H4d (.tail _ (.head _))).cell 1, (WB.at_ H4d (.tail _ (.tail _ (.head _)))).cell 0, (WB.at_ H4d (.tail _ (.tail _ (.head _)))).cell 1⟩) ?_
  case hiu1037 => (simp only [List.getElem?_toArray, List.getElem?_cons_succ, List.getElem?_cons_zero]; exact rfl)
  case hsu1037 => kernel_rfl
  case hfu1037 => kernel_rfl
  case hru1037 => kernel_rfl
  case hzu1037 => kernel_rfl
  case hQu1037 => exact fun _ _ _ h => h
  case hwu1037 => rfl
  case hyu1037 => (intro w hSw; (try dsimp only at hSw); go_simp; (try with_reducible rfl))
  try simp only [Act.put, List.setIfInBounds_toArray, List.set_cons_zero, List.set_cons_succ]
  refine' wpTail_one (i := 4) (o := _) (by kernel_rfl) ?hou1038 ?hwu1038 (fun K hK => ?_)
  case hou1038 => (simp only [List.getElem?_toArray, List.getElem?_cons_succ, List.getElem?_cons_zero]; exact rfl)
  case hwu1038 => rfl
  go_simp
  (with_reducible refine (print_max _).mono ?_)
  rintro e v21 ⟨rfl, hb21⟩
  have M21 := WB.next hb21 H4d
  refine hK.out _ _ (fun _ => ⟨(WB.at_ M21 (.head _)).cell 0, (WB.at_ M21 (.head _)).cell 1, (WB.at_ M21 (.tail _ (.head _))).cell 0, (WB.at_ M21 (.tail _ (.head _))).cell 1, (WB.at_ M21 (.tail _ (.tail _ (.head _)))).cell 0, (WB.at_ M21 (.tail _ (.tail _ (.head _)))).cell 1⟩) ?_
  clear hK K hb21 H4d
  try simp only [Act.put, List.setIfInBounds_toArray, List.set_cons_zero, List.set_cons_succ]
  refine' wpTail_take (i := 5) (oi := _) ?hiu1039 ?hsu1039 ?hfu1039 ?hru1039 ?hzu1039 ?hQu1039 (v := _) (Or.inl ⟨?hwu1039, ?hyu1039⟩) (⟨(WB.at_ M21 (.head _)).cell 0, (WB.at_ M21 (.head _)).cell 1, (WB.at_ M21 (.tail _ (.head _))).cell 0, (WB.at_ M21 (.tail _ (.head _))).cell 1, (WB.at_ M21 (.tail _ (.tail _ (.head _)))).cell 0, (WB.at_ M21 (.tail _ (.tail _ (.head _)))).cell 1⟩) ?_
  case hiu1039 => (simp only [List.getElem?_toArray, List.getElem?_cons_succ, List.getElem?_cons_zero]; exact rfl)
  case hsu1039 => kernel_rfl
  case hfu1039 => kernel_rfl
  case hru1039 => kernel_rfl
  case hzu1039 => kernel_rfl
  case hQu1039 => exact fun _ _ _ h => h
  case hwu1039 => rfl
  case hyu1039 => (intro w hSw; (try dsimp only at hSw); go_simp; (try with_reducible rfl))
  try simp only [Act.put, List.setIfInBounds_toArray, List.set_cons_zero, List.set_cons_succ]
  refine' wpTail_take (i := 6) (oi := _) ?hiu1040 ?hsu1040 ?hfu1040 ?hru1040 ?hzu1040 ?hQu1040 (v := _) (Or.inl ⟨?hwu1040, ?hyu1040⟩) (⟨(WB.at_ M21 (.head _)).cell 0, (WB.at_ M21 (.head _)).cell 1, (WB.at_ M21 (.tail _ (.head _))).cell 0, (WB.at_ M21 (.tail _ (.head _))).cell 1, (WB.at_ M21 (.tail _ (.tail _ (.head _)))).cell 0, (WB.at_ M21 (.tail _ (.tail _ (.head _)))).cell 1⟩) ?_
  case hiu1040 => (simp only [List.getElem?_toArray, List.getElem?_cons_succ, List.getElem?_cons_zero]; exact rfl)
  case hsu1040 => kernel_rfl
  case hfu1040 => kernel_rfl
  case hru1040 => kernel_rfl
  case hzu1040 => kernel_rfl
  case hQu1040 => exact fun _ _ _ h => h
  case hwu1040 => rfl
  case hyu1040 => (intro w hSw; (try dsimp only at hSw); go_simp; (try with_reducible rfl))
  try simp only [Act.put, List.setIfInBounds_toArray, List.set_cons_zero, List.set_cons_succ]
  refine' wpTail_take (i := 7) (oi := _) ?hiu1041 ?hsu1041 ?hfu1041 ?hru1041 ?hzu1041 ?hQu1041 (v := _) (Or.inl ⟨?hwu1041, ?hyu1041⟩) (⟨(WB.at_ M21 (.head _)).cell 0, (WB.at_ M21 (.head _)).cell 1, (WB.at_ M21 (.tail _ (.head _))).cell 0, (WB.at_ M21 (.tail _ (.head _))).cell 1, (WB.at_ M21 (.tail _ (.tail _ (.head _)))).cell 0, (WB.at_ M21 (.tail _ (.tail _ (.head _)))).cell 1⟩) ?_
  case hiu1041 => (simp only [List.getElem?_toArray, List.getElem?_cons_succ, List.getElem?_cons_zero]; exact rfl)
  case hsu1041 => kernel_rfl
  case hfu1041 => kernel_rfl
  case hru1041 => kernel_rfl
  case hzu1041 => kernel_rfl
  case hQu1041 => exact fun _ _ _ h => h
  case hwu1041 => rfl
  case hyu1041 => (intro w hSw; (try dsimp only at hSw); go_simp; (try with_reducible rfl))
  try simp only [Act.put, List.setIfInBounds_toArray, List.set_cons_zero, List.set_cons_succ]
  refine' wpTail_take (i := 8) (oi := _) ?hiu1042 ?hsu1042 ?hfu1042 ?hru1042 ?hzu1042 ?hQu1042 (v := _) (Or.inl ⟨?hwu1042, ?hyu1042⟩) (⟨(WB.at_ M21 (.head _)).cell 0, (WB.at_ M21 (.head _)).cell 1, (WB.at_ M21 (.tail _ (.head _))).cell 0, (WB.at_ M21 (.tail _ (.head _))).cell 1, (WB.at_ M21 (.tail _ (.tail _ (.head _)))).cell 0, (WB.at_ M21 (.tail _ (.tail _ (.head _)))).cell 1⟩) ?_
  case hiu1042 => (simp only [List.getElem?_toArray, List.getElem?_cons_succ, List.getElem?_cons_zero]; exact rfl)
  case hsu1042 => kernel_rfl
  case hfu1042 => kernel_rfl
  case hru1042 => kernel_rfl
  case hzu1042 => kernel_rfl
  case hQu1042 => exact fun _ _ _ h => h
  case hwu1042 => rfl
  case hyu1042 => (intro w hSw; (try dsimp only at hSw); go_simp; (try with_reducible rfl))
  try simp only [Act.put, List.setIfInBounds_toArray, List.set_cons_zero, List.set_cons_succ]
  refine' wpTail_take (i := 9) (oi := _) ?hiu1043 ?hsu1043 ?hfu1043 ?hru1043 ?hzu1043 ?hQu1043 (v := _) (Or.inl ⟨?hwu1043, ?hyu1043⟩) (⟨(WB.at_ M21 (.head _)).cell 0, (WB.at_ M21 (.head _)).cell 1, (WB.at_ M21 (.tail _ (.head _))).cell 0, (WB.at_ M21 (.tail _ (.head _))).cell 1, (WB.at_ M21 (.tail _ (.tail _ (.head _)))).cell 0, (WB.at_ M21 (.tail _ (.tail _ (.head _)))).cell 1⟩) ?_
  case hiu1043 => (simp only [List.getElem?_toArray, List.getElem?_cons_succ, List.getElem?_cons_zero]; exact rfl)
  case hsu1043 => kernel_rfl
  case hfu1043 => kernel_rfl
  case hru1043 => kernel_rfl
  case hzu1043 => kernel_rfl
  case hQu1043 => exact fun _ _ _ h => h
  case hwu1043 => rfl
  case hyu1043 => (intro w hSw; (try dsimp only at hSw); go_simp; (try with_reducible rfl))
  try simp only [Act.put, List.setIfInBounds_toArray, List.set_cons_zero, List.set_cons_succ]
  refine' wpTail_take (i := 10) (oi := _) ?hiu1044 ?hsu1044 ?hfu1044 ?hru1044 ?hzu1044 ?hQu1044 (v := _) (Or.inl ⟨?hwu1044, ?hyu1044⟩) (⟨(WB.at_ M21 (.head _)).cell 0, (WB.at_ M21 (.head _)).cell 1, (WB.at_ M21 (.tail _ (.head _))).cell 0, (WB.at_ M21 (.tail _ (.head _))).cell 1, (WB.at_ M21 (.tail _ (.tail _ (.head _)))).cell 0, (WB.at_ M21 (.tail _ (.tail _ (.head _)))).cell 1⟩) ?_
  case hiu1044 => (simp only [List.getElem?_toArray, List.getElem?_cons_succ, List.getElem?_cons_zero]; exact rfl)
  case hsu1044 => kernel_rfl
  case hfu1044 => kernel_rfl
  case hru1044 => kernel_rfl
  case hzu1044 => kernel_rfl
  case hQu1044 => exact fun _ _ _ h => h
  case hwu1044 => rfl
  case hyu1044 => (intro w hSw; (try dsimp only at hSw); go_simp; (try with_reducible rfl))
  try simp only [Act.put, List.setIfInBounds_toArray, List.set_cons_zero, List.set_cons_succ]
  refine' wpTail_take (i := 11) (oi := _) ?hiu1045 ?hsu1045 ?hfu1045 ?hru1045 ?hzu1045 ?hQu1045 (v := _) (Or.inl ⟨?hwu1045, ?hyu1045⟩) (⟨(WB.at_ M21 (.head _)).cell 0, (WB.at_ M21 (.head _)).cell 1, (WB.at_ M21 (.tail _ (.head _))).cell 0, (WB.at_ M21 (.tail _ (.head _))).cell 1, (WB.at_ M21 (.tail _ (.tail _ (.head _)))).cell 0, (WB.at_ M21 (.tail _ (.tail _ (.head _)))).cell 1⟩) ?_
  case hiu1045 => (simp only [List.getElem?_toArray, List.getElem?_cons_succ, List.getElem?_cons_zero]; exact rfl)
  case hsu1045 => kernel_rfl
  case hfu1045 => kernel_rfl
  case hru1045 => kernel_rfl
  case hzu1045 => kernel_rfl
  case hQu1045 => exact fun _ _ _ h => h
  case hwu1045 => rfl
  case hyu1045 => (intro w hSw; (try dsimp only at hSw); go_simp; (try with_reducible rfl))
  try simp only [Act.put, List.setIfInBounds_toArray, List.set_cons_zero, List.set_cons_succ]
  refine' wpTail_take (i := 12) (oi := _) ?hiu1046 ?hsu1046 ?hfu1046 ?hru1046 ?hzu1046 ?hQu1046 (v := _) (Or.inl ⟨?hwu1046, ?hyu1046⟩) (⟨(WB.at_ M21 (.head _)).cell 0, (WB.at_ M21 (.head _)).cell 1, (WB.at_ M21 (.tail _ (.head _))).cell 0, (WB.at_ M21 (.tail _ (.head _))).cell 1, (WB.at_ M21 (.tail _ (.tail _ (.head _)))).cell 0, (WB.at_ M21 (.tail _ (.tail _ (.head _)))).cell 1⟩) ?_
  case hiu1046 => (simp only [List.getElem?_toArray, List.getElem?_cons_succ, List.getElem?_cons_zero]; exact rfl)
  case hsu1046 => kernel_rfl
  case hfu1046 => kernel_rfl
  case hru1046 => kernel_rfl
  case hzu1046 => kernel_rfl
  case hQu1046 => exact fun _ _ _ h => h
  case hwu1046 => rfl
  case hyu1046 => (intro w hSw; (try dsimp only at hSw); go_simp; (try with_reducible rfl))
  try simp only [Act.put, List.setIfInBounds_toArray, List.set_cons_zero, List.set_cons_succ]
  refine' wpTail_one (i := 13) (o := _) (by kernel_rfl) ?hou1047 ?hwu1047 (fun K hK => ?_)
  case hou1047 => (simp only [List.getElem?_toArray, List.getElem?_cons_succ, List.getElem?_cons_zero]; exact rfl)
  case hwu1047 => rfl
  go_simp
  (with_reducible refine (of_val (-3) 18446744073709551615 18446744073709551613 (by decide) (by decide) (by decide) _).mono ?_)
  rintro e v22 ⟨rfl, hb22⟩
  have M22 := WB.next hb22 M21
  refine hK.out _ _ (fun _ => ⟨(WB.at_ M22 (.head _)).cell 0, (WB.at_ M22 (.head _)).cell 1, (WB.at_ M22 (.tail _ (.head _))).cell 0, (WB.at_ M22 (.tail _ (.head _))).cell 1, (WB.at_ M22 (.tail _ (.tail _ (.head _)))).cell 0, (WB.at_ M22 (.tail _ (.tail _ (.head _)))).cell 1⟩) ?_
  clear hK K hb22 M21
  try simp only [Act.put, List.setIfInBounds_toArray, List.set_cons_zero, List.set_cons_succ]
  refine' wpTail_take (i := 14) (oi := _) ?hiu1048 ?hsu1048 ?hfu1048 ?hru1048 ?hzu1048 ?hQu1048 (v := _) (Or.inl ⟨?hwu1048, ?hyu1048⟩) (⟨(WB.at_ M22 (.head _)).cell 0, (WB.at_ M22 (.head _)).cell 1, (WB.at_ M22 (.tail _ (.head _))).cell 0, (WB.at_ M22 (.tail _ (.head _))).cell 1, (WB.at_ M22 (.tail _ (.tail _ (.head _)))).cell 0, (WB.at_ M22 (.tail _ (.tail _ (.head _)))).cell 1⟩) ?_
  case hiu1048 => (simp only [List.getElem?_toArray, List.getElem?_cons_succ, List.getElem?_cons_zero]; exact rfl)
  case hsu1048 => kernel_rfl
  case hfu1048 => kernel_rfl
  case hru1048 => kernel_rfl
  case hzu1048 => kernel_rfl
  case hQu1048 => exact fun _ _ _ h => h
  case hwu1048 => rfl
  case hyu1048 => (intro w hSw; (try dsimp only at hSw); go_simp; (try with_reducible rfl))
  try simp only [Act.put, List.setIfInBounds_toArray, List.set_cons_zero, List.set_cons_succ]
  refine' wpTail_take (i := 15) (oi := _) ?hiu1049 ?hsu1049 ?hfu1049 ?hru1049 ?hzu1049 ?hQu1049 (v := _) (Or.inl ⟨?hwu1049, ?hyu1049⟩) (⟨(WB.at_ M22 (.head _)).cell 0, (WB.at_ M22 (.head _)).cell 1, (WB.at_ M22 (.tail _ (.head _))).cell 0, (WB.at_ M22 (.tail _ (.head _))).cell 1, (WB.at_ M22 (.tail _ (.tail _ (.head _)))).cell 0, (WB.at_ M22 (.tail _ (.tail _ (.head _)))).cell 1⟩) ?_
  case hiu1049 => (simp only [List.getElem?_toArray, List.getElem?_cons_succ, List.getElem?_cons_zero]; exact rfl)
  case hsu1049 => kernel_rfl
  case hfu1049 => kernel_rfl
  case hru1049 => kernel_rfl
  case hzu1049 => kernel_rfl
  case hQu1049 => exact fun _ _ _ h => h
  case hwu1049 => rfl
  case hyu1049 => (intro w hSw; (try dsimp only at hSw); go_simp; (try with_reducible rfl))
  try simp only [Act.put, List.setIfInBounds_toArray, List.set_cons_zero, List.set_cons_succ]
  refine' wpTail_take (i := 16) (oi := _) ?hiu1050 ?hsu1050 ?hfu1050 ?hru1050 ?hzu1050 ?hQu1050 (v := _) (Or.inl ⟨?hwu1050, ?hyu1050⟩) (⟨(WB.at_ M22 (.head _)).cell 0, (WB.at_ M22 (.head _)).cell 1, (WB.at_ M22 (.tail _ (.head _))).cell 0, (WB.at_ M22 (.tail _ (.head _))).cell 1, (WB.at_ M22 (.tail _ (.tail _ (.head _)))).cell 0, (WB.at_ M22 (.tail _ (.tail _ (.head _)))).cell 1⟩) ?_
  case hiu1050 => (simp only [List.getElem?_toArray, List.getElem?_cons_succ, List.getElem?_cons_zero]; exact rfl)
  case hsu1050 => kernel_rfl
  case hfu1050 => kernel_rfl
  case hru1050 => kernel_rfl
  case hzu1050 => kernel_rfl
  case hQu1050 => exact fun _ _ _ h => h
  case hwu1050 => rfl
  case hyu1050 => (intro w hSw; (try dsimp only at hSw); go_simp; (try with_reducible rfl))
  try simp only [Act.put, List.setIfInBounds_toArray, List.set_cons_zero, List.set_cons_succ]
  refine' wpTail_take (i := 17) (oi := _) ?hiu1051 ?hsu1051 ?hfu1051 ?hru1051 ?hzu1051 ?hQu1051 (v := _) (Or.inl ⟨?hwu1051, ?hyu1051⟩) (⟨(WB.at_ M22 (.head _)).cell 0, (WB.at_ M22 (.head _)).cell 1, (WB.at_ M22 (.tail _ (.head _))).cell 0, (WB.at_ M22 (.tail _ (.head _))).cell 1, (WB.at_ M22 (.tail _ (.tail _ (.head _)))).cell 0, (WB.at_ M22 (.tail _ (.tail _ (.head _)))).cell 1⟩) ?_
  case hiu1051 => (simp only [List.getElem?_toArray, List.getElem?_cons_succ, List.getElem?_cons_zero]; exact rfl)
  case hsu1051 => kernel_rfl
  case hfu1051 => kernel_rfl
  case hru1051 => kernel_rfl
  case hzu1051 => kernel_rfl
  case hQu1051 => exact fun _ _ _ h => h
  case hwu1051 => rfl
  case hyu1051 => (intro w hSw; (try dsimp only at hSw); go_simp; (try with_reducible rfl))
  try simp only [Act.put, List.setIfInBounds_toArray, List.set_cons_zero, List.set_cons_succ]
  refine' wpTail_take (i := 18) (oi := _) ?hiu1052 ?hsu1052 ?hfu1052 ?hru1052 ?hzu1052 ?hQu1052 (v := _) (Or.inl ⟨?hwu1052, ?hyu1052⟩) (⟨(WB.at_ M22 (.head _)).cell 0, (WB.at_ M22 (.head _)).cell 1, (WB.at_ M22 (.tail _ (.head _))).cell 0, (WB.at_ M22 (.tail _ (.head _))).cell 1, (WB.at_ M22 (.tail _ (.tail _ (.head _)))).cell 0, (WB.at_ M22 (.tail _ (.tail _ (.head _)))).cell 1⟩) ?_
  case hiu1052 => (simp only [List.getElem?_toArray, List.getElem?_cons_succ, List.getElem?_cons_zero]; exact rfl)
  case hsu1052 => kernel_rfl
  case hfu1052 => kernel_rfl
  case hru1052 => kernel_rfl
  case hzu1052 => kernel_rfl
  case hQu1052 => exact fun _ _ _ h => h
  case hwu1052 => rfl
  case hyu1052 => (intro w hSw; (try dsimp only at hSw); go_simp; (try with_reducible rfl))
  try simp only [Act.put, List.setIfInBounds_toArray, List.set_cons_zero, List.set_cons_succ]
  refine' wpTail_take (i := 19) (oi := _) ?hiu1053 ?hsu1053 ?hfu1053 ?hru1053 ?hzu1053 ?hQu1053 (v := _) (Or.inl ⟨?hwu1053, ?hyu1053⟩) (⟨(WB.at_ M22 (.head _)).cell 0, (WB.at_ M22 (.head _)).cell 1, (WB.at_ M22 (.tail _ (.head _))).cell 0, (WB.at_ M22 (.tail _ (.head _))).cell 1, (WB.at_ M22 (.tail _ (.tail _ (.head _)))).cell 0, (WB.at_ M22 (.tail _ (.tail _ (.head _)))).cell 1⟩) ?_
  case hiu1053 => (simp only [List.getElem?_toArray, List.getElem?_cons_succ, List.getElem?_cons_zero]; exact rfl)
  case hsu1053 => kernel_rfl
  case hfu1053 => kernel_rfl
  case hru1053 => kernel_rfl
  case hzu1053 => kernel_rfl
  case hQu1053 => exact fun _ _ _ h => h
  case hwu1053 => rfl
  case hyu1053 => (intro w hSw; (try dsimp only at hSw); go_simp; (try with_reducible rfl))
  try simp only [Act.put, List.setIfInBounds_toArray, List.set_cons_zero, List.set_cons_succ]
  refine' wpTail_take (i := 20) (oi := _) ?hiu1054 ?hsu1054 ?hfu1054 ?hru1054 ?hzu1054 ?hQu1054 (v := _) (Or.inl ⟨?hwu1054, ?hyu1054⟩) (⟨(WB.at_ M22 (.head _)).cell 0, (WB.at_ M22 (.head _)).cell 1, (WB.at_ M22 (.tail _ (.head _))).cell 0, (WB.at_ M22 (.tail _ (.head _))).cell 1, (WB.at_ M22 (.tail _ (.tail _ (.head _)))).cell 0, (WB.at_ M22 (.tail _ (.tail _ (.head _)))).cell 1⟩) ?_
  case hiu1054 => (simp only [List.getElem?_toArray, List.getElem?_cons_succ, List.getElem?_cons_zero]; exact rfl)
  case hsu1054 => kernel_rfl
  case hfu1054 => kernel_rfl
  case hru1054 => kernel_rfl
  case hzu1054 => kernel_rfl
  case hQu1054 => exact fun _ _ _ h => h
  case hwu1054 => rfl
  case hyu1054 => (intro w hSw; (try dsimp only at hSw); go_simp; (try with_reducible rfl))
  try simp only [Act.put, List.setIfInBounds_toArray, List.set_cons_zero, List.set_cons_succ]
  refine' wpTail_take (i := 21) (oi := _) ?hiu1055 ?hsu1055 ?hfu1055 ?hru1055 ?hzu1055 ?hQu1055 (v := _) (Or.inl ⟨?hwu1055, ?hyu1055⟩) (⟨(WB.at_ M22 (.head _)).cell 0, (WB.at_ M22 (.head _)).cell 1, (WB.at_ M22 (.tail _ (.head _))).cell 0, (WB.at_ M22 (.tail _ (.head _))).cell 1, (WB.at_ M22 (.tail _ (.tail _ (.head _)))).cell 0, (WB.at_ M22 (.tail _ (.tail _ (.head _)))).cell 1⟩) ?_
  case hiu1055 => (simp only [List.getElem?_toArray, List.getElem?_cons_succ, List.getElem?_cons_zero]; exact rfl)
  case hsu1055 => kernel_rfl
  case hfu1055 => kernel_rfl
  case hru1055 => kernel_rfl
  case hzu1055 => kernel_rfl
  case hQu1055 => exact fun _ _ _ h => h
  case hwu1055 => rfl
  case hyu1055 => (intro w hSw; (try dsimp only at hSw); go_simp; (try with_reducible rfl))
  try simp only [Act.put, List.setIfInBounds_toArray, List.set_cons_zero, List.set_cons_succ]
  refine' wpTail_one (i := 22) (o := _) (by kernel_rfl) ?hou1056 ?hwu1056 (fun K hK => ?_)
  case hou1056 => (simp only [List.getElem?_toArray, List.getElem?_cons_succ, List.getElem?_cons_zero]; exact rfl)
  case hwu1056 => rfl
  go_simp
  (with_reducible refine (of_val (-1) 18446744073709551615 18446744073709551615 (by decide) (by decide) (by decide) _).mono ?_)
  rintro e v23 ⟨rfl, hb23⟩
  have M23 := WB.next hb23 M22
  refine hK.out _ _ (fun _ => ⟨(WB.at_ M23 (.head _)).cell 0, (WB.at_ M23 (.head _)).cell 1, (WB.at_ M23 (.tail _ (.head _))).cell 0, (WB.at_ M23 (.tail _ (.head _))).cell 1, (WB.at_ M23 (.tail _ (.tail _ (.head _)))).cell 0, (WB.at_ M23 (.tail _ (.tail _ (.head _)))).cell 1⟩) ?_
  clear hK K hb23 M22
  try simp only [Act.put, List.setIfInBounds_toArray, List.set_cons_zero, List.set_cons_succ]
  refine' wpTail_take (i := 23) (oi := _) ?hiu1057 ?hsu1057 ?hfu1057 ?hru1057 ?hzu1057 ?hQu1057 (v := _) (Or.inl ⟨?hwu1057, ?hyu1057⟩) (⟨(WB.at_ M23 (.head _)).cell 0, (WB.at_ M23 (.head _)).cell 1, (WB.at_ M23 (.tail _ (.head _))).cell 0, (WB.at_ M23 (.tail _ (.head _))).cell 1, (WB.at_ M23 (.tail _ (.tail _ (.head _)))).cell 0, (WB.at_ M23 (.tail _ (.tail _ (.head _)))).cell 1⟩) ?_
  case hiu1057 => (simp only [List.getElem?_toArray, List.getElem?_cons_succ, List.getElem?_cons_zero]; exact rfl)
  case hsu1057 => kernel_rfl
  case hfu1057 => kernel_rfl
  case hru1057 => kernel_rfl
  case hzu1057 => kernel_rfl
  case hQu1057 => exact fun _ _ _ h => h
  case hwu1057 => rfl
  case hyu1057 => (intro w hSw; (try dsimp only at hSw); go_simp; (try with_reducible rfl))
  try simp only [Act.put, List.setIfInBounds_toArray, List.set_cons_zero, List.set_cons_succ]
  refine' wpTail_take (i := 24) (oi := _) ?hiu1058 ?hsu1058 ?hfu1058 ?hru1058 ?hzu1058 ?hQu1058 (v := _) (Or.inl ⟨?hwu1058, ?hyu1058⟩) (⟨(WB.at_ M23 (.head _)).cell 0, (WB.at_ M23 (.head _)).cell 1, (WB.at_ M23 (.tail _ (.head _))).cell 0, (WB.at_ M23 (.tail _ (.head _))).cell 1, (WB.at_ M23 (.tail _ (.tail _ (.head _)))).cell 0, (WB.at_ M23 (.tail _ (.tail _ (.head _)))).cell 1⟩) ?_
  case hiu1058 => (simp only [List.getElem?_toArray, List.getElem?_cons_succ, List.getElem?_cons_zero]; exact rfl)
  case hsu1058 => kernel_rfl
  case hfu1058 => kernel_rfl
  case hru1058 => kernel_rfl
  case hzu1058 => kernel_rfl
  case hQu1058 => exact fun _ _ _ h => h
  case hwu1058 => rfl
  case hyu1058 => (intro w hSw; (try dsimp only at hSw); go_simp; (try with_reducible rfl))
  try simp only [Act.put, List.setIfInBounds_toArray, List.set_cons_zero, List.set_cons_succ]
  refine' wpTail_take (i := 25) (oi := _) ?hiu1059 ?hsu1059 ?hfu1059 ?hru1059 ?hzu1059 ?hQu1059 (v := _) (Or.inl ⟨?hwu1059, ?hyu1059⟩) (⟨(WB.at_ M23 (.head _)).cell 0, (WB.at_ M23 (.head _)).cell 1, (WB.at_ M23 (.tail _ (.head _))).cell 0, (WB.at_ M23 (.tail _ (.head _))).cell 1, (WB.at_ M23 (.tail _ (.tail _ (.head _)))).cell 0, (WB.at_ M23 (.tail _ (.tail _ (.head _)))).cell 1⟩) ?_
  case hiu1059 => (simp only [List.getElem?_toArray, List.getElem?_cons_succ, List.getElem?_cons_zero]; exact rfl)
  case hsu1059 => kernel_rfl
  case hfu1059 => kernel_rfl
  case hru1059 => kernel_rfl
  case hzu1059 => kernel_rfl
  case hQu1059 => exact fun _ _ _ h => h
  case hwu1059 => rfl
  case hyu1059 => (intro w hSw; (try dsimp only at hSw); go_simp; (try with_reducible rfl))
  try simp only [Act.put, List.setIfInBounds_toArray, List.set_cons_zero, List.set_cons_succ]
  refine' wpTail_take (i := 26) (oi := _) ?hiu1060 ?hsu1060 ?hfu1060 ?hru1060 ?hzu1060 ?hQu1060 (v := _) (Or.inl ⟨?hwu1060, ?hyu1060⟩) (⟨(WB.at_ M23 (.head _)).cell 0, (WB.at_ M23 (.head _)).cell 1, (WB.at_ M23 (.tail _ (.head _))).cell 0, (WB.at_ M23 (.tail _ (.head _))).cell 1, (WB.at_ M23 (.tail _ (.tail _ (.head _)))).cell 0, (WB.at_ M23 (.tail _ (.tail _ (.head _)))).cell 1⟩) ?_
  case hiu1060 => (simp only [List.getElem?_toArray, List.getElem?_cons_succ, List.getElem?_cons_zero]; exact rfl)
  case hsu1060 => kernel_rfl
  case hfu1060 => kernel_rfl
  case hru1060 => kernel_rfl
  case hzu1060 => kernel_rfl
  case hQu1060 => exact fun _ _ _ h => h
  case hwu1060 => rfl
  case hyu1060 => (intro w hSw; (try dsimp only at hSw); go_simp; (try with_reducible rfl))
  try simp only [Act.put, List.setIfInBounds_toArray, List.set_cons_zero, List.set_cons_succ]
  refine' wpTail_take (i := 27) (oi := _) ?hiu1061 ?hsu1061 ?hfu1061 ?hru1061 ?hzu1061 ?hQu1061 (v := _) (Or.inl ⟨?hwu1061, ?hyu1061⟩) (⟨(WB.at_ M23 (.head _)).cell 0, (WB.at_ M23 (.head _)).cell 1, (WB.at_ M23 (.tail _ (.head _))).cell 0, (WB.at_ M23 (.tail _ (.head _))).cell 1, (WB.at_ M23 (.tail _ (.tail _ (.head _)))).cell 0, (WB.at_ M23 (.tail _ (.tail _ (.head _)))).cell 1⟩) ?_
  case hiu1061 => (simp only [List.getElem?_toArray, List.getElem?_cons_succ, List.getElem?_cons_zero]; exact rfl)
  case hsu1061 => kernel_rfl
  case hfu1061 => kernel_rfl
  case hru1061 => kernel_rfl
  case hzu1061 => kernel_rfl
  case hQu1061 => exact fun _ _ _ h => h
  case hwu1061 => rfl
  case hyu1061 => (intro w hSw; (try dsimp only at hSw); go_simp; (try with_reducible rfl))
  try simp only [Act.put, List.setIfInBounds_toArray, List.set_cons_zero, List.set_cons_succ]
  refine' wpTail_take (i := 28) (oi := _) ?hiu1062 ?hsu1062 ?hfu1062 ?hru1062 ?hzu1062 ?hQu1062 (v := _) (Or.inl ⟨?hwu1062, ?hyu1062⟩) (⟨(WB.at_ M23 (.head _)).cell 0, (WB.at_ M23 (.head _)).cell 1, (WB.at_ M23 (.tail _ (.head _))).cell 0, (WB.at_ M23 (.tail _ (.head _))).cell 1, (WB.at_ M23 (.tail _ (.tail _ (.head _)))).cell 0, (WB.at_ M23 (.tail _ (.tail _ (.head _)))).cell 1⟩) ?_
  case hiu1062 => (simp only [List.getElem?_toArray, List.getElem?_cons_succ, List.getElem?_cons_zero]; exact rfl)
  case hsu1062 => kernel_rfl
  case hfu1062 => kernel_rfl
  case hru1062 => kernel_rfl
  case hzu1062 => kernel_rfl
  case hQu1062 => exact fun _ _ _ h => h
  case hwu1062 => rfl
  case hyu1062 => (intro w hSw; (try dsimp only at hSw); go_simp; (try with_reducible rfl))
  try simp only [Act.put, List.setIfInBounds_toArray, List.set_cons_zero, List.set_cons_succ]
  refine' wpTail_take (i := 29) (oi := _) ?hiu1063 ?hsu1063 ?hfu1063 ?hru1063 ?hzu1063 ?hQu1063 (v := _) (Or.inl ⟨?hwu1063, ?hyu1063⟩) (⟨(WB.at_ M23 (.head _)).cell 0, (WB.at_ M23 (.head _)).cell 1, (WB.at_ M23 (.tail _ (.head _))).cell 0, (WB.at_ M23 (.tail _ (.head _))).cell 1, (WB.at_ M23 (.tail _ (.tail _ (.head _)))).cell 0, (WB.at_ M23 (.tail _ (.tail _ (.head _)))).cell 1⟩) ?_
  case hiu1063 => (simp only [List.getElem?_toArray, List.getElem?_cons_succ, List.getElem?_cons_zero]; exact rfl)
  case hsu1063 => kernel_rfl
  case hfu1063 => kernel_rfl
  case hru1063 => kernel_rfl
  case hzu1063 => kernel_rfl
  case hQu1063 => exact fun _ _ _ h => h
  case hwu1063 => rfl
  case hyu1063 => (intro w hSw; (try dsimp only at hSw); go_simp; (try with_reducible rfl))
  try simp only [Act.put, List.setIfInBounds_toArray, List.set_cons_zero, List.set_cons_succ]
  refine' wpTail_take (i := 30) (oi := _) ?hiu1064 ?hsu1064 ?hfu1064 ?hru1064 ?hzu1064 ?hQu1064 (v := _) (Or.inl ⟨?hwu1064, ?hyu1064⟩) (⟨(WB.at_ M23 (.head _)).cell 0, (WB.at_ M23 (.head _)).cell 1, (WB.at_ M23 (.tail _ (.head _))).cell 0, (WB.at_ M23 (.tail _ (.head _))).cell 1, (WB.at_ M23 (.tail _ (.tail _ (.head _)))).cell 0, (WB.at_ M23 (.tail _ (.tail _ (.head _)))).cell 1⟩) ?_
  case hiu1064 => (simp only [List.getElem?_toArray, List.getElem?_cons_succ, List.getElem?_cons_zero]; exact rfl)
  case hsu1064 => kernel_rfl
  case hfu1064 => kernel_rfl
  case hru1064 => kernel_rfl
  case hzu1064 => kernel_rfl
  case hQu1064 => exact fun _ _ _ h => h
  case hwu1064 => rfl
  case hyu1064 => (intro w hSw; (try dsimp only at hSw); go_simp; (try with_reducible rfl))
  try simp only [Act.put, List.setIfInBounds_toArray, List.set_cons_zero, List.set_cons_succ]
  refine' wpTail_one (i := 31) (o := _) (by kernel_rfl) ?hou1065 ?hwu1065 (fun K hK => ?_)
  case hou1065 => (simp only [List.getElem?_toArray, List.getElem?_cons_succ, List.getElem?_cons_zero]; exact rfl)
  case hwu1065 => rfl
  go_simp
  (with_reducible refine (print_m1 _).mono ?_)
  rintro e v24 ⟨rfl, hb24⟩
  have M24 := WB.next hb24 M23
  refine hK.out _ _ (fun _ => ⟨(WB.at_ M24 (.head _)).cell 0, (WB.at_ M24 (.head _)).cell 1, (WB.at_ M24 (.tail _ (.head _))).cell 0, (WB.at_ M24 (.tail _ (.head _))).cell 1, (WB.at_ M24 (.tail _ (.tail _ (.head _)))).cell 0, (WB.at_ M24 (.tail _ (.tail _ (.head _)))).cell 1⟩) ?_
  clear hK K hb24 M23
  try simp only [Act.put, List.setIfInBounds_toArray, List.set_cons_zero, List.set_cons_succ]
  refine' wpTail_take (i := 32) (oi := _) ?hiu1066 ?hsu1066 ?hfu1066 ?hru1066 ?hzu1066 ?hQu1066 (v := _) (Or.inl ⟨?hwu1066, ?hyu1066⟩) (⟨(WB.at_ M24 (.head _)).cell 0, (WB.at_ M24 (.head _)).cell 1, (WB.at_ M24 (.tail _ (.head _))).cell 0, (WB.at_ M24 (.tail _ (.head _))).cell 1, (WB.at_ M24 (.tail _ (.tail _ (.head _)))).cell 0, (WB.at_ M24 (.tail _ (.tail _ (.head _)))).cell 1⟩) ?_
  case hiu1066 => (simp only [List.getElem?_toArray, List.getElem?_cons_succ, List.getElem?_cons_zero]; exact rfl)
  case hsu1066 => kernel_rfl
  case hfu1066 => kernel_rfl
  case hru1066 => kernel_rfl
  case hzu1066 => kernel_rfl
  case hQu1066 => exact fun _ _ _ h => h
  case hwu1066 => rfl
  case hyu1066 => (intro w hSw; (try dsimp only at hSw); go_simp; (try with_reducible rfl))
  try simp only [Act.put, List.setIfInBounds_toArray, List.set_cons_zero, List.set_cons_succ]
  refine' wpTail_take (i := 33) (oi := _) ?hiu1067 ?hsu1067 ?hfu1067 ?hru1067 ?hzu1067 ?hQu1067 (v := _) (Or.inl ⟨?hwu1067, ?hyu1067⟩) (⟨(WB.at_ M24 (.head _)).cell 0, (WB.at_ M24 (.head _)).cell 1, (WB.at_ M24 (.tail _ (.head _))).cell 0, (WB.at_ M24 (.tail _ (.head _))).cell 1, (WB.at_ M24 (.tail _ (.tail _ (.head _)))).cell 0, (WB.at_ M24 (.tail _ (.tail _ (.head _)))).cell 1⟩) ?_
  case hiu1067 => (simp only [List.getElem?_toArray, List.getElem?_cons_succ, List.getElem?_cons_zero]; exact rfl)
  case hsu1067 => kernel_rfl
  case hfu1067 => kernel_rfl
  case hru1067 => kernel_rfl
  case hzu1067 => kernel_rfl
  case hQu1067 => exact fun _ _ _ h => h
  case hwu1067 => rfl
  case hyu1067 => (intro w hSw; (try dsimp only at hSw); go_simp; (try with_reducible rfl))
  try simp only [Act.put, List.setIfInBounds_toArray, List.set_cons_zero, List.set_cons_succ]
  refine' wpTail_take (i := 34) (oi := _) ?hiu1068 ?hsu1068 ?hfu1068 ?hru1068 ?hzu1068 ?hQu1068 (v := _) (Or.inl ⟨?hwu1068, ?hyu1068⟩) (⟨(WB.at_ M24 (.head _)).cell 0, (WB.at_ M24 (.head _)).cell 1, (WB.at_ M24 (.tail _ (.head _))).cell 0, (WB.at_ M24 (.tail _ (.head _))).cell 1, (WB.at_ M24 (.tail _ (.tail _ (.head _)))).cell 0, (WB.at_ M24 (.tail _ (.tail _ (.head _)))).cell 1⟩) ?_
  case hiu1068 => (simp only [List.getElem?_toArray, List.getElem?_cons_succ, List.getElem?_cons_zero]; exact rfl)
  case hsu1068 => kernel_rfl
  case hfu1068 => kernel_rfl
  case hru1068 => kernel_rfl
  case hzu1068 => kernel_rfl
  case hQu1068 => exact fun _ _ _ h => h
  case hwu1068 => rfl
  case hyu1068 => (intro w hSw; (try dsimp only at hSw); go_simp; (try with_reducible rfl))
  try simp only [Act.put, List.setIfInBounds_toArray, List.set_cons_zero, List.set_cons_succ]
  refine wpTail_done (by kernel_rfl) ?_ _
  go_wp2_with fail
  go_ret
  exact ⟨rfl, M24.out.low⟩
end Go.Proofs.YthedfplafcfklaaDoor
