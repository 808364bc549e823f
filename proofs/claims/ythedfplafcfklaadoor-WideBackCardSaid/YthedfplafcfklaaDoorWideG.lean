/- What WideBack answers; conditions: none but that the numbers are of 128 bits. -/
import Derived.Test.YthedfplafcfklaaDoorWideD
import Derived.Deep.DeepCutAuto
namespace Go.Proofs.YthedfplafcfklaaDoor
open Go.RowKit Go.WideShapes Go.ChangeShapes
set_option linter.unusedVariables false
set_option maxRecDepth 100000

set_option maxHeartbeats 8000000 in
theorem back_walk (ah al bh bl nh nl ne : Int) (sa sb : ByteArray) (neg : Bool) (h1 : 0 < sa.size) (hc : (((sa[0]'h1).toNat : Int) == 45) = neg)
    (HPA : Hid (∀ W, Calls Tryd.prog 28 #[wv ah al] W fun e w' => e = .returned (.string sa) ∧ Below W.heap.size W w')) (HPB : Hid (∀ W, Calls Tryd.prog 28 #[wv bh bl] W fun e w' => e = .returned (.string sb) ∧ Below W.heap.size W w'))
    (heq : Hid ((ah = bh ∧ al = bl ∧ sa = sb) ∨ ((sa.toList == sb.toList) = false ∧ ((¬ ah = bh) ∨ (ah = bh ∧ ¬ al = bl)))))
    (hfin : Hid ((neg = false ∧ ∀ W, Calls Tryd.prog 26 #[.string sa] W fun e w' => e = .returned (.tuple #[wv ah al, .int .i64 0]) ∧ Below W.heap.size W w') ∨
      (neg = true ∧ (∀ W, Calls Tryd.prog 13 #[wv ah al] W fun e w' => e = .returned (.tuple #[wv nh nl, .int .i64 ne]) ∧ Below W.heap.size W w') ∧
        ((ne = 10 ∧ ∀ W, Calls Tryd.prog 20 #[wv ah al, wv 0 0] W fun e w' => e = .returned (.int .i64 (-1)) ∧ Below W.heap.size W w') ∨
          (ne = 0 ∧ ∀ W, Calls Tryd.prog 28 #[wv nh nl] W fun e w' => e = .returned (.string (sa.extract 1 sa.size)) ∧ Below W.heap.size W w')))))
    (w : World) : Calls Tryd.prog 5 #[wv ah al, wv bh bl] w fun e w' => e = .returned (.bool true) ∧ Below w.heap.size w w' := by
  have hl : decide ((sa.size : Int) < 1) = false := decide_eq_false (by omega)
  have HL := hide hl
  have HCC := hide hc
  clear hl hc
  have H0 := hide (wb_new2 w ah al bh bl)
  obtain ⟨s, hs⟩ : ∃ s, s = w.heap.size := ⟨_, rfl⟩
  rw [← hs] at H0
  have HS := hide hs
  clear hs
  go_enter Tryd.func5, Tryd.ntmps5
  go_wp2_with fail
  rw [← HS.out]
  refine (awake01 _).mono ?_
  rintro e v1001 ⟨rfl, hb1001⟩
  have M1001 := WB.next hb1001 H0
  clear hb1001
  obtain ⟨q1002a, q1002b, q1002c, q1002d⟩ := two_cells (WB.at_ M1001 (.tail _ (.head _)))
  go_wp2_with fail
  refine (HPA.out _).mono ?_
  rintro e v1003 ⟨rfl, hb1003⟩
  have M1003 := WB.next hb1003 M1001
  clear hb1003
  clear q1002a q1002b q1002c q1002d
  have hl := HL.out
  go_upto_region 4 with (fail)
  go_cut [26] (fun s26 wx => s26 = .bool false ∧ Hid (WB w [(s + 1, bh, bl), (s, ah, al)] wx))
  case first =>
    rcases heq.out with ⟨rfl, rfl, rfl⟩ | ⟨hne, hw⟩
    · skip
      have H1004 := WB.drew M1003
      refine wp_region_tail 99 (fun w' => w'.cell? ⟨s, 0, none⟩ = some (.int .u64 ah) ∧ w'.cell? ⟨s, 1, none⟩ = some (.int .u64 al) ∧ w'.cell? ⟨s + 1, 0, none⟩ = some (.int .u64 ah) ∧ w'.cell? ⟨s + 1, 1, none⟩ = some (.int .u64 al)) (by kernel_rfl) ⟨(WB.at_ H1004 (.tail _ (.head _))).cell 0, (WB.at_ H1004 (.tail _ (.head _))).cell 1, (WB.at_ H1004 (.head _)).cell 0, (WB.at_ H1004 (.head _)).cell 1⟩ (fun hHeld => ?_)
      clear hHeld
      try simp only [Act.put, List.setIfInBounds_toArray, List.set_cons_zero, List.set_cons_succ]
      refine' wpTail_take (i := 0) (oi := _) ?hiu1005 ?hsu1005 ?hfu1005 ?hru1005 ?hzu1005 ?hQu1005 (v := _) (Or.inl ⟨?hwu1005, ?hyu1005⟩) (⟨(WB.at_ H1004 (.tail _ (.head _))).cell 0, (WB.at_ H1004 (.tail _ (.head _))).cell 1, (WB.at_ H1004 (.head _)).cell 0, (WB.at_ H1004 (.head _)).cell 1⟩) ?_
      case hiu1005 => (simp only [List.getElem?_toArray, List.getElem?_cons_zero]; exact rfl)
      case hsu1005 => kernel_rfl
      case hfu1005 => kernel_rfl
      case hru1005 => kernel_rfl
      case hzu1005 => kernel_rfl
      case hQu1005 => exact fun _ _ _ h => h
      case hwu1005 => rfl
      case hyu1005 => (intro w hSw; (try dsimp only at hSw); go_simp; (try with_reducible rfl))
      try simp only [Act.put, List.setIfInBounds_toArray, List.set_cons_zero, List.set_cons_succ]
      refine' wpTail_take (i := 1) (oi := _) ?hiu1006 ?hsu1006 ?hfu1006 ?hru1006 ?hzu1006 ?hQu1006 (v := _) (Or.inl ⟨?hwu1006, ?hyu1006⟩) (⟨(WB.at_ H1004 (.tail _ (.head _))).cell 0, (WB.at_ H1004 (.tail _ (.head _))).cell 1, (WB.at_ H1004 (.head _)).cell 0, (WB.at_ H1004 (.head _)).cell 1⟩) ?_
      case hiu1006 => (simp only [List.getElem?_toArray, List.getElem?_cons_succ, List.getElem?_cons_zero]; exact rfl)
      case hsu1006 => kernel_rfl
      case hfu1006 => kernel_rfl
      case hru1006 => kernel_rfl
      case hzu1006 => kernel_rfl
      case hQu1006 => exact fun _ _ _ h => h
      case hwu1006 => rfl
      case hyu1006 => (intro w hSw; (try dsimp only at hSw); go_simp; (try with_reducible rfl))
      try simp only [Act.put, List.setIfInBounds_toArray, List.set_cons_zero, List.set_cons_succ]
      refine' wpTail_take (i := 2) (oi := _) ?hiu1007 ?hsu1007 ?hfu1007 ?hru1007 ?hzu1007 ?hQu1007 (v := _) (Or.inl ⟨?hwu1007, ?hyu1007⟩) (⟨(WB.at_ H1004 (.tail _ (.head _))).cell 0, (WB.at_ H1004 (.tail _ (.head _))).cell 1, (WB.at_ H1004 (.head _)).cell 0, (WB.at_ H1004 (.head _)).cell 1⟩) ?_
      case hiu1007 => (simp only [List.getElem?_toArray, List.getElem?_cons_succ, List.getElem?_cons_zero]; exact rfl)
      case hsu1007 => kernel_rfl
      case hfu1007 => kernel_rfl
      case hru1007 => kernel_rfl
      case hzu1007 => kernel_rfl
      case hQu1007 => exact fun _ _ _ h => h
      case hwu1007 => rfl
      case hyu1007 => (intro w hSw; (try dsimp only at hSw); go_simp; (try with_reducible rfl))
      try simp only [Act.put, List.setIfInBounds_toArray, List.set_cons_zero, List.set_cons_succ]
      refine' wpTail_take (i := 3) (oi := _) ?hiu1008 ?hsu1008 ?hfu1008 ?hru1008 ?hzu1008 ?hQu1008 (v := _) (Or.inl ⟨?hwu1008, ?hyu1008⟩) (⟨(WB.at_ H1004 (.tail _ (.head _))).cell 0, (WB.at_ H1004 (.tail _ (.head _))).cell 1, (WB.at_ H1004 (.head _)).cell 0, (WB.at_ H1004 (.head _)).cell 1⟩) ?_
      case hiu1008 => (simp only [List.getElem?_toArray, List.getElem?_cons_succ, List.getElem?_cons_zero]; exact rfl)
      case hsu1008 => kernel_rfl
      case hfu1008 => kernel_rfl
      case hru1008 => kernel_rfl
      case hzu1008 => kernel_rfl
      case hQu1008 => exact fun _ _ _ h => h
      case hwu1008 => rfl
      case hyu1008 => (intro w hSw; (try dsimp only at hSw); go_simp; (try with_reducible rfl))
      try simp only [Act.put, List.setIfInBounds_toArray, List.set_cons_zero, List.set_cons_succ]
      refine' wpTail_take (i := 4) (oi := _) ?hiu1009 ?hsu1009 ?hfu1009 ?hru1009 ?hzu1009 ?hQu1009 (v := _) (Or.inl ⟨?hwu1009, ?hyu1009⟩) (⟨(WB.at_ H1004 (.tail _ (.head _))).cell 0, (WB.at_ H1004 (.tail _ (.head _))).cell 1, (WB.at_ H1004 (.head _)).cell 0, (WB.at_ H1004 (.head _)).cell 1⟩) ?_
      case hiu1009 => (simp only [List.getElem?_toArray, List.getElem?_cons_succ, List.getElem?_cons_zero]; exact rfl)
      case hsu1009 => kernel_rfl
      case hfu1009 => kernel_rfl
      case hru1009 => kernel_rfl
      case hzu1009 => kernel_rfl
      case hQu1009 => exact fun _ _ _ h => h
      case hwu1009 => rfl
      case hyu1009 => (intro w hSw; (try dsimp only at hSw); go_simp; (try with_reducible rfl))
      try simp only [Act.put, List.setIfInBounds_toArray, List.set_cons_zero, List.set_cons_succ]
      refine' wpTail_take (i := 5) (oi := _) ?hiu1010 ?hsu1010 ?hfu1010 ?hru1010 ?hzu1010 ?hQu1010 (v := _) (Or.inl ⟨?hwu1010, ?hyu1010⟩) (⟨(WB.at_ H1004 (.tail _ (.head _))).cell 0, (WB.at_ H1004 (.tail _ (.head _))).cell 1, (WB.at_ H1004 (.head _)).cell 0, (WB.at_ H1004 (.head _)).cell 1⟩) ?_
      case hiu1010 => (simp only [List.getElem?_toArray, List.getElem?_cons_succ, List.getElem?_cons_zero]; exact rfl)
      case hsu1010 => kernel_rfl
      case hfu1010 => kernel_rfl
      case hru1010 => kernel_rfl
      case hzu1010 => kernel_rfl
      case hQu1010 => exact fun _ _ _ h => h
      case hwu1010 => rfl
      case hyu1010 => (intro w hSw; (try dsimp only at hSw); go_simp; (try with_reducible rfl))
      try simp only [Act.put, List.setIfInBounds_toArray, List.set_cons_zero, List.set_cons_succ]
      refine' wpTail_take (i := 8) (oi := _) ?hiu1011 ?hsu1011 ?hfu1011 ?hru1011 ?hzu1011 ?hQu1011 (v := _) (Or.inl ⟨?hwu1011, ?hyu1011⟩) (⟨(WB.at_ H1004 (.tail _ (.head _))).cell 0, (WB.at_ H1004 (.tail _ (.head _))).cell 1, (WB.at_ H1004 (.head _)).cell 0, (WB.at_ H1004 (.head _)).cell 1⟩) ?_
      case hiu1011 => (simp only [List.getElem?_toArray, List.getElem?_cons_succ, List.getElem?_cons_zero]; exact rfl)
      case hsu1011 => kernel_rfl
      case hfu1011 => kernel_rfl
      case hru1011 => kernel_rfl
      case hzu1011 => kernel_rfl
      case hQu1011 => exact fun _ _ _ h => h
      case hwu1011 => rfl
      case hyu1011 => (intro w hSw; (try dsimp only at hSw); go_simp; (try with_reducible rfl))
      try simp only [Act.put, List.setIfInBounds_toArray, List.set_cons_zero, List.set_cons_succ]
      refine' wpTail_take (i := 9) (oi := _) ?hiu1012 ?hsu1012 ?hfu1012 ?hru1012 ?hzu1012 ?hQu1012 (v := _) (Or.inl ⟨?hwu1012, ?hyu1012⟩) (⟨(WB.at_ H1004 (.tail _ (.head _))).cell 0, (WB.at_ H1004 (.tail _ (.head _))).cell 1, (WB.at_ H1004 (.head _)).cell 0, (WB.at_ H1004 (.head _)).cell 1⟩) ?_
      case hiu1012 => (simp only [List.getElem?_toArray, List.getElem?_cons_succ, List.getElem?_cons_zero]; exact rfl)
      case hsu1012 => kernel_rfl
      case hfu1012 => kernel_rfl
      case hru1012 => kernel_rfl
      case hzu1012 => kernel_rfl
      case hQu1012 => exact fun _ _ _ h => h
      case hwu1012 => rfl
      case hyu1012 => (intro w hSw; (try dsimp only at hSw); go_simp; (try with_reducible rfl))
      try simp only [Act.put, List.setIfInBounds_toArray, List.set_cons_zero, List.set_cons_succ]
      refine' wpTail_take (i := 10) (oi := _) ?hiu1013 ?hsu1013 ?hfu1013 ?hru1013 ?hzu1013 ?hQu1013 (v := _) (Or.inl ⟨?hwu1013, ?hyu1013⟩) (⟨(WB.at_ H1004 (.tail _ (.head _))).cell 0, (WB.at_ H1004 (.tail _ (.head _))).cell 1, (WB.at_ H1004 (.head _)).cell 0, (WB.at_ H1004 (.head _)).cell 1⟩) ?_
      case hiu1013 => (simp only [List.getElem?_toArray, List.getElem?_cons_succ, List.getElem?_cons_zero]; exact rfl)
      case hsu1013 => kernel_rfl
      case hfu1013 => kernel_rfl
      case hru1013 => kernel_rfl
      case hzu1013 => kernel_rfl
      case hQu1013 => exact fun _ _ _ h => h
      case hwu1013 => rfl
      case hyu1013 => (intro w hSw; (try dsimp only at hSw); go_simp; (try with_reducible rfl))
      try simp only [Act.put, List.setIfInBounds_toArray, List.set_cons_zero, List.set_cons_succ]
      refine' wpTail_one (i := 6) (o := _) (by kernel_rfl) ?hou1015 ?hwu1015 (fun K hK => ?_)
      case hou1015 => (simp only [List.getElem?_toArray, List.getElem?_cons_succ, List.getElem?_cons_zero]; exact rfl)
      case hwu1015 => rfl
      go_simp
      (with_reducible refine (HPB.out _).mono ?_)
      rintro e v1014 ⟨rfl, hb1014⟩
      have M1014 := WB.next hb1014 H1004
      refine hK.out _ _ (fun _ => ⟨(WB.at_ M1014 (.tail _ (.head _))).cell 0, (WB.at_ M1014 (.tail _ (.head _))).cell 1, (WB.at_ M1014 (.head _)).cell 0, (WB.at_ M1014 (.head _)).cell 1⟩) ?_
      clear hK K hb1014
      try simp only [Act.put, List.setIfInBounds_toArray, List.set_cons_zero, List.set_cons_succ]
      refine' wpTail_take (i := 7) (oi := _) ?hiu1016 ?hsu1016 ?hfu1016 ?hru1016 ?hzu1016 ?hQu1016 (v := _) (Or.inl ⟨?hwu1016, ?hyu1016⟩) (⟨(WB.at_ M1014 (.tail _ (.head _))).cell 0, (WB.at_ M1014 (.tail _ (.head _))).cell 1, (WB.at_ M1014 (.head _)).cell 0, (WB.at_ M1014 (.head _)).cell 1⟩) ?_
      case hiu1016 => (simp only [List.getElem?_toArray, List.getElem?_cons_succ, List.getElem?_cons_zero]; exact rfl)
      case hsu1016 => kernel_rfl
      case hfu1016 => kernel_rfl
      case hru1016 => kernel_rfl
      case hzu1016 => kernel_rfl
      case hQu1016 => exact fun _ _ _ h => h
      case hwu1016 => rfl
      case hyu1016 => (intro w hSw; (try dsimp only at hSw); go_simp; (try with_reducible rfl))
      try simp only [Act.put, List.setIfInBounds_toArray, List.set_cons_zero, List.set_cons_succ]
      refine' wpTail_take (i := 11) (oi := _) ?hiu1017 ?hsu1017 ?hfu1017 ?hru1017 ?hzu1017 ?hQu1017 (v := _) (Or.inl ⟨?hwu1017, ?hyu1017⟩) (⟨(WB.at_ M1014 (.tail _ (.head _))).cell 0, (WB.at_ M1014 (.tail _ (.head _))).cell 1, (WB.at_ M1014 (.head _)).cell 0, (WB.at_ M1014 (.head _)).cell 1⟩) ?_
      case hiu1017 => (simp only [List.getElem?_toArray, List.getElem?_cons_succ, List.getElem?_cons_zero]; exact rfl)
      case hsu1017 => kernel_rfl
      case hfu1017 => kernel_rfl
      case hru1017 => kernel_rfl
      case hzu1017 => kernel_rfl
      case hQu1017 => exact fun _ _ _ h => h
      case hwu1017 => rfl
      case hyu1017 => (intro w hSw; (try dsimp only at hSw); go_simp; (try with_reducible rfl))
      try simp only [Act.put, List.setIfInBounds_toArray, List.set_cons_zero, List.set_cons_succ]
      refine' wpTail_take (i := 12) (oi := _) ?hiu1018 ?hsu1018 ?hfu1018 ?hru1018 ?hzu1018 ?hQu1018 (v := _) (Or.inl ⟨?hwu1018, ?hyu1018⟩) (⟨(WB.at_ M1014 (.tail _ (.head _))).cell 0, (WB.at_ M1014 (.tail _ (.head _))).cell 1, (WB.at_ M1014 (.head _)).cell 0, (WB.at_ M1014 (.head _)).cell 1⟩) ?_
      case hiu1018 => (simp only [List.getElem?_toArray, List.getElem?_cons_succ, List.getElem?_cons_zero]; exact rfl)
      case hsu1018 => kernel_rfl
      case hfu1018 => kernel_rfl
      case hru1018 => kernel_rfl
      case hzu1018 => kernel_rfl
      case hQu1018 => exact fun _ _ _ h => h
      case hwu1018 => rfl
      case hyu1018 => (intro w hSw; (try dsimp only at hSw); go_simp; (try with_reducible rfl))
      try simp only [Act.put, List.setIfInBounds_toArray, List.set_cons_zero, List.set_cons_succ]
      refine wpTail_done (by kernel_rfl) ?_ _
      go_wp2_with fail
      go_meet
      exact ⟨rfl, M1014⟩
    · skip
      rcases hw with hw | ⟨rfl, hw⟩
      · skip
        have H1019 := WB.drew M1003
        refine wp_region_tail 99 (fun w' => w'.cell? ⟨s, 0, none⟩ = some (.int .u64 ah) ∧ w'.cell? ⟨s, 1, none⟩ = some (.int .u64 al) ∧ w'.cell? ⟨s + 1, 0, none⟩ = some (.int .u64 bh) ∧ w'.cell? ⟨s + 1, 1, none⟩ = some (.int .u64 bl)) (by kernel_rfl) ⟨(WB.at_ H1019 (.tail _ (.head _))).cell 0, (WB.at_ H1019 (.tail _ (.head _))).cell 1, (WB.at_ H1019 (.head _)).cell 0, (WB.at_ H1019 (.head _)).cell 1⟩ (fun hHeld => ?_)
        clear hHeld
        try simp only [Act.put, List.setIfInBounds_toArray, List.set_cons_zero, List.set_cons_succ]
        refine' wpTail_take (i := 0) (oi := _) ?hiu1020 ?hsu1020 ?hfu1020 ?hru1020 ?hzu1020 ?hQu1020 (v := _) (Or.inl ⟨?hwu1020, ?hyu1020⟩) (⟨(WB.at_ H1019 (.tail _ (.head _))).cell 0, (WB.at_ H1019 (.tail _ (.head _))).cell 1, (WB.at_ H1019 (.head _)).cell 0, (WB.at_ H1019 (.head _)).cell 1⟩) ?_
        case hiu1020 => (simp only [List.getElem?_toArray, List.getElem?_cons_zero]; exact rfl)
        case hsu1020 => kernel_rfl
        case hfu1020 => kernel_rfl
        case hru1020 => kernel_rfl
        case hzu1020 => kernel_rfl
        case hQu1020 => exact fun _ _ _ h => h
        case hwu1020 => rfl
        case hyu1020 => (intro w hSw; (try dsimp only at hSw); go_simp; (try with_reducible rfl))
        try simp only [Act.put, List.setIfInBounds_toArray, List.set_cons_zero, List.set_cons_succ]
        refine' wpTail_take (i := 1) (oi := _) ?hiu1021 ?hsu1021 ?hfu1021 ?hru1021 ?hzu1021 ?hQu1021 (v := _) (Or.inl ⟨?hwu1021, ?hyu1021⟩) (⟨(WB.at_ H1019 (.tail _ (.head _))).cell 0, (WB.at_ H1019 (.tail _ (.head _))).cell 1, (WB.at_ H1019 (.head _)).cell 0, (WB.at_ H1019 (.head _)).cell 1⟩) ?_
        case hiu1021 => (simp only [List.getElem?_toArray, List.getElem?_cons_succ, List.getElem?_cons_zero]; exact rfl)
        case hsu1021 => kernel_rfl
        case hfu1021 => kernel_rfl
        case hru1021 => kernel_rfl
        case hzu1021 => kernel_rfl
        case hQu1021 => exact fun _ _ _ h => h
        case hwu1021 => rfl
        case hyu1021 => (intro w hSw; (try dsimp only at hSw); go_simp; (try with_reducible rfl))
        try simp only [Act.put, List.setIfInBounds_toArray, List.set_cons_zero, List.set_cons_succ]
        refine' wpTail_take (i := 2) (oi := _) ?hiu1022 ?hsu1022 ?hfu1022 ?hru1022 ?hzu1022 ?hQu1022 (v := _) (Or.inl ⟨?hwu1022, ?hyu1022⟩) (⟨(WB.at_ H1019 (.tail _ (.head _))).cell 0, (WB.at_ H1019 (.tail _ (.head _))).cell 1, (WB.at_ H1019 (.head _)).cell 0, (WB.at_ H1019 (.head _)).cell 1⟩) ?_
        case hiu1022 => (simp only [List.getElem?_toArray, List.getElem?_cons_succ, List.getElem?_cons_zero]; exact rfl)
        case hsu1022 => kernel_rfl
        case hfu1022 => kernel_rfl
        case hru1022 => kernel_rfl
        case hzu1022 => kernel_rfl
        case hQu1022 => exact fun _ _ _ h => h
        case hwu1022 => rfl
        case hyu1022 => (intro w hSw; (try dsimp only at hSw); go_simp; (try with_reducible rfl))
        try simp only [Act.put, List.setIfInBounds_toArray, List.set_cons_zero, List.set_cons_succ]
        refine' wpTail_take (i := 3) (oi := _) ?hiu1023 ?hsu1023 ?hfu1023 ?hru1023 ?hzu1023 ?hQu1023 (v := _) (Or.inl ⟨?hwu1023, ?hyu1023⟩) (⟨(WB.at_ H1019 (.tail _ (.head _))).cell 0, (WB.at_ H1019 (.tail _ (.head _))).cell 1, (WB.at_ H1019 (.head _)).cell 0, (WB.at_ H1019 (.head _)).cell 1⟩) ?_
        case hiu1023 => (simp only [List.getElem?_toArray, List.getElem?_cons_succ, List.getElem?_cons_zero]; exact rfl)
        case hsu1023 => kernel_rfl
        case hfu1023 => kernel_rfl
        case hru1023 => kernel_rfl
        case hzu1023 => kernel_rfl
        case hQu1023 => exact fun _ _ _ h => h
        case hwu1023 => rfl
        case hyu1023 => (intro w hSw; (try dsimp only at hSw); go_simp; (try with_reducible rfl))
        try simp only [Act.put, List.setIfInBounds_toArray, List.set_cons_zero, List.set_cons_succ]
        refine' wpTail_take (i := 4) (oi := _) ?hiu1024 ?hsu1024 ?hfu1024 ?hru1024 ?hzu1024 ?hQu1024 (v := _) (Or.inl ⟨?hwu1024, ?hyu1024⟩) (⟨(WB.at_ H1019 (.tail _ (.head _))).cell 0, (WB.at_ H1019 (.tail _ (.head _))).cell 1, (WB.at_ H1019 (.head _)).cell 0, (WB.at_ H1019 (.head _)).cell 1⟩) ?_
        case hiu1024 => (simp only [List.getElem?_toArray, List.getElem?_cons_succ, List.getElem?_cons_zero]; exact rfl)
        case hsu1024 => kernel_rfl
        case hfu1024 => kernel_rfl
        case hru1024 => kernel_rfl
        case hzu1024 => kernel_rfl
        case hQu1024 => exact fun _ _ _ h => h
        case hwu1024 => rfl
        case hyu1024 => (intro w hSw; (try dsimp only at hSw); go_simp; (try with_reducible rfl))
        try simp only [Act.put, List.setIfInBounds_toArray, List.set_cons_zero, List.set_cons_succ]
        refine' wpTail_take (i := 5) (oi := _) ?hiu1025 ?hsu1025 ?hfu1025 ?hru1025 ?hzu1025 ?hQu1025 (v := _) (Or.inl ⟨?hwu1025, ?hyu1025⟩) (⟨(WB.at_ H1019 (.tail _ (.head _))).cell 0, (WB.at_ H1019 (.tail _ (.head _))).cell 1, (WB.at_ H1019 (.head _)).cell 0, (WB.at_ H1019 (.head _)).cell 1⟩) ?_
        case hiu1025 => (simp only [List.getElem?_toArray, List.getElem?_cons_succ, List.getElem?_cons_zero]; exact rfl)
        case hsu1025 => kernel_rfl
        case hfu1025 => kernel_rfl
        case hru1025 => kernel_rfl
        case hzu1025 => kernel_rfl
        case hQu1025 => exact fun _ _ _ h => h
        case hwu1025 => rfl
        case hyu1025 => (intro w hSw; (try dsimp only at hSw); go_simp; (try with_reducible rfl))
        try simp only [Act.put, List.setIfInBounds_toArray, List.set_cons_zero, List.set_cons_succ]
        refine' wpTail_take (i := 8) (oi := _) ?hiu1026 ?hsu1026 ?hfu1026 ?hru1026 ?hzu1026 ?hQu1026 (v := _) (Or.inl ⟨?hwu1026, ?hyu1026⟩) (⟨(WB.at_ H1019 (.tail _ (.head _))).cell 0, (WB.at_ H1019 (.tail _ (.head _))).cell 1, (WB.at_ H1019 (.head _)).cell 0, (WB.at_ H1019 (.head _)).cell 1⟩) ?_
        case hiu1026 => (simp only [List.getElem?_toArray, List.getElem?_cons_succ, List.getElem?_cons_zero]; exact rfl)
        case hsu1026 => kernel_rfl
        case hfu1026 => kernel_rfl
        case hru1026 => kernel_rfl
        case hzu1026 => kernel_rfl
        case hQu1026 => exact fun _ _ _ h => h
        case hwu1026 => rfl
        case hyu1026 => (intro w hSw; (try dsimp only at hSw); go_simp; (try with_reducible rfl))
        try simp only [Act.put, List.setIfInBounds_toArray, List.set_cons_zero, List.set_cons_succ]
        refine' wpTail_take (i := 9) (oi := _) ?hiu1027 ?hsu1027 ?hfu1027 ?hru1027 ?hzu1027 ?hQu1027 (v := _) (Or.inl ⟨?hwu1027, ?hyu1027⟩) (⟨(WB.at_ H1019 (.tail _ (.head _))).cell 0, (WB.at_ H1019 (.tail _ (.head _))).cell 1, (WB.at_ H1019 (.head _)).cell 0, (WB.at_ H1019 (.head _)).cell 1⟩) ?_
        case hiu1027 => (simp only [List.getElem?_toArray, List.getElem?_cons_succ, List.getElem?_cons_zero]; exact rfl)
        case hsu1027 => kernel_rfl
        case hfu1027 => kernel_rfl
        case hru1027 => kernel_rfl
        case hzu1027 => kernel_rfl
        case hQu1027 => exact fun _ _ _ h => h
        case hwu1027 => rfl
        case hyu1027 => (intro w hSw; (try dsimp only at hSw); go_simp; (try with_reducible rfl))
        try simp only [Act.put, List.setIfInBounds_toArray, List.set_cons_zero, List.set_cons_succ]
        refine' wpTail_take (i := 10) (oi := _) ?hiu1028 ?hsu1028 ?hfu1028 ?hru1028 ?hzu1028 ?hQu1028 (v := _) (Or.inl ⟨?hwu1028, ?hyu1028⟩) (⟨(WB.at_ H1019 (.tail _ (.head _))).cell 0, (WB.at_ H1019 (.tail _ (.head _))).cell 1, (WB.at_ H1019 (.head _)).cell 0, (WB.at_ H1019 (.head _)).cell 1⟩) ?_
        case hiu1028 => (simp only [List.getElem?_toArray, List.getElem?_cons_succ, List.getElem?_cons_zero]; exact rfl)
        case hsu1028 => kernel_rfl
        case hfu1028 => kernel_rfl
        case hru1028 => kernel_rfl
        case hzu1028 => kernel_rfl
        case hQu1028 => exact fun _ _ _ h => h
        case hwu1028 => rfl
        case hyu1028 => (intro w hSw; (try dsimp only at hSw); go_simp; (try with_reducible rfl))
        try simp only [Act.put, List.setIfInBounds_toArray, List.set_cons_zero, List.set_cons_succ]
        refine' wpTail_one (i := 6) (o := _) (by kernel_rfl) ?hou1030 ?hwu1030 (fun K hK => ?_)
        case hou1030 => (simp only [List.getElem?_toArray, List.getElem?_cons_succ, List.getElem?_cons_zero]; exact rfl)
        case hwu1030 => rfl
        go_simp
        (with_reducible refine (HPB.out _).mono ?_)
        rintro e v1029 ⟨rfl, hb1029⟩
        have M1029 := WB.next hb1029 H1019
        refine hK.out _ _ (fun _ => ⟨(WB.at_ M1029 (.tail _ (.head _))).cell 0, (WB.at_ M1029 (.tail _ (.head _))).cell 1, (WB.at_ M1029 (.head _)).cell 0, (WB.at_ M1029 (.head _)).cell 1⟩) ?_
        clear hK K hb1029
        try simp only [Act.put, List.setIfInBounds_toArray, List.set_cons_zero, List.set_cons_succ]
        refine' wpTail_take (i := 7) (oi := _) ?hiu1031 ?hsu1031 ?hfu1031 ?hru1031 ?hzu1031 ?hQu1031 (v := _) (Or.inl ⟨?hwu1031, ?hyu1031⟩) (⟨(WB.at_ M1029 (.tail _ (.head _))).cell 0, (WB.at_ M1029 (.tail _ (.head _))).cell 1, (WB.at_ M1029 (.head _)).cell 0, (WB.at_ M1029 (.head _)).cell 1⟩) ?_
        case hiu1031 => (simp only [List.getElem?_toArray, List.getElem?_cons_succ, List.getElem?_cons_zero]; exact rfl)
        case hsu1031 => kernel_rfl
        case hfu1031 => kernel_rfl
        case hru1031 => kernel_rfl
        case hzu1031 => kernel_rfl
        case hQu1031 => exact fun _ _ _ h => h
        case hwu1031 => rfl
        case hyu1031 => (intro w hSw; (try dsimp only at hSw); go_simp; (try with_reducible rfl))
        try simp only [Act.put, List.setIfInBounds_toArray, List.set_cons_zero, List.set_cons_succ]
        refine' wpTail_take (i := 11) (oi := _) ?hiu1032 ?hsu1032 ?hfu1032 ?hru1032 ?hzu1032 ?hQu1032 (v := _) (Or.inl ⟨?hwu1032, ?hyu1032⟩) (⟨(WB.at_ M1029 (.tail _ (.head _))).cell 0, (WB.at_ M1029 (.tail _ (.head _))).cell 1, (WB.at_ M1029 (.head _)).cell 0, (WB.at_ M1029 (.head _)).cell 1⟩) ?_
        case hiu1032 => (simp only [List.getElem?_toArray, List.getElem?_cons_succ, List.getElem?_cons_zero]; exact rfl)
        case hsu1032 => kernel_rfl
        case hfu1032 => kernel_rfl
        case hru1032 => kernel_rfl
        case hzu1032 => kernel_rfl
        case hQu1032 => exact fun _ _ _ h => h
        case hwu1032 => rfl
        case hyu1032 => (intro w hSw; (try dsimp only at hSw); go_simp; (try with_reducible rfl))
        try simp only [Act.put, List.setIfInBounds_toArray, List.set_cons_zero, List.set_cons_succ]
        refine' wpTail_take (i := 12) (oi := _) ?hiu1033 ?hsu1033 ?hfu1033 ?hru1033 ?hzu1033 ?hQu1033 (v := _) (Or.inl ⟨?hwu1033, ?hyu1033⟩) (⟨(WB.at_ M1029 (.tail _ (.head _))).cell 0, (WB.at_ M1029 (.tail _ (.head _))).cell 1, (WB.at_ M1029 (.head _)).cell 0, (WB.at_ M1029 (.head _)).cell 1⟩) ?_
        case hiu1033 => (simp only [List.getElem?_toArray, List.getElem?_cons_succ, List.getElem?_cons_zero]; exact rfl)
        case hsu1033 => kernel_rfl
        case hfu1033 => kernel_rfl
        case hru1033 => kernel_rfl
        case hzu1033 => kernel_rfl
        case hQu1033 => exact fun _ _ _ h => h
        case hwu1033 => rfl
        case hyu1033 => (intro w hSw; (try dsimp only at hSw); go_simp; (try with_reducible rfl))
        try simp only [Act.put, List.setIfInBounds_toArray, List.set_cons_zero, List.set_cons_succ]
        refine wpTail_done (by kernel_rfl) ?_ _
        go_wp2_with fail
        go_meet
        exact ⟨rfl, M1029⟩
      · skip
        have H1034 := WB.drew M1003
        refine wp_region_tail 99 (fun w' => w'.cell? ⟨s, 0, none⟩ = some (.int .u64 ah) ∧ w'.cell? ⟨s, 1, none⟩ = some (.int .u64 al) ∧ w'.cell? ⟨s + 1, 0, none⟩ = some (.int .u64 ah) ∧ w'.cell? ⟨s + 1, 1, none⟩ = some (.int .u64 bl)) (by kernel_rfl) ⟨(WB.at_ H1034 (.tail _ (.head _))).cell 0, (WB.at_ H1034 (.tail _ (.head _))).cell 1, (WB.at_ H1034 (.head _)).cell 0, (WB.at_ H1034 (.head _)).cell 1⟩ (fun hHeld => ?_)
        clear hHeld
        try simp only [Act.put, List.setIfInBounds_toArray, List.set_cons_zero, List.set_cons_succ]
        refine' wpTail_take (i := 0) (oi := _) ?hiu1035 ?hsu1035 ?hfu1035 ?hru1035 ?hzu1035 ?hQu1035 (v := _) (Or.inl ⟨?hwu1035, ?hyu1035⟩) (⟨(WB.at_ H1034 (.tail _ (.head _))).cell 0, (WB.at_ H1034 (.tail _ (.head _))).cell 1, (WB.at_ H1034 (.head _)).cell 0, (WB.at_ H1034 (.head _)).cell 1⟩) ?_
        case hiu1035 => (simp only [List.getElem?_toArray, List.getElem?_cons_zero]; exact rfl)
        case hsu1035 => kernel_rfl
        case hfu1035 => kernel_rfl
        case hru1035 => kernel_rfl
        case hzu1035 => kernel_rfl
        case hQu1035 => exact fun _ _ _ h => h
        case hwu1035 => rfl
        case hyu1035 => (intro w hSw; (try dsimp only at hSw); go_simp; (try with_reducible rfl))
        try simp only [Act.put, List.setIfInBounds_toArray, List.set_cons_zero, List.set_cons_succ]
        refine' wpTail_take (i := 1) (oi := _) ?hiu1036 ?hsu1036 ?hfu1036 ?hru1036 ?hzu1036 ?hQu1036 (v := _) (Or.inl ⟨?hwu1036, ?hyu1036⟩) (⟨(WB.at_ H1034 (.tail _ (.head _))).cell 0, (WB.at_ H1034 (.tail _ (.head _))).cell 1, (WB.at_ H1034 (.head _)).cell 0, (WB.at_ H1034 (.head _)).cell 1⟩) ?_
        case hiu1036 => (simp only [List.getElem?_toArray, List.getElem?_cons_succ, List.getElem?_cons_zero]; exact rfl)
        case hsu1036 => kernel_rfl
        case hfu1036 => kernel_rfl
        case hru1036 => kernel_rfl
        case hzu1036 => kernel_rfl
        case hQu1036 => exact fun _ _ _ h => h
        case hwu1036 => rfl
        case hyu1036 => (intro w hSw; (try dsimp only at hSw); go_simp; (try with_reducible rfl))
        try simp only [Act.put, List.setIfInBounds_toArray, List.set_cons_zero, List.set_cons_succ]
        refine' wpTail_take (i := 2) (oi := _) ?hiu1037 ?hsu1037 ?hfu1037 ?hru1037 ?hzu1037 ?hQu1037 (v := _) (Or.inl ⟨?hwu1037, ?hyu1037⟩) (⟨(WB.at_ H1034 (.tail _ (.head _))).cell 0, (WB.at_ H1034 (.tail _ (.head _))).cell 1, (WB.at_ H1034 (.head _)).cell 0, (WB.at_ H1034 (.head _)).cell 1⟩) ?_
        case hiu1037 => (simp only [List.getElem?_toArray, List.getElem?_cons_succ, List.getElem?_cons_zero]; exact rfl)
        case hsu1037 => kernel_rfl
        case hfu1037 => kernel_rfl
        case hru1037 => kernel_rfl
        case hzu1037 => kernel_rfl
        case hQu1037 => exact fun _ _ _ h => h
        case hwu1037 => rfl
        case hyu1037 => (intro w hSw; (try dsimp only at hSw); go_simp; (try with_reducible rfl))
        try simp only [Act.put, List.setIfInBounds_toArray, List.set_cons_zero, List.set_cons_succ]
        refine' wpTail_take (i := 3) (oi := _) ?hiu1038 ?hsu1038 ?hfu1038 ?hru1038 ?hzu1038 ?hQu1038 (v := _) (Or.inl ⟨?hwu1038, ?hyu1038⟩) (⟨(WB.at_ H1034 (.tail _ (.head _))).cell 0, (WB.at_ H1034 (.tail _ (.head _))).cell 1, (WB.at_ H1034 (.head _)).cell 0, (WB.at_ H1034 (.head _)).cell 1⟩) ?_
        case hiu1038 => (simp only [List.getElem?_toArray, List.getElem?_cons_succ, List.getElem?_cons_zero]; exact rfl)
        case hsu1038 => kernel_rfl
        case hfu1038 => kernel_rfl
        case hru1038 => kernel_rfl
        case hzu1038 => kernel_rfl
        case hQu1038 => exact fun _ _ _ h => h
        case hwu1038 => rfl
        case hyu1038 => (intro w hSw; (try dsimp only at hSw); go_simp; (try with_reducible rfl))
        try simp only [Act.put, List.setIfInBounds_toArray, List.set_cons_zero, List.set_cons_succ]
        refine' wpTail_take (i := 4) (oi := _) ?hiu1039 ?hsu1039 ?hfu1039 ?hru1039 ?hzu1039 ?hQu1039 (v := _) (Or.inl ⟨?hwu1039, ?hyu1039⟩) (⟨(WB.at_ H1034 (.tail _ (.head _))).cell 0, (WB.at_ H1034 (.tail _ (.head _))).cell 1, (WB.at_ H1034 (.head _)).cell 0, (WB.at_ H1034 (.head _)).cell 1⟩) ?_
        case hiu1039 => (simp only [List.getElem?_toArray, List.getElem?_cons_succ, List.getElem?_cons_zero]; exact rfl)
        case hsu1039 => kernel_rfl
        case hfu1039 => kernel_rfl
        case hru1039 => kernel_rfl
        case hzu1039 => kernel_rfl
        case hQu1039 => exact fun _ _ _ h => h
        case hwu1039 => rfl
        case hyu1039 => (intro w hSw; (try dsimp only at hSw); go_simp; (try with_reducible rfl))
        try simp only [Act.put, List.setIfInBounds_toArray, List.set_cons_zero, List.set_cons_succ]
        refine' wpTail_take (i := 5) (oi := _) ?hiu1040 ?hsu1040 ?hfu1040 ?hru1040 ?hzu1040 ?hQu1040 (v := _) (Or.inl ⟨?hwu1040, ?hyu1040⟩) (⟨(WB.at_ H1034 (.tail _ (.head _))).cell 0, (WB.at_ H1034 (.tail _ (.head _))).cell 1, (WB.at_ H1034 (.head _)).cell 0, (WB.at_ H1034 (.head _)).cell 1⟩) ?_
        case hiu1040 => (simp only [List.getElem?_toArray, List.getElem?_cons_succ, List.getElem?_cons_zero]; exact rfl)
        case hsu1040 => kernel_rfl
        case hfu1040 => kernel_rfl
        case hru1040 => kernel_rfl
        case hzu1040 => kernel_rfl
        case hQu1040 => exact fun _ _ _ h => h
        case hwu1040 => rfl
        case hyu1040 => (intro w hSw; (try dsimp only at hSw); go_simp; (try with_reducible rfl))
        try simp only [Act.put, List.setIfInBounds_toArray, List.set_cons_zero, List.set_cons_succ]
        refine' wpTail_take (i := 8) (oi := _) ?hiu1041 ?hsu1041 ?hfu1041 ?hru1041 ?hzu1041 ?hQu1041 (v := _) (Or.inl ⟨?hwu1041, ?hyu1041⟩) (⟨(WB.at_ H1034 (.tail _ (.head _))).cell 0, (WB.at_ H1034 (.tail _ (.head _))).cell 1, (WB.at_ H1034 (.head _)).cell 0, (WB.at_ H1034 (.head _)).cell 1⟩) ?_
        case hiu1041 => (simp only [List.getElem?_toArray, List.getElem?_cons_succ, List.getElem?_cons_zero]; exact rfl)
        case hsu1041 => kernel_rfl
        case hfu1041 => kernel_rfl
        case hru1041 => kernel_rfl
        case hzu1041 => kernel_rfl
        case hQu1041 => exact fun _ _ _ h => h
        case hwu1041 => rfl
        case hyu1041 => (intro w hSw; (try dsimp only at hSw); go_simp; (try with_reducible rfl))
        try simp only [Act.put, List.setIfInBounds_toArray, List.set_cons_zero, List.set_cons_succ]
        refine' wpTail_take (i := 9) (oi := _) ?hiu1042 ?hsu1042 ?hfu1042 ?hru1042 ?hzu1042 ?hQu1042 (v := _) (Or.inl ⟨?hwu1042, ?hyu1042⟩) (⟨(WB.at_ H1034 (.tail _ (.head _))).cell 0, (WB.at_ H1034 (.tail _ (.head _))).cell 1, (WB.at_ H1034 (.head _)).cell 0, (WB.at_ H1034 (.head _)).cell 1⟩) ?_
        case hiu1042 => (simp only [List.getElem?_toArray, List.getElem?_cons_succ, List.getElem?_cons_zero]; exact rfl)
        case hsu1042 => kernel_rfl
        case hfu1042 => kernel_rfl
        case hru1042 => kernel_rfl
        case hzu1042 => kernel_rfl
        case hQu1042 => exact fun _ _ _ h => h
        case hwu1042 => rfl
        case hyu1042 => (intro w hSw; (try dsimp only at hSw); go_simp; (try with_reducible rfl))
        try simp only [Act.put, List.setIfInBounds_toArray, List.set_cons_zero, List.set_cons_succ]
        refine' wpTail_take (i := 10) (oi := _) ?hiu1043 ?hsu1043 ?hfu1043 ?hru1043 ?hzu1043 ?hQu1043 (v := _) (Or.inl ⟨?hwu1043, ?hyu1043⟩) (⟨(WB.at_ H1034 (.tail _ (.head _))).cell 0, (WB.at_ H1034 (.tail _ (.head _))).cell 1, (WB.at_ H1034 (.head _)).cell 0, (WB.at_ H1034 (.head _)).cell 1⟩) ?_
        case hiu1043 => (simp only [List.getElem?_toArray, List.getElem?_cons_succ, List.getElem?_cons_zero]; exact rfl)
        case hsu1043 => kernel_rfl
        case hfu1043 => kernel_rfl
        case hru1043 => kernel_rfl
        case hzu1043 => kernel_rfl
        case hQu1043 => exact fun _ _ _ h => h
        case hwu1043 => rfl
        case hyu1043 => (intro w hSw; (try dsimp only at hSw); go_simp; (try with_reducible rfl))
        try simp only [Act.put, List.setIfInBounds_toArray, List.set_cons_zero, List.set_cons_succ]
        refine' wpTail_one (i := 6) (o := _) (by kernel_rfl) ?hou1045 ?hwu1045 (fun K hK => ?_)
        case hou1045 => (simp only [List.getElem?_toArray, List.getElem?_cons_succ, List.getElem?_cons_zero]; exact rfl)
        case hwu1045 => rfl
        go_simp
        (with_reducible refine (HPB.out _).mono ?_)
        rintro e v1044 ⟨rfl, hb1044⟩
        have M1044 := WB.next hb1044 H1034
        refine hK.out _ _ (fun _ => ⟨(WB.at_ M1044 (.tail _ (.head _))).cell 0, (WB.at_ M1044 (.tail _ (.head _))).cell 1, (WB.at_ M1044 (.head _)).cell 0, (WB.at_ M1044 (.head _)).cell 1⟩) ?_
        clear hK K hb1044
        try simp only [Act.put, List.setIfInBounds_toArray, List.set_cons_zero, List.set_cons_succ]
        refine' wpTail_take (i := 7) (oi := _) ?hiu1046 ?hsu1046 ?hfu1046 ?hru1046 ?hzu1046 ?hQu1046 (v := _) (Or.inl ⟨?hwu1046, ?hyu1046⟩) (⟨(WB.at_ M1044 (.tail _ (.head _))).cell 0, (WB.at_ M1044 (.tail _ (.head _))).cell 1, (WB.at_ M1044 (.head _)).cell 0, (WB.at_ M1044 (.head _)).cell 1⟩) ?_
        case hiu1046 => (simp only [List.getElem?_toArray, List.getElem?_cons_succ, List.getElem?_cons_zero]; exact rfl)
        case hsu1046 => kernel_rfl
        case hfu1046 => kernel_rfl
        case hru1046 => kernel_rfl
        case hzu1046 => kernel_rfl
        case hQu1046 => exact fun _ _ _ h => h
        case hwu1046 => rfl
        case hyu1046 => (intro w hSw; (try dsimp only at hSw); go_simp; (try with_reducible rfl))
        try simp only [Act.put, List.setIfInBounds_toArray, List.set_cons_zero, List.set_cons_succ]
        refine' wpTail_take (i := 11) (oi := _) ?hiu1047 ?hsu1047 ?hfu1047 ?hru1047 ?hzu1047 ?hQu1047 (v := _) (Or.inl ⟨?hwu1047, ?hyu1047⟩) (⟨(WB.at_ M1044 (.tail _ (.head _))).cell 0, (WB.at_ M1044 (.tail _ (.head _))).cell 1, (WB.at_ M1044 (.head _)).cell 0, (WB.at_ M1044 (.head _)).cell 1⟩) ?_
        case hiu1047 => (simp only [List.getElem?_toArray, List.getElem?_cons_succ, List.getElem?_cons_zero]; exact rfl)
        case hsu1047 => kernel_rfl
        case hfu1047 => kernel_rfl
        case hru1047 => kernel_rfl
        case hzu1047 => kernel_rfl
        case hQu1047 => exact fun _ _ _ h => h
        case hwu1047 => rfl
        case hyu1047 => (intro w hSw; (try dsimp only at hSw); go_simp; (try with_reducible rfl))
        try simp only [Act.put, List.setIfInBounds_toArray, List.set_cons_zero, List.set_cons_succ]
        refine' wpTail_take (i := 12) (oi := _) ?hiu1048 ?hsu1048 ?hfu1048 ?hru1048 ?hzu1048 ?hQu1048 (v := _) (Or.inl ⟨?hwu1048, ?hyu1048⟩) (⟨(WB.at_ M1044 (.tail _ (.head _))).cell 0, (WB.at_ M1044 (.tail _ (.head _))).cell 1, (WB.at_ M1044 (.head _)).cell 0, (WB.at_ M1044 (.head _)).cell 1⟩) ?_
        case hiu1048 => (simp only [List.getElem?_toArray, List.getElem?_cons_succ, List.getElem?_cons_zero]; exact rfl)
        case hsu1048 => kernel_rfl
        case hfu1048 => kernel_rfl
        case hru1048 => kernel_rfl
        case hzu1048 => kernel_rfl
        case hQu1048 => exact fun _ _ _ h => h
        case hwu1048 => rfl
        case hyu1048 => (intro w hSw; (try dsimp only at hSw); go_simp; (try with_reducible rfl))
        try simp only [Act.put, List.setIfInBounds_toArray, List.set_cons_zero, List.set_cons_succ]
        refine wpTail_done (by kernel_rfl) ?_ _
        go_wp2_with fail
        go_meet
        exact ⟨rfl, M1044⟩
  case rest =>
  obtain ⟨rfl, HZ⟩ := hcut
  clear hl
  rcases hfin.out with ⟨rfl, hpa⟩ | ⟨rfl, hng, hcs⟩
  · have HPS := hide hpa
    have hc := HCC.out
    clear hpa
    go_wp2_with fail
    refine (HPS.out _).mono ?_
    rintro e v1049 ⟨rfl, hb1049⟩
    have M1049 := WB.next hb1049 HZ
    clear hb1049
    have H1050 := WB.addz (x := ah) (y := al) M1049
    obtain ⟨g8, hg8⟩ : ∃ g, g = v1049.heap.size := ⟨_, rfl⟩
    rw [← hg8] at H1050
    have HGg8 := hide hg8
    clear hg8
    go_upto_region 12 with (fail)
    rw [← HGg8.out]
    obtain ⟨W1050, hW1050⟩ : ∃ W : World, W = v1049.alloc (.cells #[.int .u64 ah, .int .u64 al] 24) := ⟨_, rfl⟩
    rw [← hW1050] at H1050 ⊢
    clear hW1050
    obtain ⟨q1051a, q1051b, q1051c, q1051d⟩ := two_cells (WB.at_ H1050 (.head _))
    obtain ⟨q1052a, q1052b, q1052c, q1052d⟩ := two_cells (WB.at_ H1050 (.tail _ (.tail _ (.head _))))
    go_wp2_with fail
    go_ret
    exact ⟨rfl, H1050.out.low⟩
  · have HNG := hide hng
    have hc := HCC.out
    have HCS := hide hcs
    clear hng hcs
    obtain ⟨q1053a, q1053b, q1053c, q1053d⟩ := two_cells (WB.at_ HZ (.tail _ (.head _)))
    go_wp2_with fail
    refine (HNG.out _).mono ?_
    rintro e v1054 ⟨rfl, hb1054⟩
    have M1054 := WB.next hb1054 HZ
    clear hb1054
    clear q1053a q1053b q1053c q1053d
    have H1055 := WB.addz (x := nh) (y := nl) M1054
    obtain ⟨g6, hg6⟩ : ∃ g, g = v1054.heap.size := ⟨_, rfl⟩
    rw [← hg6] at H1055
    have HGg6 := hide hg6
    clear hg6
    go_upto_region 8 with (fail)
    rw [← HGg6.out]
    obtain ⟨W1055, hW1055⟩ : ∃ W : World, W = v1054.alloc (.cells #[.int .u64 nh, .int .u64 nl] 24) := ⟨_, rfl⟩
    rw [← hW1055] at H1055 ⊢
    clear hW1055
    rcases HCS.out with ⟨rfl, hcm⟩ | ⟨rfl, hpr⟩
    · have HCM := hide hcm
      clear hcm
      go_wp2_with fail
      have H1056 := WB.drew H1055
      refine wp_region_tail 99 (fun w' => w'.cell? ⟨s, 0, none⟩ = some (.int .u64 ah) ∧ w'.cell? ⟨s, 1, none⟩ = some (.int .u64 al)) (by kernel_rfl) ⟨(WB.at_ H1056 (.tail _ (.tail _ (.head _)))).cell 0, (WB.at_ H1056 (.tail _ (.tail _ (.head _)))).cell 1⟩ (fun hHeld => ?_)
      clear hHeld
      try simp only [Act.put, List.setIfInBounds_toArray, List.set_cons_zero, List.set_cons_succ]
      refine' wpTail_take (i := 0) (oi := _) ?hiu1057 ?hsu1057 ?hfu1057 ?hru1057 ?hzu1057 ?hQu1057 (v := _) (Or.inl ⟨?hwu1057, ?hyu1057⟩) (⟨(WB.at_ H1056 (.tail _ (.tail _ (.head _)))).cell 0, (WB.at_ H1056 (.tail _ (.tail _ (.head _)))).cell 1⟩) ?_
      case hiu1057 => (simp only [List.getElem?_toArray, List.getElem?_cons_zero]; exact rfl)
      case hsu1057 => kernel_rfl
      case hfu1057 => kernel_rfl
      case hru1057 => kernel_rfl
      case hzu1057 => kernel_rfl
      case hQu1057 => exact fun _ _ _ h => h
      case hwu1057 => rfl
      case hyu1057 => (intro w hSw; (try dsimp only at hSw); go_simp; (try with_reducible rfl))
      try simp only [Act.put, List.setIfInBounds_toArray, List.set_cons_zero, List.set_cons_succ]
      refine' wpTail_one (i := 1) (o := _) (by kernel_rfl) ?hou1059 ?hwu1059 (fun K hK => ?_)
      case hou1059 => (simp only [List.getElem?_toArray, List.getElem?_cons_succ, List.getElem?_cons_zero]; exact rfl)
      case hwu1059 => rfl
      go_simp
      (with_reducible refine (of_val 0 0 0 (by decide) (by decide) (by decide) _).mono ?_)
      rintro e v1058 ⟨rfl, hb1058⟩
      have M1058 := WB.next hb1058 H1056
      refine hK.out _ _ (fun _ => ⟨(WB.at_ M1058 (.tail _ (.tail _ (.head _)))).cell 0, (WB.at_ M1058 (.tail _ (.tail _ (.head _)))).cell 1⟩) ?_
      clear hK K hb1058
      try simp only [Act.put, List.setIfInBounds_toArray, List.set_cons_zero, List.set_cons_succ]
      refine' wpTail_one (i := 2) (o := _) (by kernel_rfl) ?hou1061 ?hwu1061 (fun K hK => ?_)
      case hou1061 => (simp only [List.getElem?_toArray, List.getElem?_cons_succ, List.getElem?_cons_zero]; exact rfl)
      case hwu1061 => rfl
      go_simp
      (with_reducible refine (HCM.out _).mono ?_)
      rintro e v1060 ⟨rfl, hb1060⟩
      have M1060 := WB.next hb1060 M1058
      refine hK.out _ _ (fun _ => ⟨(WB.at_ M1060 (.tail _ (.tail _ (.head _)))).cell 0, (WB.at_ M1060 (.tail _ (.tail _ (.head _)))).cell 1⟩) ?_
      clear hK K hb1060
      try simp only [Act.put, List.setIfInBounds_toArray, List.set_cons_zero, List.set_cons_succ]
      refine' wpTail_take (i := 3) (oi := _) ?hiu1062 ?hsu1062 ?hfu1062 ?hru1062 ?hzu1062 ?hQu1062 (v := _) (Or.inl ⟨?hwu1062, ?hyu1062⟩) (⟨(WB.at_ M1060 (.tail _ (.tail _ (.head _)))).cell 0, (WB.at_ M1060 (.tail _ (.tail _ (.head _)))).cell 1⟩) ?_
      case hiu1062 => (simp only [List.getElem?_toArray, List.getElem?_cons_succ, List.getElem?_cons_zero]; exact rfl)
      case hsu1062 => kernel_rfl
      case hfu1062 => kernel_rfl
      case hru1062 => kernel_rfl
      case hzu1062 => kernel_rfl
      case hQu1062 => exact fun _ _ _ h => h
      case hwu1062 => rfl
      case hyu1062 => (intro w hSw; (try dsimp only at hSw); go_simp; (try with_reducible rfl))
      try simp only [Act.put, List.setIfInBounds_toArray, List.set_cons_zero, List.set_cons_succ]
      refine' wpTail_take (i := 4) (oi := _) ?hiu1063 ?hsu1063 ?hfu1063 ?hru1063 ?hzu1063 ?hQu1063 (v := _) (Or.inl ⟨?hwu1063, ?hyu1063⟩) (⟨(WB.at_ M1060 (.tail _ (.tail _ (.head _)))).cell 0, (WB.at_ M1060 (.tail _ (.tail _ (.head _)))).cell 1⟩) ?_
      case hiu1063 => (simp only [List.getElem?_toArray, List.getElem?_cons_succ, List.getElem?_cons_zero]; exact rfl)
      case hsu1063 => kernel_rfl
      case hfu1063 => kernel_rfl
      case hru1063 => kernel_rfl
      case hzu1063 => kernel_rfl
      case hQu1063 => exact fun _ _ _ h => h
      case hwu1063 => rfl
      case hyu1063 => (intro w hSw; (try dsimp only at hSw); go_simp; (try with_reducible rfl))
      try simp only [Act.put, List.setIfInBounds_toArray, List.set_cons_zero, List.set_cons_succ]
      refine wpTail_done (by kernel_rfl) ?_ _
      go_wp2_with fail
      go_ret
      exact ⟨rfl, M1060.out.low⟩
    · have HPR := hide hpr
      clear hpr
      have hs1 : (1 : Int) ≤ (sa.size : Int) := by omega
      go_wp2_with fail
      have H1064 := WB.drew H1055
      refine wp_region_tail 99 (fun w' => w'.cell? ⟨g6, 0, none⟩ = some (.int .u64 nh) ∧ w'.cell? ⟨g6, 1, none⟩ = some (.int .u64 nl)) (by kernel_rfl) ⟨(WB.at_ H1064 (.head _)).cell 0, (WB.at_ H1064 (.head _)).cell 1⟩ (fun hHeld => ?_)
      clear hHeld
      try simp only [Act.put, List.setIfInBounds_toArray, List.set_cons_zero, List.set_cons_succ]
      refine' wpTail_take (i := 0) (oi := _) ?hiu1065 ?hsu1065 ?hfu1065 ?hru1065 ?hzu1065 ?hQu1065 (v := _) (Or.inl ⟨?hwu1065, ?hyu1065⟩) (⟨(WB.at_ H1064 (.head _)).cell 0, (WB.at_ H1064 (.head _)).cell 1⟩) ?_
      case hiu1065 => (simp only [List.getElem?_toArray, List.getElem?_cons_zero]; exact rfl)
      case hsu1065 => kernel_rfl
      case hfu1065 => kernel_rfl
      case hru1065 => kernel_rfl
      case hzu1065 => kernel_rfl
      case hQu1065 => exact fun _ _ _ h => h
      case hwu1065 => rfl
      case hyu1065 => (intro w hSw; (try dsimp only at hSw); go_simp; (try with_reducible rfl))
      try simp only [Act.put, List.setIfInBounds_toArray, List.set_cons_zero, List.set_cons_succ]
      refine' wpTail_take (i := 2) (oi := _) ?hiu1066 ?hsu1066 ?hfu1066 ?hru1066 ?hzu1066 ?hQu1066 (v := _) (Or.inl ⟨?hwu1066, ?hyu1066⟩) (⟨(WB.at_ H1064 (.head _)).cell 0, (WB.at_ H1064 (.head _)).cell 1⟩) ?_
      case hiu1066 => (simp only [List.getElem?_toArray, List.getElem?_cons_succ, List.getElem?_cons_zero]; exact rfl)
      case hsu1066 => kernel_rfl
      case hfu1066 => kernel_rfl
      case hru1066 => kernel_rfl
      case hzu1066 => kernel_rfl
      case hQu1066 => exact fun _ _ _ h => h
      case hwu1066 => rfl
      case hyu1066 => (intro w hSw; (try dsimp only at hSw); go_simp; (try with_reducible rfl))
      try simp only [Act.put, List.setIfInBounds_toArray, List.set_cons_zero, List.set_cons_succ]
      refine' wpTail_take (i := 3) (oi := _) ?hiu1067 ?hsu1067 ?hfu1067 ?hru1067 ?hzu1067 ?hQu1067 (v := _) (Or.inl ⟨?hwu1067, ?hyu1067⟩) (⟨(WB.at_ H1064 (.head _)).cell 0, (WB.at_ H1064 (.head _)).cell 1⟩) ?_
      case hiu1067 => (simp only [List.getElem?_toArray, List.getElem?_cons_succ, List.getElem?_cons_zero]; exact rfl)
      case hsu1067 => kernel_rfl
      case hfu1067 => kernel_rfl
      case hru1067 => kernel_rfl
      case hzu1067 => kernel_rfl
      case hQu1067 => exact fun _ _ _ h => h
      case hwu1067 => rfl
      case hyu1067 => (intro w hSw; (try dsimp only at hSw); go_simp; (try with_reducible rfl))
      try simp only [Act.put, List.setIfInBounds_toArray, List.set_cons_zero, List.set_cons_succ]
      refine' wpTail_one (i := 1) (o := _) (by kernel_rfl) ?hou1069 ?hwu1069 (fun K hK => ?_)
      case hou1069 => (simp only [List.getElem?_toArray, List.getElem?_cons_succ, List.getElem?_cons_zero]; exact rfl)
      case hwu1069 => rfl
      go_simp
      (with_reducible refine (HPR.out _).mono ?_)
      rintro e v1068 ⟨rfl, hb1068⟩
      have M1068 := WB.next hb1068 H1064
      refine hK.out _ _ (fun _ => ⟨(WB.at_ M1068 (.head _)).cell 0, (WB.at_ M1068 (.head _)).cell 1⟩) ?_
      clear hK K hb1068
      try simp only [Act.put, List.setIfInBounds_toArray, List.set_cons_zero, List.set_cons_succ]
      refine' wpTail_take (i := 4) (oi := _) ?hiu1070 ?hsu1070 ?hfu1070 ?hru1070 ?hzu1070 ?hQu1070 (v := _) (Or.inl ⟨?hwu1070, ?hyu1070⟩) (⟨(WB.at_ M1068 (.head _)).cell 0, (WB.at_ M1068 (.head _)).cell 1⟩) ?_
      case hiu1070 => (simp only [List.getElem?_toArray, List.getElem?_cons_succ, List.getElem?_cons_zero]; exact rfl)
      case hsu1070 => kernel_rfl
      case hfu1070 => kernel_rfl
      case hru1070 => kernel_rfl
      case hzu1070 => kernel_rfl
      case hQu1070 => exact fun _ _ _ h => h
      case hwu1070 => rfl
      case hyu1070 => (intro w hSw; (try dsimp only at hSw); go_simp; (try with_reducible rfl))
      try simp only [Act.put, List.setIfInBounds_toArray, List.set_cons_zero, List.set_cons_succ]
      refine' wpTail_take (i := 5) (oi := _) ?hiu1071 ?hsu1071 ?hfu1071 ?hru1071 ?hzu1071 ?hQu1071 (v := _) (Or.inl ⟨?hwu1071, ?hyu1071⟩) (⟨(WB.at_ M1068 (.head _)).cell 0, (WB.at_ M1068 (.head _)).cell 1⟩) ?_
      case hiu1071 => (simp only [List.getElem?_toArray, List.getElem?_cons_succ, List.getElem?_cons_zero]; exact rfl)
      case hsu1071 => kernel_rfl
      case hfu1071 => kernel_rfl
      case hru1071 => kernel_rfl
      case hzu1071 => kernel_rfl
      case hQu1071 => exact fun _ _ _ h => h
      case hwu1071 => rfl
      case hyu1071 => (intro w hSw; (try dsimp only at hSw); go_simp; (try with_reducible rfl))
      try simp only [Act.put, List.setIfInBounds_toArray, List.set_cons_zero, List.set_cons_succ]
      refine wpTail_done (by kernel_rfl) ?_ _
      go_wp2_with fail
      go_ret
      exact ⟨rfl, M1068.out.low⟩

theorem str_eq {l m : List UInt8} (h : (⟨l.toArray⟩ : ByteArray) = ⟨m.toArray⟩) : l = m := by
  injection h with h
  simpa using h
theorem toList_ba (l : List UInt8) : (⟨l.toArray⟩ : ByteArray).toList = l := by rw [ByteArray.toList_eq]
theorem back_law {x y : Int} (hx : Fits x) (hy : Fits y) (w : World) :
    Calls Tryd.prog 5 #[wv (hiW x) (loW x), wv (hiW y) (loW y)] w fun e w' => e = .returned (.bool true) ∧ Below w.heap.size w w' := by
  have hpx := fun W => print_any hx W
  have hpy := fun W => print_any hy W
  have hng := fun W => neg_any hx W
  rw [ansW_val] at hng
  have hlen : 0 < (⟨(textW x).toArray⟩ : ByteArray).size := by
    have := textW_ne x
    cases h : textW x with
    | nil => exact absurd h this
    | cons _ _ => simp [ByteArray.size]
  have hsgn : ((((⟨(textW x).toArray⟩ : ByteArray)[0]'hlen).toNat : Int) == 45) = decide (x < 0) := by
    by_cases hn : x < 0
    · rw [decide_eq_true hn, beq_iff_eq]
      have e : (⟨(textW x).toArray⟩ : ByteArray)[0]'hlen = 45 := by
        simp only [ByteArray.getElem_eq_getElem_data, textW_neg hn, List.getElem_toArray, List.getElem_cons_zero]
      rw [e]; rfl
    · rw [decide_eq_false hn, beq_eq_false_iff_ne]
      obtain ⟨c, l, e, _⟩ := digs_head x.toNat
      have e2 : (⟨(textW x).toArray⟩ : ByteArray)[0]'hlen = c := by
        simp only [ByteArray.getElem_eq_getElem_data, textW_pos hn, e, List.getElem_toArray, List.getElem_cons_zero]
      rw [e2]
      have := digs_all x.toNat c (by rw [e]; simp)
      omega
  refine back_walk (hiW x) (loW x) (hiW y) (loW y) (hiW (valW (-x))) (loW (valW (-x))) (errW (-x)) ⟨(textW x).toArray⟩ ⟨(textW y).toArray⟩ (decide (x < 0)) hlen hsgn (hide hpx) (hide hpy) (hide ?_) (hide ?_) w
  · by_cases hxy : x = y
    · subst hxy
      exact .inl ⟨rfl, rfl, rfl⟩
    · refine .inr ⟨?_, ?_⟩
      · rw [toList_ba, toList_ba, beq_eq_false_iff_ne]
        exact fun e => hxy (textW_inj e)
      · by_cases hh : hiW x = hiW y
        · exact .inr ⟨hh, fun hl => hxy (wv_inj hx hy hh hl)⟩
        · exact .inl hh
  · by_cases hn : x < 0
    · refine .inr ⟨decide_eq_true hn, hng, ?_⟩
      by_cases hf : Fits (-x)
      · refine .inr ⟨(valW_yes hf).2, fun W => ?_⟩
        have h := print_any hf W
        rw [(valW_yes hf).1]
        have e : (⟨(textW x).toArray⟩ : ByteArray).extract 1 (⟨(textW x).toArray⟩ : ByteArray).size = ⟨(textW (-x)).toArray⟩ := by
          apply ByteArray.ext
          apply Array.toList_inj.1
          rw [Lib.extract_data]
          rw [textW_neg hn, textW_pos (by omega)]
          simp [ByteArray.size]
        rw [e]
        exact h
      · refine .inl ⟨(valW_no hf).2, fun W => ?_⟩
        have h := cmp_any hx fits_zero W
        rw [show cmpI x 0 = -1 by unfold cmpI; rw [if_pos hn]] at h
        exact h
    · refine .inl ⟨decide_eq_false hn, fun W => ?_⟩
      have hd : (textW x) = digs x.toNat := textW_pos hn
      have hl39 : (digs x.toNat).length ≤ 39 := digs_len39 (by unfold Fits at hx; omega)
      have hall := digs_all x.toNat
      have hsz : (⟨(textW x).toArray⟩ : ByteArray).size = (digs x.toNat).length := by rw [hd]; simp [ByteArray.size]
      have hat : ∀ (k : Nat) (hk : k < (⟨(textW x).toArray⟩ : ByteArray).size), (⟨(textW x).toArray⟩ : ByteArray)[k]'hk ∈ digs x.toNat := fun k hk => by
        simp only [ByteArray.getElem_eq_getElem_data, List.getElem_toArray]
        rw [← hd]
        exact List.getElem_mem _
      have h := parse_good ⟨(textW x).toArray⟩ (by rw [hsz]; unfold maxLen; omega) hlen (fun h1 h48 => by
          obtain ⟨c, l, e, hc0⟩ := digs_head x.toNat
          have e2 : (⟨(textW x).toArray⟩ : ByteArray)[0]'hlen = c := by
            simp only [ByteArray.getElem_eq_getElem_data, hd, e, List.getElem_toArray, List.getElem_cons_zero]
          rw [e2] at h48
          rw [hsz, hc0 h48] at h1
          exact absurd h1 (by decide)) (fun k hk => hall _ (hat k hk)) W
      have e : parseN (valL (⟨(textW x).toArray⟩ : ByteArray).data.toList : Nat) = .tuple #[wv (hiW x) (loW x), .int .i64 0] := by
        have e1 : (valL (⟨(textW x).toArray⟩ : ByteArray).data.toList : Nat) = x.toNat := by
          show valL (textW x).toArray.toList = x.toNat
          rw [hd]
          simp only [List.toList_toArray]
          exact valL_digs _
        rw [e1, show ((x.toNat : Nat) : Int) = x by omega]
        unfold parseN
        rw [if_pos hx.2]
      rw [e] at h
      exact h
end Go.Proofs.YthedfplafcfklaaDoor
