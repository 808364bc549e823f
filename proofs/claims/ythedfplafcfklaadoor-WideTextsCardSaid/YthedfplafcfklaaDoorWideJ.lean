/- What WideTexts answers; conditions: none but that the numbers are of 128 and 64 bits. -/
import Derived.Test.YthedfplafcfklaaDoorDigD
import Derived.Test.YthedfplafcfklaaDoorDigE
import Derived.Test.YthedfplafcfklaaDoorDigF
import Derived.Test.YthedfplafcfklaaDoorDigG
import Derived.Test.YthedfplafcfklaaDoorWideD
namespace Go.Proofs.YthedfplafcfklaaDoor
open Go.RowKit Go.WideShapes Go.ChangeShapes
set_option linter.unusedVariables false
set_option maxRecDepth 100000

/-- What is a number's text, or none: what the program and the reference answer of a text. -/
def TextIs (s : ByteArray) : Prop :=
  (Hid (∀ W, Calls Tryd.prog 26 #[.string s] W fun e w' => e = .returned (.tuple #[wv 0 0, .int .i64 17]) ∧ Below W.heap.size W w') ∧ Hid (∀ W, Calls Tryd.prog 27 #[.string s] W (ParseBad W))) ∨
  (∃ (v : Nat) (p q er : Int), ansW (v : Int) = .tuple #[wv p q, .int .i64 er] ∧ v < 10 ^ 250 ∧ Hid (∀ W, Calls Tryd.prog 26 #[.string s] W fun e w' => e = .returned (.tuple #[wv p q, .int .i64 er]) ∧ Below W.heap.size W w') ∧ Hid (∀ W, Calls Tryd.prog 27 #[.string s] W (ParseGood W v)))
theorem parseN_ans (v : Nat) : parseN (v : Int) = ansW (v : Int) := by
  unfold parseN ansW
  by_cases h : (v : Int) < 170141183460469231731687303715884105728
  · rw [if_pos h, if_pos (by unfold Fits; omega)]
  · rw [if_neg h, if_neg (by unfold Fits; omega)]
theorem text_is (s : ByteArray) (hs : s.size ≤ 200) : TextIs s := by
  by_cases h1 : 0 < s.size
  · by_cases h2 : 1 < s.size ∧ (s[0]'h1).toNat = 48
    · exact .inl ⟨hide (fun W => parse_zero s h2.1 h2.2 W), hide (fun W => rparse_zero s h2.1 h2.2 W)⟩
    · have h2' : 1 < s.size → ¬ (s[0]'h1).toNat = 48 := fun a b => h2 ⟨a, b⟩
      by_cases h3 : ∀ k, DigC s k
      · obtain ⟨p, q, er, hp⟩ := ansW_form (valL s.data.toList : Nat)
        have hv : valL s.data.toList < 10 ^ 250 := by
          have h4 := dval_lt (digD_dok h3)
          rw [digD_val, digD_len] at h4
          exact Nat.lt_of_lt_of_le h4 (Nat.pow_le_pow_right (by omega) (by omega))
        refine .inr ⟨valL s.data.toList, p, q, er, hp, hv, hide (fun W => ?_), hide (fun W => ?_)⟩
        · have h := parse_good s (by unfold maxLen; omega) h1 h2' (fun k hk => h3 k hk) W
          rw [parseN_ans, hp] at h
          exact h
        · refine (rparse_loop s (by omega) h1 h2' W).mono ?_
          rintro e w' (⟨_, h⟩ | ⟨h, _⟩)
          · exact h
          · exact absurd h3 (fun h5 => h.elim fun k hk => hk (h5 k))
      · have h4 : ∃ k, ¬ DigC s k := Classical.not_forall.1 h3
        have h5 : Lib.trimS s.data.toList tenS.data.toList ≠ [] := by
          obtain ⟨k, hk⟩ := h4
          unfold DigC at hk
          obtain ⟨hks, hk⟩ := Classical.not_forall.1 hk
          have hl : k < s.data.toList.length := by simpa using hks
          refine trimS_ne (x := s.data.toList[k]) (List.getElem_mem hl) ?_
          rw [ten_has]
          have e : s.data.toList[k] = s[k]'hks := by simp; rfl
          rw [e]
          unfold digB
          rw [Bool.and_eq_false_iff, decide_eq_false_iff_not, decide_eq_false_iff_not]
          omega
        refine .inl ⟨hide (fun W => parse_bad s (by unfold maxLen; omega) h1 h5 W), hide (fun W => ?_)⟩
        refine (rparse_loop s (by omega) h1 h2' W).mono ?_
        rintro e w' (⟨h, _⟩ | ⟨_, h⟩)
        · exact absurd h h3
        · exact h
  · have e : s = ⟨#[]⟩ := by
      apply ByteArray.ext
      apply Array.eq_empty_of_size_eq_zero
      have h2 : s.size = s.data.size := rfl
      omega
    subst e
    exact .inl ⟨hide (fun W => parse_empty W), hide (fun W => rparse_empty W)⟩

set_option maxHeartbeats 16000000 in
theorem texts_law {x : Int} (hx : Fits x) (s : ByteArray) {nn : Int} (hnn : -9223372036854775808 ≤ nn ∧ nn ≤ 9223372036854775807) (w : World) :
    Calls Tryd.prog 4 #[wv (hiW x) (loW x), .string s, .int .i64 nn] w fun e w' => e = .returned (.bool true) ∧ Below w.heap.size w w' := by
  obtain ⟨sx, hsx⟩ : ∃ b, b = decide (x < 0) := ⟨_, rfl⟩
  have HOX := hide (fun W => (show Calls Tryd.prog 9 #[wv (hiW x) (loW x)] W (NumS W sx x.natAbs) from by rw [hsx]; exact ref_of hx W))
  obtain ⟨TX, hTX⟩ : ∃ t : ByteArray, t = ⟨(textW x).toArray⟩ := ⟨_, rfl⟩
  have HPW := hide (fun W => (show Calls Tryd.prog 28 #[wv (hiW x) (loW x)] W fun e w' => e = .returned (.string TX) ∧ Below W.heap.size W w' from by rw [hTX]; exact print_any hx W))
  have HON := hide (fun W => of_any nn hnn W)
  have HIN := hide (fun W => (show Calls Tryd.prog 23 #[wv (hiW nn) (loW nn)] W fun e w' => e = .returned (.tuple #[.int .i64 nn, .int .i64 0]) ∧ Below W.heap.size W w' from (wint_any (x := nn) (by unfold Fits; omega) W).mono (by
    rintro e w' ⟨⟨_, rfl⟩ | ⟨h, _⟩, hb⟩
    · exact ⟨rfl, hb⟩
    · exact absurd (by unfold IntW; omega) h)))
  obtain ⟨nh, hnh⟩ : ∃ z, z = hiW nn := ⟨_, rfl⟩
  obtain ⟨nl, hnl⟩ : ∃ z, z = loW nn := ⟨_, rfl⟩
  rw [← hnh, ← hnl] at HON HIN
  have HIY := hide (fun (h : IntW x) W => (show Calls Tryd.prog 23 #[wv (hiW x) (loW x)] W fun e w' => e = .returned (.tuple #[.int .i64 x, .int .i64 0]) ∧ Below W.heap.size W w' from (wint_any hx W).mono (by
    rintro e w' ⟨⟨_, rfl⟩ | ⟨h2, _⟩, hb⟩
    · exact ⟨rfl, hb⟩
    · exact absurd h h2)))
  have HIO := hide (fun (h : ¬ IntW x) W => (show Calls Tryd.prog 23 #[wv (hiW x) (loW x)] W fun e w' => e = .returned (.tuple #[.int .i64 0, .int .i64 10]) ∧ Below W.heap.size W w' from (wint_any hx W).mono (by
    rintro e w' ⟨⟨h2, _⟩ | ⟨_, rfl⟩, hb⟩
    · exact absurd h2 h
    · exact ⟨rfl, hb⟩)))
  have HOI := hide (fun (h : IntW x) W => of_any x (by unfold IntW at h; omega) W)
  have HSX := hide hsx
  have HTX := hide hTX
  have HFX := hide (fits_len hx)
  obtain ⟨xh, hxh⟩ : ∃ z, z = hiW x := ⟨_, rfl⟩
  obtain ⟨xl, hxl⟩ : ∃ z, z = loW x := ⟨_, rfl⟩
  rw [← hxh, ← hxl] at HOX HPW HIY HIO HOI ⊢
  have H0 := NB.add 24 #[.int .u64 xh, .int .u64 xl] (NB.nil w)
  clear hx hsx hTX hnh hnl hxh hxl hnn
  go_enter Tryd.func4, Tryd.ntmps4
  go_upto_region 1 with (fail)
  obtain ⟨W, hW⟩ : ∃ W : World, W = (w.alloc (.cells #[.int .u64 xh, .int .u64 xl] 24)) := ⟨_, rfl⟩
  obtain ⟨ga, hga⟩ : ∃ g, g = w.heap.size := ⟨_, rfl⟩
  rw [← hW] at H0 ⊢
  rw [← hga] at H0
  try rw [← hga]
  clear hW hga
  go_wp2_with fail
  refine (awake01 _).mono ?_
  rintro e v1001 ⟨rfl, hb1001⟩
  have M1001 := NB.next hb1001 H0
  clear hb1001
  by_cases h200 : 200 < s.size
  · have e1 : (200 : Int) < (s.size : Int) := by omega
    go_wp2_with fail
    go_ret
    exact ⟨rfl, M1001.out.low⟩
  have e1 : ¬ (200 : Int) < (s.size : Int) := by omega
  have HTI := hide (text_is s (by omega))
  obtain ⟨q1002a, q1002b, q1002c, q1002d⟩ := two_cellsN (NB.at_ M1001 (.head _))
  go_wp2_with fail
  refine (HOX.out _).mono ?_
  rintro e v1003 ⟨A, n, c, rfl, hdx, hcx, hb1003⟩
  have M1003 := NB.next hb1003 M1001
  clear hb1003
  clear q1002a q1002b q1002c q1002d
  have HDX := hide hdx
  have HCX := hide hcx
  clear hdx hcx
  have H1004 := NB.add 28 #[.bool sx, .slice A n c] M1003
  obtain ⟨g7, hg7⟩ : ∃ g, g = v1003.heap.size := ⟨_, rfl⟩
  rw [← hg7] at H1004
  have HGg7 := hide hg7
  clear hg7
  replace HDX := hide (HDX.out.alloc (.cells #[.bool sx, .slice A n c] 28))
  go_upto_region 6 with (fail)
  rw [← HGg7.out]
  obtain ⟨W1004, hW1004⟩ : ∃ W : World, W = v1003.alloc (.cells #[.bool sx, .slice A n c] 28) := ⟨_, rfl⟩
  rw [← hW1004] at H1004 HDX ⊢
  clear hW1004
  have hn39 : n ≤ 39 := by have h1 := HDX.out.1; have h2 := HFX.out; omega
  have HSM := hide (fun (b : Bool) (hb : b = decide (-9223372036854775808 ≤ x ∧ x < 9223372036854775808)) (W : World) (h : Dg W A n (dgs x.natAbs)) => (show Calls Tryd.prog 24 #[.agg #[.bool sx, .slice A n c]] W fun e w' => e = .returned (.bool b) ∧ Below W.heap.size W w' from by rw [HSX.out, hb]; exact ref_small x h (by omega)))
  by_cases hI : IntW x
  · skip
    obtain ⟨q1005a, q1005b, q1005c, q1005d⟩ := two_cellsN (NB.at_ H1004 (.tail _ (.head _)))
    go_wp2_with fail
    refine ((HIY.out hI _)).mono ?_
    rintro e v1006 ⟨rfl, hb1006⟩
    have M1006 := NB.next hb1006 H1004
    replace HDX := hide (HDX.out.below hb1006)
    clear hb1006
    clear q1005a q1005b q1005c q1005d
    have HSS := HSM.out true (by rw [eq_comm, decide_eq_true_iff]; exact hI)
    go_wp2_with fail
    have H1007 := NB.drew M1006
    replace HDX : Hid (Dg v1006.drew _ _ _) := HDX
    refine wp_region_tail 99 (fun w' => w'.cell? ⟨ga, 0, none⟩ = some (.int .u64 xh) ∧ w'.cell? ⟨ga, 1, none⟩ = some (.int .u64 xl) ∧ w'.cell? ⟨g7, 0, none⟩ = some (.bool sx) ∧ w'.cell? ⟨g7, 1, none⟩ = some (.slice A n c)) (by kernel_rfl) ⟨(NB.at_ H1007 (.tail _ (.head _))).cell 0, (NB.at_ H1007 (.tail _ (.head _))).cell 1, (NB.at_ H1007 (.head _)).cell 0, (NB.at_ H1007 (.head _)).cell 1⟩ (fun hHeld => ?_)
    obtain ⟨V1007, hV1007⟩ : ∃ W : World, W = v1006.drew := ⟨_, rfl⟩
    rw [← hV1007] at H1007 HDX ⊢
    clear hV1007 hHeld
    try simp only [Act.put, List.setIfInBounds_toArray, List.set_cons_zero, List.set_cons_succ]
    refine' wpTail_take (i := 0) (oi := _) ?hiu1008 ?hsu1008 ?hfu1008 ?hru1008 ?hzu1008 ?hQu1008 (v := _) (Or.inl ⟨?hwu1008, ?hyu1008⟩) (⟨(NB.at_ H1007 (.tail _ (.head _))).cell 0, (NB.at_ H1007 (.tail _ (.head _))).cell 1, (NB.at_ H1007 (.head _)).cell 0, (NB.at_ H1007 (.head _)).cell 1⟩) ?_
    case hiu1008 => (simp only [List.getElem?_toArray, List.getElem?_cons_zero]; exact rfl)
    case hsu1008 => kernel_rfl
    case hfu1008 => kernel_rfl
    case hru1008 => kernel_rfl
    case hzu1008 => kernel_rfl
    case hQu1008 => exact fun _ _ _ h => h
    case hwu1008 => rfl
    case hyu1008 => (intro w hSw; (try dsimp only at hSw); go_simp; (try with_reducible rfl))
    try simp only [Act.put, List.setIfInBounds_toArray, List.set_cons_zero, List.set_cons_succ]
    refine' wpTail_take (i := 2) (oi := _) ?hiu1009 ?hsu1009 ?hfu1009 ?hru1009 ?hzu1009 ?hQu1009 (v := _) (Or.inl ⟨?hwu1009, ?hyu1009⟩) (⟨(NB.at_ H1007 (.tail _ (.head _))).cell 0, (NB.at_ H1007 (.tail _ (.head _))).cell 1, (NB.at_ H1007 (.head _)).cell 0, (NB.at_ H1007 (.head _)).cell 1⟩) ?_
    case hiu1009 => (simp only [List.getElem?_toArray, List.getElem?_cons_succ, List.getElem?_cons_zero]; exact rfl)
    case hsu1009 => kernel_rfl
    case hfu1009 => kernel_rfl
    case hru1009 => kernel_rfl
    case hzu1009 => kernel_rfl
    case hQu1009 => exact fun _ _ _ h => h
    case hwu1009 => rfl
    case hyu1009 => (intro w hSw; (try dsimp only at hSw); go_simp; (try with_reducible rfl))
    try simp only [Act.put, List.setIfInBounds_toArray, List.set_cons_zero, List.set_cons_succ]
    refine' wpTail_take (i := 3) (oi := _) ?hiu1010 ?hsu1010 ?hfu1010 ?hru1010 ?hzu1010 ?hQu1010 (v := _) (Or.inl ⟨?hwu1010, ?hyu1010⟩) (⟨(NB.at_ H1007 (.tail _ (.head _))).cell 0, (NB.at_ H1007 (.tail _ (.head _))).cell 1, (NB.at_ H1007 (.head _)).cell 0, (NB.at_ H1007 (.head _)).cell 1⟩) ?_
    case hiu1010 => (simp only [List.getElem?_toArray, List.getElem?_cons_succ, List.getElem?_cons_zero]; exact rfl)
    case hsu1010 => kernel_rfl
    case hfu1010 => kernel_rfl
    case hru1010 => kernel_rfl
    case hzu1010 => kernel_rfl
    case hQu1010 => exact fun _ _ _ h => h
    case hwu1010 => rfl
    case hyu1010 => (intro w hSw; (try dsimp only at hSw); go_simp; (try with_reducible rfl))
    try simp only [Act.put, List.setIfInBounds_toArray, List.set_cons_zero, List.set_cons_succ]
    refine' wpTail_one (i := 1) (o := _) (by kernel_rfl) ?hou1012 ?hwu1012 (fun K hK => ?_)
    case hou1012 => (simp only [List.getElem?_toArray, List.getElem?_cons_succ, List.getElem?_cons_zero]; exact rfl)
    case hwu1012 => rfl
    go_simp
    (with_reducible refine (HSS _ HDX.out).mono ?_)
    rintro e v1011 ⟨rfl, hb1011⟩
    have M1011 := NB.next hb1011 H1007
    replace HDX := hide (HDX.out.below hb1011)
    refine hK.out _ _ (fun _ => ⟨(NB.at_ M1011 (.tail _ (.head _))).cell 0, (NB.at_ M1011 (.tail _ (.head _))).cell 1, (NB.at_ M1011 (.head _)).cell 0, (NB.at_ M1011 (.head _)).cell 1⟩) ?_
    clear hK K hb1011
    try simp only [Act.put, List.setIfInBounds_toArray, List.set_cons_zero, List.set_cons_succ]
    refine' wpTail_take (i := 4) (oi := _) ?hiu1013 ?hsu1013 ?hfu1013 ?hru1013 ?hzu1013 ?hQu1013 (v := _) (Or.inl ⟨?hwu1013, ?hyu1013⟩) (⟨(NB.at_ M1011 (.tail _ (.head _))).cell 0, (NB.at_ M1011 (.tail _ (.head _))).cell 1, (NB.at_ M1011 (.head _)).cell 0, (NB.at_ M1011 (.head _)).cell 1⟩) ?_
    case hiu1013 => (simp only [List.getElem?_toArray, List.getElem?_cons_succ, List.getElem?_cons_zero]; exact rfl)
    case hsu1013 => kernel_rfl
    case hfu1013 => kernel_rfl
    case hru1013 => kernel_rfl
    case hzu1013 => kernel_rfl
    case hQu1013 => exact fun _ _ _ h => h
    case hwu1013 => rfl
    case hyu1013 => (intro w hSw; (try dsimp only at hSw); go_simp; (try with_reducible rfl))
    try simp only [Act.put, List.setIfInBounds_toArray, List.set_cons_zero, List.set_cons_succ]
    refine' wpTail_take (i := 5) (oi := _) ?hiu1014 ?hsu1014 ?hfu1014 ?hru1014 ?hzu1014 ?hQu1014 (v := _) (Or.inl ⟨?hwu1014, ?hyu1014⟩) (⟨(NB.at_ M1011 (.tail _ (.head _))).cell 0, (NB.at_ M1011 (.tail _ (.head _))).cell 1, (NB.at_ M1011 (.head _)).cell 0, (NB.at_ M1011 (.head _)).cell 1⟩) ?_
    case hiu1014 => (simp only [List.getElem?_toArray, List.getElem?_cons_succ, List.getElem?_cons_zero]; exact rfl)
    case hsu1014 => kernel_rfl
    case hfu1014 => kernel_rfl
    case hru1014 => kernel_rfl
    case hzu1014 => kernel_rfl
    case hQu1014 => exact fun _ _ _ h => h
    case hwu1014 => rfl
    case hyu1014 => (intro w hSw; (try dsimp only at hSw); go_simp; (try with_reducible rfl))
    try simp only [Act.put, List.setIfInBounds_toArray, List.set_cons_zero, List.set_cons_succ]
    refine' wpTail_take (i := 6) (oi := _) ?hiu1015 ?hsu1015 ?hfu1015 ?hru1015 ?hzu1015 ?hQu1015 (v := _) (Or.inl ⟨?hwu1015, ?hyu1015⟩) (⟨(NB.at_ M1011 (.tail _ (.head _))).cell 0, (NB.at_ M1011 (.tail _ (.head _))).cell 1, (NB.at_ M1011 (.head _)).cell 0, (NB.at_ M1011 (.head _)).cell 1⟩) ?_
    case hiu1015 => (simp only [List.getElem?_toArray, List.getElem?_cons_succ, List.getElem?_cons_zero]; exact rfl)
    case hsu1015 => kernel_rfl
    case hfu1015 => kernel_rfl
    case hru1015 => kernel_rfl
    case hzu1015 => kernel_rfl
    case hQu1015 => exact fun _ _ _ h => h
    case hwu1015 => rfl
    case hyu1015 => (intro w hSw; (try dsimp only at hSw); go_simp; (try with_reducible rfl))
    try simp only [Act.put, List.setIfInBounds_toArray, List.set_cons_zero, List.set_cons_succ]
    refine' wpTail_take (i := 7) (oi := _) ?hiu1016 ?hsu1016 ?hfu1016 ?hru1016 ?hzu1016 ?hQu1016 (v := _) (Or.inl ⟨?hwu1016, ?hyu1016⟩) (⟨(NB.at_ M1011 (.tail _ (.head _))).cell 0, (NB.at_ M1011 (.tail _ (.head _))).cell 1, (NB.at_ M1011 (.head _)).cell 0, (NB.at_ M1011 (.head _)).cell 1⟩) ?_
    case hiu1016 => (simp only [List.getElem?_toArray, List.getElem?_cons_succ, List.getElem?_cons_zero]; exact rfl)
    case hsu1016 => kernel_rfl
    case hfu1016 => kernel_rfl
    case hru1016 => kernel_rfl
    case hzu1016 => kernel_rfl
    case hQu1016 => exact fun _ _ _ h => h
    case hwu1016 => rfl
    case hyu1016 => (intro w hSw; (try dsimp only at hSw); go_simp; (try with_reducible rfl))
    try simp only [Act.put, List.setIfInBounds_toArray, List.set_cons_zero, List.set_cons_succ]
    refine' wpTail_take (i := 8) (oi := _) ?hiu1017 ?hsu1017 ?hfu1017 ?hru1017 ?hzu1017 ?hQu1017 (v := _) (Or.inl ⟨?hwu1017, ?hyu1017⟩) (⟨(NB.at_ M1011 (.tail _ (.head _))).cell 0, (NB.at_ M1011 (.tail _ (.head _))).cell 1, (NB.at_ M1011 (.head _)).cell 0, (NB.at_ M1011 (.head _)).cell 1⟩) ?_
    case hiu1017 => (simp only [List.getElem?_toArray, List.getElem?_cons_succ, List.getElem?_cons_zero]; exact rfl)
    case hsu1017 => kernel_rfl
    case hfu1017 => kernel_rfl
    case hru1017 => kernel_rfl
    case hzu1017 => kernel_rfl
    case hQu1017 => exact fun _ _ _ h => h
    case hwu1017 => rfl
    case hyu1017 => (intro w hSw; (try dsimp only at hSw); go_simp; (try with_reducible rfl))
    try simp only [Act.put, List.setIfInBounds_toArray, List.set_cons_zero, List.set_cons_succ]
    refine' wpTail_take (i := 9) (oi := _) ?hiu1018 ?hsu1018 ?hfu1018 ?hru1018 ?hzu1018 ?hQu1018 (v := _) (Or.inl ⟨?hwu1018, ?hyu1018⟩) (⟨(NB.at_ M1011 (.tail _ (.head _))).cell 0, (NB.at_ M1011 (.tail _ (.head _))).cell 1, (NB.at_ M1011 (.head _)).cell 0, (NB.at_ M1011 (.head _)).cell 1⟩) ?_
    case hiu1018 => (simp only [List.getElem?_toArray, List.getElem?_cons_succ, List.getElem?_cons_zero]; exact rfl)
    case hsu1018 => kernel_rfl
    case hfu1018 => kernel_rfl
    case hru1018 => kernel_rfl
    case hzu1018 => kernel_rfl
    case hQu1018 => exact fun _ _ _ h => h
    case hwu1018 => rfl
    case hyu1018 => (intro w hSw; (try dsimp only at hSw); go_simp; (try with_reducible rfl))
    try simp only [Act.put, List.setIfInBounds_toArray, List.set_cons_zero, List.set_cons_succ]
    refine' wpTail_take (i := 11) (oi := _) ?hiu1019 ?hsu1019 ?hfu1019 ?hru1019 ?hzu1019 ?hQu1019 (v := _) (Or.inl ⟨?hwu1019, ?hyu1019⟩) (⟨(NB.at_ M1011 (.tail _ (.head _))).cell 0, (NB.at_ M1011 (.tail _ (.head _))).cell 1, (NB.at_ M1011 (.head _)).cell 0, (NB.at_ M1011 (.head _)).cell 1⟩) ?_
    case hiu1019 => (simp only [List.getElem?_toArray, List.getElem?_cons_succ, List.getElem?_cons_zero]; exact rfl)
    case hsu1019 => kernel_rfl
    case hfu1019 => kernel_rfl
    case hru1019 => kernel_rfl
    case hzu1019 => kernel_rfl
    case hQu1019 => exact fun _ _ _ h => h
    case hwu1019 => rfl
    case hyu1019 => (intro w hSw; (try dsimp only at hSw); go_simp; (try with_reducible rfl))
    try simp only [Act.put, List.setIfInBounds_toArray, List.set_cons_zero, List.set_cons_succ]
    refine' wpTail_one (i := 10) (o := _) (by kernel_rfl) ?hou1021 ?hwu1021 (fun K hK => ?_)
    case hou1021 => (simp only [List.getElem?_toArray, List.getElem?_cons_succ, List.getElem?_cons_zero]; exact rfl)
    case hwu1021 => rfl
    go_simp
    (with_reducible refine (HOI.out hI _).mono ?_)
    rintro e v1020 ⟨rfl, hb1020⟩
    have M1020 := NB.next hb1020 M1011
    replace HDX := hide (HDX.out.below hb1020)
    refine hK.out _ _ (fun _ => ⟨(NB.at_ M1020 (.tail _ (.head _))).cell 0, (NB.at_ M1020 (.tail _ (.head _))).cell 1, (NB.at_ M1020 (.head _)).cell 0, (NB.at_ M1020 (.head _)).cell 1⟩) ?_
    clear hK K hb1020
    try simp only [Act.put, List.setIfInBounds_toArray, List.set_cons_zero, List.set_cons_succ]
    refine' wpTail_take (i := 12) (oi := _) ?hiu1022 ?hsu1022 ?hfu1022 ?hru1022 ?hzu1022 ?hQu1022 (v := _) (Or.inl ⟨?hwu1022, ?hyu1022⟩) (⟨(NB.at_ M1020 (.tail _ (.head _))).cell 0, (NB.at_ M1020 (.tail _ (.head _))).cell 1, (NB.at_ M1020 (.head _)).cell 0, (NB.at_ M1020 (.head _)).cell 1⟩) ?_
    case hiu1022 => (simp only [List.getElem?_toArray, List.getElem?_cons_succ, List.getElem?_cons_zero]; exact rfl)
    case hsu1022 => kernel_rfl
    case hfu1022 => kernel_rfl
    case hru1022 => kernel_rfl
    case hzu1022 => kernel_rfl
    case hQu1022 => exact fun _ _ _ h => h
    case hwu1022 => rfl
    case hyu1022 => (intro w hSw; (try dsimp only at hSw); go_simp; (try with_reducible rfl))
    try simp only [Act.put, List.setIfInBounds_toArray, List.set_cons_zero, List.set_cons_succ]
    refine' wpTail_take (i := 13) (oi := _) ?hiu1023 ?hsu1023 ?hfu1023 ?hru1023 ?hzu1023 ?hQu1023 (v := _) (Or.inl ⟨?hwu1023, ?hyu1023⟩) (⟨(NB.at_ M1020 (.tail _ (.head _))).cell 0, (NB.at_ M1020 (.tail _ (.head _))).cell 1, (NB.at_ M1020 (.head _)).cell 0, (NB.at_ M1020 (.head _)).cell 1⟩) ?_
    case hiu1023 => (simp only [List.getElem?_toArray, List.getElem?_cons_succ, List.getElem?_cons_zero]; exact rfl)
    case hsu1023 => kernel_rfl
    case hfu1023 => kernel_rfl
    case hru1023 => kernel_rfl
    case hzu1023 => kernel_rfl
    case hQu1023 => exact fun _ _ _ h => h
    case hwu1023 => rfl
    case hyu1023 => (intro w hSw; (try dsimp only at hSw); go_simp; (try with_reducible rfl))
    try simp only [Act.put, List.setIfInBounds_toArray, List.set_cons_zero, List.set_cons_succ]
    refine' wpTail_take (i := 14) (oi := _) ?hiu1024 ?hsu1024 ?hfu1024 ?hru1024 ?hzu1024 ?hQu1024 (v := _) (Or.inl ⟨?hwu1024, ?hyu1024⟩) (⟨(NB.at_ M1020 (.tail _ (.head _))).cell 0, (NB.at_ M1020 (.tail _ (.head _))).cell 1, (NB.at_ M1020 (.head _)).cell 0, (NB.at_ M1020 (.head _)).cell 1⟩) ?_
    case hiu1024 => (simp only [List.getElem?_toArray, List.getElem?_cons_succ, List.getElem?_cons_zero]; exact rfl)
    case hsu1024 => kernel_rfl
    case hfu1024 => kernel_rfl
    case hru1024 => kernel_rfl
    case hzu1024 => kernel_rfl
    case hQu1024 => exact fun _ _ _ h => h
    case hwu1024 => rfl
    case hyu1024 => (intro w hSw; (try dsimp only at hSw); go_simp; (try with_reducible rfl))
    try simp only [Act.put, List.setIfInBounds_toArray, List.set_cons_zero, List.set_cons_succ]
    refine' wpTail_take (i := 15) (oi := _) ?hiu1025 ?hsu1025 ?hfu1025 ?hru1025 ?hzu1025 ?hQu1025 (v := _) (Or.inl ⟨?hwu1025, ?hyu1025⟩) (⟨(NB.at_ M1020 (.tail _ (.head _))).cell 0, (NB.at_ M1020 (.tail _ (.head _))).cell 1, (NB.at_ M1020 (.head _)).cell 0, (NB.at_ M1020 (.head _)).cell 1⟩) ?_
    case hiu1025 => (simp only [List.getElem?_toArray, List.getElem?_cons_succ, List.getElem?_cons_zero]; exact rfl)
    case hsu1025 => kernel_rfl
    case hfu1025 => kernel_rfl
    case hru1025 => kernel_rfl
    case hzu1025 => kernel_rfl
    case hQu1025 => exact fun _ _ _ h => h
    case hwu1025 => rfl
    case hyu1025 => (intro w hSw; (try dsimp only at hSw); go_simp; (try with_reducible rfl))
    try simp only [Act.put, List.setIfInBounds_toArray, List.set_cons_zero, List.set_cons_succ]
    refine' wpTail_take (i := 16) (oi := _) ?hiu1026 ?hsu1026 ?hfu1026 ?hru1026 ?hzu1026 ?hQu1026 (v := _) (Or.inl ⟨?hwu1026, ?hyu1026⟩) (⟨(NB.at_ M1020 (.tail _ (.head _))).cell 0, (NB.at_ M1020 (.tail _ (.head _))).cell 1, (NB.at_ M1020 (.head _)).cell 0, (NB.at_ M1020 (.head _)).cell 1⟩) ?_
    case hiu1026 => (simp only [List.getElem?_toArray, List.getElem?_cons_succ, List.getElem?_cons_zero]; exact rfl)
    case hsu1026 => kernel_rfl
    case hfu1026 => kernel_rfl
    case hru1026 => kernel_rfl
    case hzu1026 => kernel_rfl
    case hQu1026 => exact fun _ _ _ h => h
    case hwu1026 => rfl
    case hyu1026 => (intro w hSw; (try dsimp only at hSw); go_simp; (try with_reducible rfl))
    try simp only [Act.put, List.setIfInBounds_toArray, List.set_cons_zero, List.set_cons_succ]
    refine' wpTail_take (i := 17) (oi := _) ?hiu1027 ?hsu1027 ?hfu1027 ?hru1027 ?hzu1027 ?hQu1027 (v := _) (Or.inl ⟨?hwu1027, ?hyu1027⟩) (⟨(NB.at_ M1020 (.tail _ (.head _))).cell 0, (NB.at_ M1020 (.tail _ (.head _))).cell 1, (NB.at_ M1020 (.head _)).cell 0, (NB.at_ M1020 (.head _)).cell 1⟩) ?_
    case hiu1027 => (simp only [List.getElem?_toArray, List.getElem?_cons_succ, List.getElem?_cons_zero]; exact rfl)
    case hsu1027 => kernel_rfl
    case hfu1027 => kernel_rfl
    case hru1027 => kernel_rfl
    case hzu1027 => kernel_rfl
    case hQu1027 => exact fun _ _ _ h => h
    case hwu1027 => rfl
    case hyu1027 => (intro w hSw; (try dsimp only at hSw); go_simp; (try with_reducible rfl))
    try simp only [Act.put, List.setIfInBounds_toArray, List.set_cons_zero, List.set_cons_succ]
    refine' wpTail_take (i := 18) (oi := _) ?hiu1028 ?hsu1028 ?hfu1028 ?hru1028 ?hzu1028 ?hQu1028 (v := _) (Or.inl ⟨?hwu1028, ?hyu1028⟩) (⟨(NB.at_ M1020 (.tail _ (.head _))).cell 0, (NB.at_ M1020 (.tail _ (.head _))).cell 1, (NB.at_ M1020 (.head _)).cell 0, (NB.at_ M1020 (.head _)).cell 1⟩) ?_
    case hiu1028 => (simp only [List.getElem?_toArray, List.getElem?_cons_succ, List.getElem?_cons_zero]; exact rfl)
    case hsu1028 => kernel_rfl
    case hfu1028 => kernel_rfl
    case hru1028 => kernel_rfl
    case hzu1028 => kernel_rfl
    case hQu1028 => exact fun _ _ _ h => h
    case hwu1028 => rfl
    case hyu1028 => (intro w hSw; (try dsimp only at hSw); go_simp; (try with_reducible rfl))
    try simp only [Act.put, List.setIfInBounds_toArray, List.set_cons_zero, List.set_cons_succ]
    refine' wpTail_take (i := 19) (oi := _) ?hiu1029 ?hsu1029 ?hfu1029 ?hru1029 ?hzu1029 ?hQu1029 (v := undef) (Or.inr ⟨?hwu1029, rfl⟩) (⟨(NB.at_ M1020 (.tail _ (.head _))).cell 0, (NB.at_ M1020 (.tail _ (.head _))).cell 1, (NB.at_ M1020 (.head _)).cell 0, (NB.at_ M1020 (.head _)).cell 1⟩) ?_
    case hiu1029 => (simp only [List.getElem?_toArray, List.getElem?_cons_succ, List.getElem?_cons_zero]; exact rfl)
    case hsu1029 => kernel_rfl
    case hfu1029 => kernel_rfl
    case hru1029 => kernel_rfl
    case hzu1029 => kernel_rfl
    case hQu1029 => exact fun _ _ _ h => h
    case hwu1029 => rfl
    try simp only [Act.put, List.setIfInBounds_toArray, List.set_cons_zero, List.set_cons_succ]
    refine' wpTail_take (i := 20) (oi := _) ?hiu1030 ?hsu1030 ?hfu1030 ?hru1030 ?hzu1030 ?hQu1030 (v := undef) (Or.inr ⟨?hwu1030, rfl⟩) (⟨(NB.at_ M1020 (.tail _ (.head _))).cell 0, (NB.at_ M1020 (.tail _ (.head _))).cell 1, (NB.at_ M1020 (.head _)).cell 0, (NB.at_ M1020 (.head _)).cell 1⟩) ?_
    case hiu1030 => (simp only [List.getElem?_toArray, List.getElem?_cons_succ, List.getElem?_cons_zero]; exact rfl)
    case hsu1030 => kernel_rfl
    case hfu1030 => kernel_rfl
    case hru1030 => kernel_rfl
    case hzu1030 => kernel_rfl
    case hQu1030 => exact fun _ _ _ h => h
    case hwu1030 => rfl
    try simp only [Act.put, List.setIfInBounds_toArray, List.set_cons_zero, List.set_cons_succ]
    refine' wpTail_take (i := 21) (oi := _) ?hiu1031 ?hsu1031 ?hfu1031 ?hru1031 ?hzu1031 ?hQu1031 (v := undef) (Or.inr ⟨?hwu1031, rfl⟩) (⟨(NB.at_ M1020 (.tail _ (.head _))).cell 0, (NB.at_ M1020 (.tail _ (.head _))).cell 1, (NB.at_ M1020 (.head _)).cell 0, (NB.at_ M1020 (.head _)).cell 1⟩) ?_
    case hiu1031 => (simp only [List.getElem?_toArray, List.getElem?_cons_succ, List.getElem?_cons_zero]; exact rfl)
    case hsu1031 => kernel_rfl
    case hfu1031 => kernel_rfl
    case hru1031 => kernel_rfl
    case hzu1031 => kernel_rfl
    case hQu1031 => exact fun _ _ _ h => h
    case hwu1031 => rfl
    try simp only [Act.put, List.setIfInBounds_toArray, List.set_cons_zero, List.set_cons_succ]
    refine' wpTail_take (i := 22) (oi := _) ?hiu1032 ?hsu1032 ?hfu1032 ?hru1032 ?hzu1032 ?hQu1032 (v := undef) (Or.inr ⟨?hwu1032, rfl⟩) (⟨(NB.at_ M1020 (.tail _ (.head _))).cell 0, (NB.at_ M1020 (.tail _ (.head _))).cell 1, (NB.at_ M1020 (.head _)).cell 0, (NB.at_ M1020 (.head _)).cell 1⟩) ?_
    case hiu1032 => (simp only [List.getElem?_toArray, List.getElem?_cons_succ, List.getElem?_cons_zero]; exact rfl)
    case hsu1032 => kernel_rfl
    case hfu1032 => kernel_rfl
    case hru1032 => kernel_rfl
    case hzu1032 => kernel_rfl
    case hQu1032 => exact fun _ _ _ h => h
    case hwu1032 => rfl
    try simp only [Act.put, List.setIfInBounds_toArray, List.set_cons_zero, List.set_cons_succ]
    refine' wpTail_take (i := 23) (oi := _) ?hiu1033 ?hsu1033 ?hfu1033 ?hru1033 ?hzu1033 ?hQu1033 (v := undef) (Or.inr ⟨?hwu1033, rfl⟩) (⟨(NB.at_ M1020 (.tail _ (.head _))).cell 0, (NB.at_ M1020 (.tail _ (.head _))).cell 1, (NB.at_ M1020 (.head _)).cell 0, (NB.at_ M1020 (.head _)).cell 1⟩) ?_
    case hiu1033 => (simp only [List.getElem?_toArray, List.getElem?_cons_succ, List.getElem?_cons_zero]; exact rfl)
    case hsu1033 => kernel_rfl
    case hfu1033 => kernel_rfl
    case hru1033 => kernel_rfl
    case hzu1033 => kernel_rfl
    case hQu1033 => exact fun _ _ _ h => h
    case hwu1033 => rfl
    try simp only [Act.put, List.setIfInBounds_toArray, List.set_cons_zero, List.set_cons_succ]
    refine' wpTail_take (i := 24) (oi := _) ?hiu1034 ?hsu1034 ?hfu1034 ?hru1034 ?hzu1034 ?hQu1034 (v := undef) (Or.inr ⟨?hwu1034, rfl⟩) (⟨(NB.at_ M1020 (.tail _ (.head _))).cell 0, (NB.at_ M1020 (.tail _ (.head _))).cell 1, (NB.at_ M1020 (.head _)).cell 0, (NB.at_ M1020 (.head _)).cell 1⟩) ?_
    case hiu1034 => (simp only [List.getElem?_toArray, List.getElem?_cons_succ, List.getElem?_cons_zero]; exact rfl)
    case hsu1034 => kernel_rfl
    case hfu1034 => kernel_rfl
    case hru1034 => kernel_rfl
    case hzu1034 => kernel_rfl
    case hQu1034 => exact fun _ _ _ h => h
    case hwu1034 => rfl
    try simp only [Act.put, List.setIfInBounds_toArray, List.set_cons_zero, List.set_cons_succ]
    refine' wpTail_take (i := 25) (oi := _) ?hiu1035 ?hsu1035 ?hfu1035 ?hru1035 ?hzu1035 ?hQu1035 (v := _) (Or.inl ⟨?hwu1035, ?hyu1035⟩) (⟨(NB.at_ M1020 (.tail _ (.head _))).cell 0, (NB.at_ M1020 (.tail _ (.head _))).cell 1, (NB.at_ M1020 (.head _)).cell 0, (NB.at_ M1020 (.head _)).cell 1⟩) ?_
    case hiu1035 => (simp only [List.getElem?_toArray, List.getElem?_cons_succ, List.getElem?_cons_zero]; exact rfl)
    case hsu1035 => kernel_rfl
    case hfu1035 => kernel_rfl
    case hru1035 => kernel_rfl
    case hzu1035 => kernel_rfl
    case hQu1035 => exact fun _ _ _ h => h
    case hwu1035 => rfl
    case hyu1035 => (intro w hSw; (try dsimp only at hSw); go_simp; (try with_reducible rfl))
    try simp only [Act.put, List.setIfInBounds_toArray, List.set_cons_zero, List.set_cons_succ]
    refine' wpTail_take (i := 26) (oi := _) ?hiu1036 ?hsu1036 ?hfu1036 ?hru1036 ?hzu1036 ?hQu1036 (v := _) (Or.inl ⟨?hwu1036, ?hyu1036⟩) (⟨(NB.at_ M1020 (.tail _ (.head _))).cell 0, (NB.at_ M1020 (.tail _ (.head _))).cell 1, (NB.at_ M1020 (.head _)).cell 0, (NB.at_ M1020 (.head _)).cell 1⟩) ?_
    case hiu1036 => (simp only [List.getElem?_toArray, List.getElem?_cons_succ, List.getElem?_cons_zero]; exact rfl)
    case hsu1036 => kernel_rfl
    case hfu1036 => kernel_rfl
    case hru1036 => kernel_rfl
    case hzu1036 => kernel_rfl
    case hQu1036 => exact fun _ _ _ h => h
    case hwu1036 => rfl
    case hyu1036 => (intro w hSw; (try dsimp only at hSw); go_simp; (try with_reducible rfl))
    try simp only [Act.put, List.setIfInBounds_toArray, List.set_cons_zero, List.set_cons_succ]
    refine wpTail_done (by kernel_rfl) ?_ _
    rcases HTI.out with ⟨HP, HR⟩ | ⟨v, p, q, er, hv, hv300, HP, HR⟩
    · skip
      go_wp2_with fail
      refine (HP.out _).mono ?_
      rintro e v1037 ⟨rfl, hb1037⟩
      have M1037 := NB.next hb1037 M1020
      replace HDX := hide (HDX.out.below hb1037)
      clear hb1037
      have H1038 := NB.add 24 #[.int .u64 0, .int .u64 0] M1037
      obtain ⟨g10, hg10⟩ : ∃ g, g = v1037.heap.size := ⟨_, rfl⟩
      rw [← hg10] at H1038
      have HGg10 := hide hg10
      clear hg10
      replace HDX := hide (HDX.out.alloc (.cells #[.int .u64 0, .int .u64 0] 24))
      go_upto_region 10 with (fail)
      rw [← HGg10.out]
      obtain ⟨W1038, hW1038⟩ : ∃ W : World, W = v1037.alloc (.cells #[.int .u64 0, .int .u64 0] 24) := ⟨_, rfl⟩
      rw [← hW1038] at H1038 HDX ⊢
      clear hW1038
      go_wp2_with fail
      refine (HR.out _).mono ?_
      rintro e v1039 ⟨rfl, hb1039⟩
      have M1039 := NB.next hb1039 H1038
      replace HDX := hide (HDX.out.below hb1039)
      clear hb1039
      have H1040 := NB.add 28 #[.bool false, .slice none 0 0] M1039
      obtain ⟨g12, hg12⟩ : ∃ g, g = v1039.heap.size := ⟨_, rfl⟩
      rw [← hg12] at H1040
      have HGg12 := hide hg12
      clear hg12
      replace HDX := hide (HDX.out.alloc (.cells #[.bool false, .slice none 0 0] 28))
      go_upto_region 11 with (fail)
      rw [← HGg12.out]
      obtain ⟨W1040, hW1040⟩ : ∃ W : World, W = v1039.alloc (.cells #[.bool false, .slice none 0 0] 28) := ⟨_, rfl⟩
      rw [← hW1040] at H1040 HDX ⊢
      clear hW1040
      obtain ⟨q1041a, q1041b, q1041c, q1041d⟩ := two_cellsN (NB.at_ H1040 (.tail _ (.head _)))
      go_wp2_with fail
      go_ret
      exact ⟨rfl, H1040.out.low⟩
    · have HV := hide hv
      have HV3 := hide hv300
      clear hv hv300
      go_wp2_with fail
      refine (HP.out _).mono ?_
      rintro e v1042 ⟨rfl, hb1042⟩
      have M1042 := NB.next hb1042 M1020
      replace HDX := hide (HDX.out.below hb1042)
      clear hb1042
      have H1043 := NB.add 24 #[.int .u64 p, .int .u64 q] M1042
      obtain ⟨g10, hg10⟩ : ∃ g, g = v1042.heap.size := ⟨_, rfl⟩
      rw [← hg10] at H1043
      have HGg10 := hide hg10
      clear hg10
      replace HDX := hide (HDX.out.alloc (.cells #[.int .u64 p, .int .u64 q] 24))
      go_upto_region 10 with (fail)
      rw [← HGg10.out]
      obtain ⟨W1043, hW1043⟩ : ∃ W : World, W = v1042.alloc (.cells #[.int .u64 p, .int .u64 q] 24) := ⟨_, rfl⟩
      rw [← hW1043] at H1043 HDX ⊢
      clear hW1043
      go_wp2_with fail
      refine (HR.out _).mono ?_
      rintro e v1044 ⟨B, m, d, rfl, hdv, hcv, hb1044⟩
      have M1044 := NB.next hb1044 H1043
      replace HDX := hide (HDX.out.below hb1044)
      clear hb1044
      have HDV := hide hdv
      have HCV := hide hcv
      clear hdv hcv
      have H1045 := NB.add 28 #[.bool false, .slice B m d] M1044
      obtain ⟨g12, hg12⟩ : ∃ g, g = v1044.heap.size := ⟨_, rfl⟩
      rw [← hg12] at H1045
      have HGg12 := hide hg12
      clear hg12
      replace HDX := hide (HDX.out.alloc (.cells #[.bool false, .slice B m d] 28))
      replace HDV := hide (HDV.out.alloc (.cells #[.bool false, .slice B m d] 28))
      go_upto_region 11 with (fail)
      rw [← HGg12.out]
      obtain ⟨W1045, hW1045⟩ : ∃ W : World, W = v1044.alloc (.cells #[.bool false, .slice B m d] 28) := ⟨_, rfl⟩
      rw [← hW1045] at H1045 HDX HDV ⊢
      clear hW1045
      go_wp2_with fail
      refine (HON.out _).mono ?_
      rintro e v1046 ⟨rfl, hb1046⟩
      have M1046 := NB.next hb1046 H1045
      replace HDX := hide (HDX.out.below hb1046)
      replace HDV := hide (HDV.out.below hb1046)
      clear hb1046
      go_wp2_with fail
      refine (HIN.out _).mono ?_
      rintro e v1047 ⟨rfl, hb1047⟩
      have M1047 := NB.next hb1047 M1046
      replace HDX := hide (HDX.out.below hb1047)
      replace HDV := hide (HDV.out.below hb1047)
      clear hb1047
      go_wp2_with fail
      have HR0 := NB.drew M1047
      replace HDX : Hid (Dg v1047.drew A n (dgs x.natAbs)) := HDX
      replace HDV : Hid (Dg v1047.drew B m (dgs v)) := HDV
      have SX := hide (show ∀ W, Hid (NB w [(g12, 28, #[.bool false, .slice B m d]), (g10, 24, #[.int .u64 p, .int .u64 q]), (g7, 28, #[.bool sx, .slice A n c]), (ga, 24, #[.int .u64 xh, .int .u64 xl])] W) → W.cell? ⟨ga, 0, none⟩ = some (.int .u64 xh) ∧ W.cell? ⟨ga, 1, none⟩ = some (.int .u64 xl) ∧ W.cell? ⟨g7, 0, none⟩ = some (.bool sx) ∧ W.cell? ⟨g7, 1, none⟩ = some (.slice A n c) ∧ W.cell? ⟨g10, 0, none⟩ = some (.int .u64 p) ∧ W.cell? ⟨g10, 1, none⟩ = some (.int .u64 q) ∧ W.cell? ⟨g12, 0, none⟩ = some (.bool false) ∧ W.cell? ⟨g12, 1, none⟩ = some (.slice B m d) from fun W hb => ⟨(NB.at_ hb (.tail _ (.tail _ (.tail _ (.head _))))).cell 0, (NB.at_ hb (.tail _ (.tail _ (.tail _ (.head _))))).cell 1, (NB.at_ hb (.tail _ (.tail _ (.head _)))).cell 0, (NB.at_ hb (.tail _ (.tail _ (.head _)))).cell 1, (NB.at_ hb (.tail _ (.head _))).cell 0, (NB.at_ hb (.tail _ (.head _))).cell 1, (NB.at_ hb (.head _)).cell 0, (NB.at_ hb (.head _)).cell 1⟩)
      have hm300 : m ≤ 300 := by have h1 := HDV.out.1; have h2 := dgs_len v 250 HV3.out; omega
      have HAL := hide (show Calls Tryd.prog 16 #[wv p q, .int .i64 er, .agg #[.bool false, .slice B m d]] v1047.drew fun e w' => e = .returned (.bool true) ∧ Below v1047.drew.heap.size v1047.drew w' from alike_true (v : Int) HV.out (by rw [eq_comm, decide_eq_false_iff_not]; omega) (by rw [Int.natAbs_natCast]; exact HDV.out) (by omega) HCV.out)
      have HPR := hide (fun (W : World) (hk : Below v1047.drew.heap.size v1047.drew W) => (show Calls Tryd.prog 29 #[.agg #[.bool sx, .slice A n c]] W fun e w' => e = .returned (.string TX) ∧ Below W.heap.size W w' from by rw [HTX.out]; exact ref_print x HSX.out (HDX.out.below hk) (by omega)))
      go_region_held3 (fun w' => w'.cell? ⟨ga, 0, none⟩ = some (.int .u64 xh) ∧ w'.cell? ⟨ga, 1, none⟩ = some (.int .u64 xl) ∧ w'.cell? ⟨g7, 0, none⟩ = some (.bool sx) ∧ w'.cell? ⟨g7, 1, none⟩ = some (.slice A n c) ∧ w'.cell? ⟨g10, 0, none⟩ = some (.int .u64 p) ∧ w'.cell? ⟨g10, 1, none⟩ = some (.int .u64 q) ∧ w'.cell? ⟨g12, 0, none⟩ = some (.bool false) ∧ w'.cell? ⟨g12, 1, none⟩ = some (.slice B m d))
        (first | exact SX.out _ (by assumption))
        (first
          | (go_at_call 16; (with_reducible refine HAL.out.mono ?_); rintro e wa ⟨rfl, hb1⟩; have hm1 := NB.next hb1 HR0)
          | (go_at_call 28; (with_reducible refine (HPW.out _).mono ?_); rintro e wb ⟨rfl, hb2⟩; have hm2 := NB.next hb2 hm1; have hk2 := hb1.trans (hb2.mono hb1.size))
          | (go_at_call 29; (with_reducible refine (HPR.out _ hk2).mono ?_); rintro e wc ⟨rfl, hb3⟩; have hm3 := NB.next hb3 hm2))
      all_goals go_wp2_with fail
      all_goals go_ret
      all_goals exact ⟨rfl, hm3.out.low⟩
  · skip
    obtain ⟨q1048a, q1048b, q1048c, q1048d⟩ := two_cellsN (NB.at_ H1004 (.tail _ (.head _)))
    go_wp2_with fail
    refine ((HIO.out hI _)).mono ?_
    rintro e v1049 ⟨rfl, hb1049⟩
    have M1049 := NB.next hb1049 H1004
    replace HDX := hide (HDX.out.below hb1049)
    clear hb1049
    clear q1048a q1048b q1048c q1048d
    have HSS := HSM.out false (by rw [eq_comm, decide_eq_false_iff_not]; exact hI)
    go_wp2_with fail
    have H1050 := NB.drew M1049
    replace HDX : Hid (Dg v1049.drew _ _ _) := HDX
    refine wp_region_tail 99 (fun w' => w'.cell? ⟨ga, 0, none⟩ = some (.int .u64 xh) ∧ w'.cell? ⟨ga, 1, none⟩ = some (.int .u64 xl) ∧ w'.cell? ⟨g7, 0, none⟩ = some (.bool sx) ∧ w'.cell? ⟨g7, 1, none⟩ = some (.slice A n c)) (by kernel_rfl) ⟨(NB.at_ H1050 (.tail _ (.head _))).cell 0, (NB.at_ H1050 (.tail _ (.head _))).cell 1, (NB.at_ H1050 (.head _)).cell 0, (NB.at_ H1050 (.head _)).cell 1⟩ (fun hHeld => ?_)
    obtain ⟨V1050, hV1050⟩ : ∃ W : World, W = v1049.drew := ⟨_, rfl⟩
    rw [← hV1050] at H1050 HDX ⊢
    clear hV1050 hHeld
    try simp only [Act.put, List.setIfInBounds_toArray, List.set_cons_zero, List.set_cons_succ]
    refine' wpTail_take (i := 0) (oi := _) ?hiu1051 ?hsu1051 ?hfu1051 ?hru1051 ?hzu1051 ?hQu1051 (v := _) (Or.inl ⟨?hwu1051, ?hyu1051⟩) (⟨(NB.at_ H1050 (.tail _ (.head _))).cell 0, (NB.at_ H1050 (.tail _ (.head _))).cell 1, (NB.at_ H1050 (.head _)).cell 0, (NB.at_ H1050 (.head _)).cell 1⟩) ?_
    case hiu1051 => (simp only [List.getElem?_toArray, List.getElem?_cons_zero]; exact rfl)
    case hsu1051 => kernel_rfl
    case hfu1051 => kernel_rfl
    case hru1051 => kernel_rfl
    case hzu1051 => kernel_rfl
    case hQu1051 => exact fun _ _ _ h => h
    case hwu1051 => rfl
    case hyu1051 => (intro w hSw; (try dsimp only at hSw); go_simp; (try with_reducible rfl))
    try simp only [Act.put, List.setIfInBounds_toArray, List.set_cons_zero, List.set_cons_succ]
    refine' wpTail_take (i := 2) (oi := _) ?hiu1052 ?hsu1052 ?hfu1052 ?hru1052 ?hzu1052 ?hQu1052 (v := _) (Or.inl ⟨?hwu1052, ?hyu1052⟩) (⟨(NB.at_ H1050 (.tail _ (.head _))).cell 0, (NB.at_ H1050 (.tail _ (.head _))).cell 1, (NB.at_ H1050 (.head _)).cell 0, (NB.at_ H1050 (.head _)).cell 1⟩) ?_
    case hiu1052 => (simp only [List.getElem?_toArray, List.getElem?_cons_succ, List.getElem?_cons_zero]; exact rfl)
    case hsu1052 => kernel_rfl
    case hfu1052 => kernel_rfl
    case hru1052 => kernel_rfl
    case hzu1052 => kernel_rfl
    case hQu1052 => exact fun _ _ _ h => h
    case hwu1052 => rfl
    case hyu1052 => (intro w hSw; (try dsimp only at hSw); go_simp; (try with_reducible rfl))
    try simp only [Act.put, List.setIfInBounds_toArray, List.set_cons_zero, List.set_cons_succ]
    refine' wpTail_take (i := 3) (oi := _) ?hiu1053 ?hsu1053 ?hfu1053 ?hru1053 ?hzu1053 ?hQu1053 (v := _) (Or.inl ⟨?hwu1053, ?hyu1053⟩) (⟨(NB.at_ H1050 (.tail _ (.head _))).cell 0, (NB.at_ H1050 (.tail _ (.head _))).cell 1, (NB.at_ H1050 (.head _)).cell 0, (NB.at_ H1050 (.head _)).cell 1⟩) ?_
    case hiu1053 => (simp only [List.getElem?_toArray, List.getElem?_cons_succ, List.getElem?_cons_zero]; exact rfl)
    case hsu1053 => kernel_rfl
    case hfu1053 => kernel_rfl
    case hru1053 => kernel_rfl
    case hzu1053 => kernel_rfl
    case hQu1053 => exact fun _ _ _ h => h
    case hwu1053 => rfl
    case hyu1053 => (intro w hSw; (try dsimp only at hSw); go_simp; (try with_reducible rfl))
    try simp only [Act.put, List.setIfInBounds_toArray, List.set_cons_zero, List.set_cons_succ]
    refine' wpTail_one (i := 1) (o := _) (by kernel_rfl) ?hou1055 ?hwu1055 (fun K hK => ?_)
    case hou1055 => (simp only [List.getElem?_toArray, List.getElem?_cons_succ, List.getElem?_cons_zero]; exact rfl)
    case hwu1055 => rfl
    go_simp
    (with_reducible refine (HSS _ HDX.out).mono ?_)
    rintro e v1054 ⟨rfl, hb1054⟩
    have M1054 := NB.next hb1054 H1050
    replace HDX := hide (HDX.out.below hb1054)
    refine hK.out _ _ (fun _ => ⟨(NB.at_ M1054 (.tail _ (.head _))).cell 0, (NB.at_ M1054 (.tail _ (.head _))).cell 1, (NB.at_ M1054 (.head _)).cell 0, (NB.at_ M1054 (.head _)).cell 1⟩) ?_
    clear hK K hb1054
    try simp only [Act.put, List.setIfInBounds_toArray, List.set_cons_zero, List.set_cons_succ]
    refine' wpTail_take (i := 4) (oi := _) ?hiu1056 ?hsu1056 ?hfu1056 ?hru1056 ?hzu1056 ?hQu1056 (v := _) (Or.inl ⟨?hwu1056, ?hyu1056⟩) (⟨(NB.at_ M1054 (.tail _ (.head _))).cell 0, (NB.at_ M1054 (.tail _ (.head _))).cell 1, (NB.at_ M1054 (.head _)).cell 0, (NB.at_ M1054 (.head _)).cell 1⟩) ?_
    case hiu1056 => (simp only [List.getElem?_toArray, List.getElem?_cons_succ, List.getElem?_cons_zero]; exact rfl)
    case hsu1056 => kernel_rfl
    case hfu1056 => kernel_rfl
    case hru1056 => kernel_rfl
    case hzu1056 => kernel_rfl
    case hQu1056 => exact fun _ _ _ h => h
    case hwu1056 => rfl
    case hyu1056 => (intro w hSw; (try dsimp only at hSw); go_simp; (try with_reducible rfl))
    try simp only [Act.put, List.setIfInBounds_toArray, List.set_cons_zero, List.set_cons_succ]
    refine' wpTail_take (i := 5) (oi := _) ?hiu1057 ?hsu1057 ?hfu1057 ?hru1057 ?hzu1057 ?hQu1057 (v := _) (Or.inl ⟨?hwu1057, ?hyu1057⟩) (⟨(NB.at_ M1054 (.tail _ (.head _))).cell 0, (NB.at_ M1054 (.tail _ (.head _))).cell 1, (NB.at_ M1054 (.head _)).cell 0, (NB.at_ M1054 (.head _)).cell 1⟩) ?_
    case hiu1057 => (simp only [List.getElem?_toArray, List.getElem?_cons_succ, List.getElem?_cons_zero]; exact rfl)
    case hsu1057 => kernel_rfl
    case hfu1057 => kernel_rfl
    case hru1057 => kernel_rfl
    case hzu1057 => kernel_rfl
    case hQu1057 => exact fun _ _ _ h => h
    case hwu1057 => rfl
    case hyu1057 => (intro w hSw; (try dsimp only at hSw); go_simp; (try with_reducible rfl))
    try simp only [Act.put, List.setIfInBounds_toArray, List.set_cons_zero, List.set_cons_succ]
    refine' wpTail_take (i := 6) (oi := _) ?hiu1058 ?hsu1058 ?hfu1058 ?hru1058 ?hzu1058 ?hQu1058 (v := _) (Or.inl ⟨?hwu1058, ?hyu1058⟩) (⟨(NB.at_ M1054 (.tail _ (.head _))).cell 0, (NB.at_ M1054 (.tail _ (.head _))).cell 1, (NB.at_ M1054 (.head _)).cell 0, (NB.at_ M1054 (.head _)).cell 1⟩) ?_
    case hiu1058 => (simp only [List.getElem?_toArray, List.getElem?_cons_succ, List.getElem?_cons_zero]; exact rfl)
    case hsu1058 => kernel_rfl
    case hfu1058 => kernel_rfl
    case hru1058 => kernel_rfl
    case hzu1058 => kernel_rfl
    case hQu1058 => exact fun _ _ _ h => h
    case hwu1058 => rfl
    case hyu1058 => (intro w hSw; (try dsimp only at hSw); go_simp; (try with_reducible rfl))
    try simp only [Act.put, List.setIfInBounds_toArray, List.set_cons_zero, List.set_cons_succ]
    refine' wpTail_take (i := 7) (oi := _) ?hiu1059 ?hsu1059 ?hfu1059 ?hru1059 ?hzu1059 ?hQu1059 (v := _) (Or.inl ⟨?hwu1059, ?hyu1059⟩) (⟨(NB.at_ M1054 (.tail _ (.head _))).cell 0, (NB.at_ M1054 (.tail _ (.head _))).cell 1, (NB.at_ M1054 (.head _)).cell 0, (NB.at_ M1054 (.head _)).cell 1⟩) ?_
    case hiu1059 => (simp only [List.getElem?_toArray, List.getElem?_cons_succ, List.getElem?_cons_zero]; exact rfl)
    case hsu1059 => kernel_rfl
    case hfu1059 => kernel_rfl
    case hru1059 => kernel_rfl
    case hzu1059 => kernel_rfl
    case hQu1059 => exact fun _ _ _ h => h
    case hwu1059 => rfl
    case hyu1059 => (intro w hSw; (try dsimp only at hSw); go_simp; (try with_reducible rfl))
    try simp only [Act.put, List.setIfInBounds_toArray, List.set_cons_zero, List.set_cons_succ]
    refine' wpTail_take (i := 8) (oi := _) ?hiu1060 ?hsu1060 ?hfu1060 ?hru1060 ?hzu1060 ?hQu1060 (v := _) (Or.inl ⟨?hwu1060, ?hyu1060⟩) (⟨(NB.at_ M1054 (.tail _ (.head _))).cell 0, (NB.at_ M1054 (.tail _ (.head _))).cell 1, (NB.at_ M1054 (.head _)).cell 0, (NB.at_ M1054 (.head _)).cell 1⟩) ?_
    case hiu1060 => (simp only [List.getElem?_toArray, List.getElem?_cons_succ, List.getElem?_cons_zero]; exact rfl)
    case hsu1060 => kernel_rfl
    case hfu1060 => kernel_rfl
    case hru1060 => kernel_rfl
    case hzu1060 => kernel_rfl
    case hQu1060 => exact fun _ _ _ h => h
    case hwu1060 => rfl
    case hyu1060 => (intro w hSw; (try dsimp only at hSw); go_simp; (try with_reducible rfl))
    try simp only [Act.put, List.setIfInBounds_toArray, List.set_cons_zero, List.set_cons_succ]
    refine' wpTail_take (i := 9) (oi := _) ?hiu1061 ?hsu1061 ?hfu1061 ?hru1061 ?hzu1061 ?hQu1061 (v := undef) (Or.inr ⟨?hwu1061, rfl⟩) (⟨(NB.at_ M1054 (.tail _ (.head _))).cell 0, (NB.at_ M1054 (.tail _ (.head _))).cell 1, (NB.at_ M1054 (.head _)).cell 0, (NB.at_ M1054 (.head _)).cell 1⟩) ?_
    case hiu1061 => (simp only [List.getElem?_toArray, List.getElem?_cons_succ, List.getElem?_cons_zero]; exact rfl)
    case hsu1061 => kernel_rfl
    case hfu1061 => kernel_rfl
    case hru1061 => kernel_rfl
    case hzu1061 => kernel_rfl
    case hQu1061 => exact fun _ _ _ h => h
    case hwu1061 => rfl
    try simp only [Act.put, List.setIfInBounds_toArray, List.set_cons_zero, List.set_cons_succ]
    refine' wpTail_take (i := 10) (oi := _) ?hiu1062 ?hsu1062 ?hfu1062 ?hru1062 ?hzu1062 ?hQu1062 (v := undef) (Or.inr ⟨?hwu1062, rfl⟩) (⟨(NB.at_ M1054 (.tail _ (.head _))).cell 0, (NB.at_ M1054 (.tail _ (.head _))).cell 1, (NB.at_ M1054 (.head _)).cell 0, (NB.at_ M1054 (.head _)).cell 1⟩) ?_
    case hiu1062 => (simp only [List.getElem?_toArray, List.getElem?_cons_succ, List.getElem?_cons_zero]; exact rfl)
    case hsu1062 => kernel_rfl
    case hfu1062 => kernel_rfl
    case hru1062 => kernel_rfl
    case hzu1062 => kernel_rfl
    case hQu1062 => exact fun _ _ _ h => h
    case hwu1062 => rfl
    try simp only [Act.put, List.setIfInBounds_toArray, List.set_cons_zero, List.set_cons_succ]
    refine' wpTail_take (i := 11) (oi := _) ?hiu1063 ?hsu1063 ?hfu1063 ?hru1063 ?hzu1063 ?hQu1063 (v := undef) (Or.inr ⟨?hwu1063, rfl⟩) (⟨(NB.at_ M1054 (.tail _ (.head _))).cell 0, (NB.at_ M1054 (.tail _ (.head _))).cell 1, (NB.at_ M1054 (.head _)).cell 0, (NB.at_ M1054 (.head _)).cell 1⟩) ?_
    case hiu1063 => (simp only [List.getElem?_toArray, List.getElem?_cons_succ, List.getElem?_cons_zero]; exact rfl)
    case hsu1063 => kernel_rfl
    case hfu1063 => kernel_rfl
    case hru1063 => kernel_rfl
    case hzu1063 => kernel_rfl
    case hQu1063 => exact fun _ _ _ h => h
    case hwu1063 => rfl
    try simp only [Act.put, List.setIfInBounds_toArray, List.set_cons_zero, List.set_cons_succ]
    refine' wpTail_take (i := 12) (oi := _) ?hiu1064 ?hsu1064 ?hfu1064 ?hru1064 ?hzu1064 ?hQu1064 (v := undef) (Or.inr ⟨?hwu1064, rfl⟩) (⟨(NB.at_ M1054 (.tail _ (.head _))).cell 0, (NB.at_ M1054 (.tail _ (.head _))).cell 1, (NB.at_ M1054 (.head _)).cell 0, (NB.at_ M1054 (.head _)).cell 1⟩) ?_
    case hiu1064 => (simp only [List.getElem?_toArray, List.getElem?_cons_succ, List.getElem?_cons_zero]; exact rfl)
    case hsu1064 => kernel_rfl
    case hfu1064 => kernel_rfl
    case hru1064 => kernel_rfl
    case hzu1064 => kernel_rfl
    case hQu1064 => exact fun _ _ _ h => h
    case hwu1064 => rfl
    try simp only [Act.put, List.setIfInBounds_toArray, List.set_cons_zero, List.set_cons_succ]
    refine' wpTail_take (i := 13) (oi := _) ?hiu1065 ?hsu1065 ?hfu1065 ?hru1065 ?hzu1065 ?hQu1065 (v := _) (Or.inl ⟨?hwu1065, ?hyu1065⟩) (⟨(NB.at_ M1054 (.tail _ (.head _))).cell 0, (NB.at_ M1054 (.tail _ (.head _))).cell 1, (NB.at_ M1054 (.head _)).cell 0, (NB.at_ M1054 (.head _)).cell 1⟩) ?_
    case hiu1065 => (simp only [List.getElem?_toArray, List.getElem?_cons_succ, List.getElem?_cons_zero]; exact rfl)
    case hsu1065 => kernel_rfl
    case hfu1065 => kernel_rfl
    case hru1065 => kernel_rfl
    case hzu1065 => kernel_rfl
    case hQu1065 => exact fun _ _ _ h => h
    case hwu1065 => rfl
    case hyu1065 => (intro w hSw; (try dsimp only at hSw); go_simp; (try with_reducible rfl))
    try simp only [Act.put, List.setIfInBounds_toArray, List.set_cons_zero, List.set_cons_succ]
    refine' wpTail_take (i := 14) (oi := _) ?hiu1066 ?hsu1066 ?hfu1066 ?hru1066 ?hzu1066 ?hQu1066 (v := _) (Or.inl ⟨?hwu1066, ?hyu1066⟩) (⟨(NB.at_ M1054 (.tail _ (.head _))).cell 0, (NB.at_ M1054 (.tail _ (.head _))).cell 1, (NB.at_ M1054 (.head _)).cell 0, (NB.at_ M1054 (.head _)).cell 1⟩) ?_
    case hiu1066 => (simp only [List.getElem?_toArray, List.getElem?_cons_succ, List.getElem?_cons_zero]; exact rfl)
    case hsu1066 => kernel_rfl
    case hfu1066 => kernel_rfl
    case hru1066 => kernel_rfl
    case hzu1066 => kernel_rfl
    case hQu1066 => exact fun _ _ _ h => h
    case hwu1066 => rfl
    case hyu1066 => (intro w hSw; (try dsimp only at hSw); go_simp; (try with_reducible rfl))
    try simp only [Act.put, List.setIfInBounds_toArray, List.set_cons_zero, List.set_cons_succ]
    refine' wpTail_take (i := 15) (oi := _) ?hiu1067 ?hsu1067 ?hfu1067 ?hru1067 ?hzu1067 ?hQu1067 (v := _) (Or.inl ⟨?hwu1067, ?hyu1067⟩) (⟨(NB.at_ M1054 (.tail _ (.head _))).cell 0, (NB.at_ M1054 (.tail _ (.head _))).cell 1, (NB.at_ M1054 (.head _)).cell 0, (NB.at_ M1054 (.head _)).cell 1⟩) ?_
    case hiu1067 => (simp only [List.getElem?_toArray, List.getElem?_cons_succ, List.getElem?_cons_zero]; exact rfl)
    case hsu1067 => kernel_rfl
    case hfu1067 => kernel_rfl
    case hru1067 => kernel_rfl
    case hzu1067 => kernel_rfl
    case hQu1067 => exact fun _ _ _ h => h
    case hwu1067 => rfl
    case hyu1067 => (intro w hSw; (try dsimp only at hSw); go_simp; (try with_reducible rfl))
    try simp only [Act.put, List.setIfInBounds_toArray, List.set_cons_zero, List.set_cons_succ]
    refine' wpTail_take (i := 16) (oi := _) ?hiu1068 ?hsu1068 ?hfu1068 ?hru1068 ?hzu1068 ?hQu1068 (v := _) (Or.inl ⟨?hwu1068, ?hyu1068⟩) (⟨(NB.at_ M1054 (.tail _ (.head _))).cell 0, (NB.at_ M1054 (.tail _ (.head _))).cell 1, (NB.at_ M1054 (.head _)).cell 0, (NB.at_ M1054 (.head _)).cell 1⟩) ?_
    case hiu1068 => (simp only [List.getElem?_toArray, List.getElem?_cons_succ, List.getElem?_cons_zero]; exact rfl)
    case hsu1068 => kernel_rfl
    case hfu1068 => kernel_rfl
    case hru1068 => kernel_rfl
    case hzu1068 => kernel_rfl
    case hQu1068 => exact fun _ _ _ h => h
    case hwu1068 => rfl
    case hyu1068 => (intro w hSw; (try dsimp only at hSw); go_simp; (try with_reducible rfl))
    try simp only [Act.put, List.setIfInBounds_toArray, List.set_cons_zero, List.set_cons_succ]
    refine' wpTail_take (i := 17) (oi := _) ?hiu1069 ?hsu1069 ?hfu1069 ?hru1069 ?hzu1069 ?hQu1069 (v := _) (Or.inl ⟨?hwu1069, ?hyu1069⟩) (⟨(NB.at_ M1054 (.tail _ (.head _))).cell 0, (NB.at_ M1054 (.tail _ (.head _))).cell 1, (NB.at_ M1054 (.head _)).cell 0, (NB.at_ M1054 (.head _)).cell 1⟩) ?_
    case hiu1069 => (simp only [List.getElem?_toArray, List.getElem?_cons_succ, List.getElem?_cons_zero]; exact rfl)
    case hsu1069 => kernel_rfl
    case hfu1069 => kernel_rfl
    case hru1069 => kernel_rfl
    case hzu1069 => kernel_rfl
    case hQu1069 => exact fun _ _ _ h => h
    case hwu1069 => rfl
    case hyu1069 => (intro w hSw; (try dsimp only at hSw); go_simp; (try with_reducible rfl))
    try simp only [Act.put, List.setIfInBounds_toArray, List.set_cons_zero, List.set_cons_succ]
    refine' wpTail_take (i := 18) (oi := _) ?hiu1070 ?hsu1070 ?hfu1070 ?hru1070 ?hzu1070 ?hQu1070 (v := _) (Or.inl ⟨?hwu1070, ?hyu1070⟩) (⟨(NB.at_ M1054 (.tail _ (.head _))).cell 0, (NB.at_ M1054 (.tail _ (.head _))).cell 1, (NB.at_ M1054 (.head _)).cell 0, (NB.at_ M1054 (.head _)).cell 1⟩) ?_
    case hiu1070 => (simp only [List.getElem?_toArray, List.getElem?_cons_succ, List.getElem?_cons_zero]; exact rfl)
    case hsu1070 => kernel_rfl
    case hfu1070 => kernel_rfl
    case hru1070 => kernel_rfl
    case hzu1070 => kernel_rfl
    case hQu1070 => exact fun _ _ _ h => h
    case hwu1070 => rfl
    case hyu1070 => (intro w hSw; (try dsimp only at hSw); go_simp; (try with_reducible rfl))
    try simp only [Act.put, List.setIfInBounds_toArray, List.set_cons_zero, List.set_cons_succ]
    refine' wpTail_take (i := 19) (oi := _) ?hiu1071 ?hsu1071 ?hfu1071 ?hru1071 ?hzu1071 ?hQu1071 (v := _) (Or.inl ⟨?hwu1071, ?hyu1071⟩) (⟨(NB.at_ M1054 (.tail _ (.head _))).cell 0, (NB.at_ M1054 (.tail _ (.head _))).cell 1, (NB.at_ M1054 (.head _)).cell 0, (NB.at_ M1054 (.head _)).cell 1⟩) ?_
    case hiu1071 => (simp only [List.getElem?_toArray, List.getElem?_cons_succ, List.getElem?_cons_zero]; exact rfl)
    case hsu1071 => kernel_rfl
    case hfu1071 => kernel_rfl
    case hru1071 => kernel_rfl
    case hzu1071 => kernel_rfl
    case hQu1071 => exact fun _ _ _ h => h
    case hwu1071 => rfl
    case hyu1071 => (intro w hSw; (try dsimp only at hSw); go_simp; (try with_reducible rfl))
    try simp only [Act.put, List.setIfInBounds_toArray, List.set_cons_zero, List.set_cons_succ]
    refine' wpTail_take (i := 20) (oi := _) ?hiu1072 ?hsu1072 ?hfu1072 ?hru1072 ?hzu1072 ?hQu1072 (v := _) (Or.inl ⟨?hwu1072, ?hyu1072⟩) (⟨(NB.at_ M1054 (.tail _ (.head _))).cell 0, (NB.at_ M1054 (.tail _ (.head _))).cell 1, (NB.at_ M1054 (.head _)).cell 0, (NB.at_ M1054 (.head _)).cell 1⟩) ?_
    case hiu1072 => (simp only [List.getElem?_toArray, List.getElem?_cons_succ, List.getElem?_cons_zero]; exact rfl)
    case hsu1072 => kernel_rfl
    case hfu1072 => kernel_rfl
    case hru1072 => kernel_rfl
    case hzu1072 => kernel_rfl
    case hQu1072 => exact fun _ _ _ h => h
    case hwu1072 => rfl
    case hyu1072 => (intro w hSw; (try dsimp only at hSw); go_simp; (try with_reducible rfl))
    try simp only [Act.put, List.setIfInBounds_toArray, List.set_cons_zero, List.set_cons_succ]
    refine' wpTail_take (i := 21) (oi := _) ?hiu1073 ?hsu1073 ?hfu1073 ?hru1073 ?hzu1073 ?hQu1073 (v := _) (Or.inl ⟨?hwu1073, ?hyu1073⟩) (⟨(NB.at_ M1054 (.tail _ (.head _))).cell 0, (NB.at_ M1054 (.tail _ (.head _))).cell 1, (NB.at_ M1054 (.head _)).cell 0, (NB.at_ M1054 (.head _)).cell 1⟩) ?_
    case hiu1073 => (simp only [List.getElem?_toArray, List.getElem?_cons_succ, List.getElem?_cons_zero]; exact rfl)
    case hsu1073 => kernel_rfl
    case hfu1073 => kernel_rfl
    case hru1073 => kernel_rfl
    case hzu1073 => kernel_rfl
    case hQu1073 => exact fun _ _ _ h => h
    case hwu1073 => rfl
    case hyu1073 => (intro w hSw; (try dsimp only at hSw); go_simp; (try with_reducible rfl))
    try simp only [Act.put, List.setIfInBounds_toArray, List.set_cons_zero, List.set_cons_succ]
    refine' wpTail_take (i := 22) (oi := _) ?hiu1074 ?hsu1074 ?hfu1074 ?hru1074 ?hzu1074 ?hQu1074 (v := _) (Or.inl ⟨?hwu1074, ?hyu1074⟩) (⟨(NB.at_ M1054 (.tail _ (.head _))).cell 0, (NB.at_ M1054 (.tail _ (.head _))).cell 1, (NB.at_ M1054 (.head _)).cell 0, (NB.at_ M1054 (.head _)).cell 1⟩) ?_
    case hiu1074 => (simp only [List.getElem?_toArray, List.getElem?_cons_succ, List.getElem?_cons_zero]; exact rfl)
    case hsu1074 => kernel_rfl
    case hfu1074 => kernel_rfl
    case hru1074 => kernel_rfl
    case hzu1074 => kernel_rfl
    case hQu1074 => exact fun _ _ _ h => h
    case hwu1074 => rfl
    case hyu1074 => (intro w hSw; (try dsimp only at hSw); go_simp; (try with_reducible rfl))
    try simp only [Act.put, List.setIfInBounds_toArray, List.set_cons_zero, List.set_cons_succ]
    refine' wpTail_take (i := 23) (oi := _) ?hiu1075 ?hsu1075 ?hfu1075 ?hru1075 ?hzu1075 ?hQu1075 (v := _) (Or.inl ⟨?hwu1075, ?hyu1075⟩) (⟨(NB.at_ M1054 (.tail _ (.head _))).cell 0, (NB.at_ M1054 (.tail _ (.head _))).cell 1, (NB.at_ M1054 (.head _)).cell 0, (NB.at_ M1054 (.head _)).cell 1⟩) ?_
    case hiu1075 => (simp only [List.getElem?_toArray, List.getElem?_cons_succ, List.getElem?_cons_zero]; exact rfl)
    case hsu1075 => kernel_rfl
    case hfu1075 => kernel_rfl
    case hru1075 => kernel_rfl
    case hzu1075 => kernel_rfl
    case hQu1075 => exact fun _ _ _ h => h
    case hwu1075 => rfl
    case hyu1075 => (intro w hSw; (try dsimp only at hSw); go_simp; (try with_reducible rfl))
    try simp only [Act.put, List.setIfInBounds_toArray, List.set_cons_zero, List.set_cons_succ]
    refine' wpTail_take (i := 24) (oi := _) ?hiu1076 ?hsu1076 ?hfu1076 ?hru1076 ?hzu1076 ?hQu1076 (v := _) (Or.inl ⟨?hwu1076, ?hyu1076⟩) (⟨(NB.at_ M1054 (.tail _ (.head _))).cell 0, (NB.at_ M1054 (.tail _ (.head _))).cell 1, (NB.at_ M1054 (.head _)).cell 0, (NB.at_ M1054 (.head _)).cell 1⟩) ?_
    case hiu1076 => (simp only [List.getElem?_toArray, List.getElem?_cons_succ, List.getElem?_cons_zero]; exact rfl)
    case hsu1076 => kernel_rfl
    case hfu1076 => kernel_rfl
    case hru1076 => kernel_rfl
    case hzu1076 => kernel_rfl
    case hQu1076 => exact fun _ _ _ h => h
    case hwu1076 => rfl
    case hyu1076 => (intro w hSw; (try dsimp only at hSw); go_simp; (try with_reducible rfl))
    try simp only [Act.put, List.setIfInBounds_toArray, List.set_cons_zero, List.set_cons_succ]
    refine' wpTail_take (i := 25) (oi := _) ?hiu1077 ?hsu1077 ?hfu1077 ?hru1077 ?hzu1077 ?hQu1077 (v := _) (Or.inl ⟨?hwu1077, ?hyu1077⟩) (⟨(NB.at_ M1054 (.tail _ (.head _))).cell 0, (NB.at_ M1054 (.tail _ (.head _))).cell 1, (NB.at_ M1054 (.head _)).cell 0, (NB.at_ M1054 (.head _)).cell 1⟩) ?_
    case hiu1077 => (simp only [List.getElem?_toArray, List.getElem?_cons_succ, List.getElem?_cons_zero]; exact rfl)
    case hsu1077 => kernel_rfl
    case hfu1077 => kernel_rfl
    case hru1077 => kernel_rfl
    case hzu1077 => kernel_rfl
    case hQu1077 => exact fun _ _ _ h => h
    case hwu1077 => rfl
    case hyu1077 => (intro w hSw; (try dsimp only at hSw); go_simp; (try with_reducible rfl))
    try simp only [Act.put, List.setIfInBounds_toArray, List.set_cons_zero, List.set_cons_succ]
    refine' wpTail_take (i := 26) (oi := _) ?hiu1078 ?hsu1078 ?hfu1078 ?hru1078 ?hzu1078 ?hQu1078 (v := _) (Or.inl ⟨?hwu1078, ?hyu1078⟩) (⟨(NB.at_ M1054 (.tail _ (.head _))).cell 0, (NB.at_ M1054 (.tail _ (.head _))).cell 1, (NB.at_ M1054 (.head _)).cell 0, (NB.at_ M1054 (.head _)).cell 1⟩) ?_
    case hiu1078 => (simp only [List.getElem?_toArray, List.getElem?_cons_succ, List.getElem?_cons_zero]; exact rfl)
    case hsu1078 => kernel_rfl
    case hfu1078 => kernel_rfl
    case hru1078 => kernel_rfl
    case hzu1078 => kernel_rfl
    case hQu1078 => exact fun _ _ _ h => h
    case hwu1078 => rfl
    case hyu1078 => (intro w hSw; (try dsimp only at hSw); go_simp; (try with_reducible rfl))
    try simp only [Act.put, List.setIfInBounds_toArray, List.set_cons_zero, List.set_cons_succ]
    refine wpTail_done (by kernel_rfl) ?_ _
    rcases HTI.out with ⟨HP, HR⟩ | ⟨v, p, q, er, hv, hv300, HP, HR⟩
    · skip
      go_wp2_with fail
      refine (HP.out _).mono ?_
      rintro e v1079 ⟨rfl, hb1079⟩
      have M1079 := NB.next hb1079 M1054
      replace HDX := hide (HDX.out.below hb1079)
      clear hb1079
      have H1080 := NB.add 24 #[.int .u64 0, .int .u64 0] M1079
      obtain ⟨g10, hg10⟩ : ∃ g, g = v1079.heap.size := ⟨_, rfl⟩
      rw [← hg10] at H1080
      have HGg10 := hide hg10
      clear hg10
      replace HDX := hide (HDX.out.alloc (.cells #[.int .u64 0, .int .u64 0] 24))
      go_upto_region 10 with (fail)
      rw [← HGg10.out]
      obtain ⟨W1080, hW1080⟩ : ∃ W : World, W = v1079.alloc (.cells #[.int .u64 0, .int .u64 0] 24) := ⟨_, rfl⟩
      rw [← hW1080] at H1080 HDX ⊢
      clear hW1080
      go_wp2_with fail
      refine (HR.out _).mono ?_
      rintro e v1081 ⟨rfl, hb1081⟩
      have M1081 := NB.next hb1081 H1080
      replace HDX := hide (HDX.out.below hb1081)
      clear hb1081
      have H1082 := NB.add 28 #[.bool false, .slice none 0 0] M1081
      obtain ⟨g12, hg12⟩ : ∃ g, g = v1081.heap.size := ⟨_, rfl⟩
      rw [← hg12] at H1082
      have HGg12 := hide hg12
      clear hg12
      replace HDX := hide (HDX.out.alloc (.cells #[.bool false, .slice none 0 0] 28))
      go_upto_region 11 with (fail)
      rw [← HGg12.out]
      obtain ⟨W1082, hW1082⟩ : ∃ W : World, W = v1081.alloc (.cells #[.bool false, .slice none 0 0] 28) := ⟨_, rfl⟩
      rw [← hW1082] at H1082 HDX ⊢
      clear hW1082
      obtain ⟨q1083a, q1083b, q1083c, q1083d⟩ := two_cellsN (NB.at_ H1082 (.tail _ (.head _)))
      go_wp2_with fail
      go_ret
      exact ⟨rfl, H1082.out.low⟩
    · have HV := hide hv
      have HV3 := hide hv300
      clear hv hv300
      go_wp2_with fail
      refine (HP.out _).mono ?_
      rintro e v1084 ⟨rfl, hb1084⟩
      have M1084 := NB.next hb1084 M1054
      replace HDX := hide (HDX.out.below hb1084)
      clear hb1084
      have H1085 := NB.add 24 #[.int .u64 p, .int .u64 q] M1084
      obtain ⟨g10, hg10⟩ : ∃ g, g = v1084.heap.size := ⟨_, rfl⟩
      rw [← hg10] at H1085
      have HGg10 := hide hg10
      clear hg10
      replace HDX := hide (HDX.out.alloc (.cells #[.int .u64 p, .int .u64 q] 24))
      go_upto_region 10 with (fail)
      rw [← HGg10.out]
      obtain ⟨W1085, hW1085⟩ : ∃ W : World, W = v1084.alloc (.cells #[.int .u64 p, .int .u64 q] 24) := ⟨_, rfl⟩
      rw [← hW1085] at H1085 HDX ⊢
      clear hW1085
      go_wp2_with fail
      refine (HR.out _).mono ?_
      rintro e v1086 ⟨B, m, d, rfl, hdv, hcv, hb1086⟩
      have M1086 := NB.next hb1086 H1085
      replace HDX := hide (HDX.out.below hb1086)
      clear hb1086
      have HDV := hide hdv
      have HCV := hide hcv
      clear hdv hcv
      have H1087 := NB.add 28 #[.bool false, .slice B m d] M1086
      obtain ⟨g12, hg12⟩ : ∃ g, g = v1086.heap.size := ⟨_, rfl⟩
      rw [← hg12] at H1087
      have HGg12 := hide hg12
      clear hg12
      replace HDX := hide (HDX.out.alloc (.cells #[.bool false, .slice B m d] 28))
      replace HDV := hide (HDV.out.alloc (.cells #[.bool false, .slice B m d] 28))
      go_upto_region 11 with (fail)
      rw [← HGg12.out]
      obtain ⟨W1087, hW1087⟩ : ∃ W : World, W = v1086.alloc (.cells #[.bool false, .slice B m d] 28) := ⟨_, rfl⟩
      rw [← hW1087] at H1087 HDX HDV ⊢
      clear hW1087
      go_wp2_with fail
      refine (HON.out _).mono ?_
      rintro e v1088 ⟨rfl, hb1088⟩
      have M1088 := NB.next hb1088 H1087
      replace HDX := hide (HDX.out.below hb1088)
      replace HDV := hide (HDV.out.below hb1088)
      clear hb1088
      go_wp2_with fail
      refine (HIN.out _).mono ?_
      rintro e v1089 ⟨rfl, hb1089⟩
      have M1089 := NB.next hb1089 M1088
      replace HDX := hide (HDX.out.below hb1089)
      replace HDV := hide (HDV.out.below hb1089)
      clear hb1089
      go_wp2_with fail
      have HR0 := NB.drew M1089
      replace HDX : Hid (Dg v1089.drew A n (dgs x.natAbs)) := HDX
      replace HDV : Hid (Dg v1089.drew B m (dgs v)) := HDV
      have SX := hide (show ∀ W, Hid (NB w [(g12, 28, #[.bool false, .slice B m d]), (g10, 24, #[.int .u64 p, .int .u64 q]), (g7, 28, #[.bool sx, .slice A n c]), (ga, 24, #[.int .u64 xh, .int .u64 xl])] W) → W.cell? ⟨ga, 0, none⟩ = some (.int .u64 xh) ∧ W.cell? ⟨ga, 1, none⟩ = some (.int .u64 xl) ∧ W.cell? ⟨g7, 0, none⟩ = some (.bool sx) ∧ W.cell? ⟨g7, 1, none⟩ = some (.slice A n c) ∧ W.cell? ⟨g10, 0, none⟩ = some (.int .u64 p) ∧ W.cell? ⟨g10, 1, none⟩ = some (.int .u64 q) ∧ W.cell? ⟨g12, 0, none⟩ = some (.bool false) ∧ W.cell? ⟨g12, 1, none⟩ = some (.slice B m d) from fun W hb => ⟨(NB.at_ hb (.tail _ (.tail _ (.tail _ (.head _))))).cell 0, (NB.at_ hb (.tail _ (.tail _ (.tail _ (.head _))))).cell 1, (NB.at_ hb (.tail _ (.tail _ (.head _)))).cell 0, (NB.at_ hb (.tail _ (.tail _ (.head _)))).cell 1, (NB.at_ hb (.tail _ (.head _))).cell 0, (NB.at_ hb (.tail _ (.head _))).cell 1, (NB.at_ hb (.head _)).cell 0, (NB.at_ hb (.head _)).cell 1⟩)
      have hm300 : m ≤ 300 := by have h1 := HDV.out.1; have h2 := dgs_len v 250 HV3.out; omega
      have HAL := hide (show Calls Tryd.prog 16 #[wv p q, .int .i64 er, .agg #[.bool false, .slice B m d]] v1089.drew fun e w' => e = .returned (.bool true) ∧ Below v1089.drew.heap.size v1089.drew w' from alike_true (v : Int) HV.out (by rw [eq_comm, decide_eq_false_iff_not]; omega) (by rw [Int.natAbs_natCast]; exact HDV.out) (by omega) HCV.out)
      have HPR := hide (fun (W : World) (hk : Below v1089.drew.heap.size v1089.drew W) => (show Calls Tryd.prog 29 #[.agg #[.bool sx, .slice A n c]] W fun e w' => e = .returned (.string TX) ∧ Below W.heap.size W w' from by rw [HTX.out]; exact ref_print x HSX.out (HDX.out.below hk) (by omega)))
      go_region_held3 (fun w' => w'.cell? ⟨ga, 0, none⟩ = some (.int .u64 xh) ∧ w'.cell? ⟨ga, 1, none⟩ = some (.int .u64 xl) ∧ w'.cell? ⟨g7, 0, none⟩ = some (.bool sx) ∧ w'.cell? ⟨g7, 1, none⟩ = some (.slice A n c) ∧ w'.cell? ⟨g10, 0, none⟩ = some (.int .u64 p) ∧ w'.cell? ⟨g10, 1, none⟩ = some (.int .u64 q) ∧ w'.cell? ⟨g12, 0, none⟩ = some (.bool false) ∧ w'.cell? ⟨g12, 1, none⟩ = some (.slice B m d))
        (first | exact SX.out _ (by assumption))
        (first
          | (go_at_call 16; (with_reducible refine HAL.out.mono ?_); rintro e wa ⟨rfl, hb1⟩; have hm1 := NB.next hb1 HR0)
          | (go_at_call 28; (with_reducible refine (HPW.out _).mono ?_); rintro e wb ⟨rfl, hb2⟩; have hm2 := NB.next hb2 hm1; have hk2 := hb1.trans (hb2.mono hb1.size))
          | (go_at_call 29; (with_reducible refine (HPR.out _ hk2).mono ?_); rintro e wc ⟨rfl, hb3⟩; have hm3 := NB.next hb3 hm2))
      all_goals go_wp2_with fail
      all_goals go_ret
      all_goals exact ⟨rfl, hm3.out.low⟩
end Go.Proofs.YthedfplafcfklaaDoor
