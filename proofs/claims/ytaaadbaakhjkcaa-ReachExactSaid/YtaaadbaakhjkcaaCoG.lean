/- The registers that an instruction reads (read); conditions: its lists are in memory. -/
import Derived.Test.YtaaadbaakhjkcaaCoF
namespace Go.Proofs.Ytaaadbaakhjkcaa
open Go.RowKit Go.WideShapes Go.ChangeShapes
set_option linter.unusedVariables false
set_option linter.unusedSimpArgs false
set_option maxRecDepth 100000

def readS (i : Ins) : List Sp := if i.op = 2 ∨ i.op = 5 then [⟨i.a, runN i.n⟩] else if i.op = 4 ∨ i.op = 11 ∨ i.op = 13 ∨ i.op = 14 ∨ i.op = 18 ∨ i.op = 20 ∨ i.op = 26 ∨ i.op = 30 ∨ i.op = 32 ∨ i.op = 33 ∨ i.op = 35 ∨ i.op = 36 ∨ i.op = 39 then [⟨i.a, 1⟩] else if i.op = 12 ∨ i.op = 34 then [⟨i.a, 1⟩, ⟨i.b, runN i.n⟩] else if i.op = 15 ∨ i.op = 16 ∨ i.op = 17 then [⟨i.a, 1⟩, ⟨i.b, 1⟩]
  else if i.op = 22 ∨ i.op = 23 ∨ i.op = 28 ∨ i.op = 38 then (i.args.map fun r => (⟨r, 1⟩ : Sp)) else if i.op = 21 then ⟨i.a, 1⟩ :: (i.args.map fun r => (⟨r, 1⟩ : Sp)) else if i.op = 24 ∨ i.op = 25 then (if i.a = -1 then (i.args.map fun r => (⟨r, 1⟩ : Sp)) else ⟨i.a, 1⟩ :: (i.args.map fun r => (⟨r, 1⟩ : Sp))) else if i.op = 31 then ⟨i.a, 1⟩ :: (i.args.map fun r => (⟨r, runN i.m⟩ : Sp)) else if i.op = 37 then armsR i.arms else []
set_option maxHeartbeats 16000000 in
theorem read_any (i : Ins) (av rv : Value) (w : World) (h : InsOk w i av rv) (hn : i.arms.length ≤ 100000) (hna : i.args.length ≤ 100000) : Calls Try.prog 56 #[i.val av rv] w (SpP w (readS i)) := by
  obtain ⟨is0, his0, hsz0, hsz1, hsz2⟩ := info_parts spanInfoT
  have HNA := hide hna
  obtain ⟨Aa, ca, rfl⟩ := h.ar.form
  obtain ⟨Ar, cr, rfl⟩ := h.rm.form
  obtain ⟨a, ha⟩ : ∃ a, a = w.heap.size := ⟨_, rfl⟩
  obtain ⟨W1, hW1⟩ : ∃ W1, W1 = w.alloc (.cells (i.arr (.slice Aa i.args.length ca) (.slice Ar i.arms.length cr)) 45) := ⟨_, rfl⟩
  have hb1 : Below w.heap.size w W1 := by rw [hW1]; exact (Below.refl _ _).alloc (Nat.le_refl _) _
  have hba : Blk W1 a 45 (i.arr (.slice Aa i.args.length ca) (.slice Ar i.arms.length cr)) := by rw [hW1, ha]; exact Blk.new _ _ _
  have z0 : W1.cell? ⟨a, 0, none⟩ = some (.int .i64 i.op) := hba.cell 0
  have z2 : W1.cell? ⟨a, 2, none⟩ = some (.int .i64 i.a) := hba.cell 2
  have z3 : W1.cell? ⟨a, 3, none⟩ = some (.int .i64 i.b) := hba.cell 3
  have z4 : W1.cell? ⟨a, 4, none⟩ = some (.int .i64 i.n) := hba.cell 4
  have z5 : W1.cell? ⟨a, 5, none⟩ = some (.int .i64 i.m) := hba.cell 5
  have z12 : W1.cell? ⟨a, 12, none⟩ = some (.slice Aa i.args.length ca) := hba.cell 12
  have z15 : W1.cell? ⟨a, 15, none⟩ = some (.slice Ar i.arms.length cr) := hba.cell 15
  have HB1 := hide hb1
  have HW1 := hide hW1
  have HA := hide ha
  have HBA := hide hba
  have HOK := hide (h.below hb1 (Nat.le_refl _))
  obtain ⟨o, ho⟩ : ∃ o, o = i.op := ⟨_, rfl⟩
  obtain ⟨m, hm⟩ : ∃ m, m = i.arms.length := ⟨_, rfl⟩
  obtain ⟨ma, hma⟩ : ∃ ma, ma = i.args.length := ⟨_, rfl⟩
  have HO := hide ho
  rw [← ho] at z0
  rw [← hm] at HW1 HBA HOK ⊢
  rw [← hma] at HW1 HBA HOK ⊢
  have HM := hide (And.intro hm (And.intro hma hn))
  rw [← hm] at z15
  rw [← hma] at z12
  clear hna hb1 hW1 ha hba ho h hn hm hma
  by_cases h1 : o = 2 ∨ o = 5
  · rcases h1 with h | h <;> (
      subst h
      have HE := hide (show readS i = [⟨i.a, runN i.n⟩] by unfold readS; rw [← HO.out]; rfl)
      rw [HE.out]
      go_enter Try.func56, Try.ntmps56
      go_upto_region 1 with (fail)
      rw [← HW1.out, ← HA.out]
      go_wp2_with fail
      refine (run_any i.a i.n _).mono ?_
      rintro e w3 ⟨rfl, hb3⟩
      go_wp2_with fail
      go_ret
      exact ⟨_, rfl, own_lit (Nat.le_trans HB1.out.size hb3.size) rfl (by decide), (HB1.out.trans (hb3.mono HB1.out.size)).alloc (Nat.le_trans HB1.out.size hb3.size) _⟩)
  · by_cases h2 : o = 4 ∨ o = 11 ∨ o = 13 ∨ o = 14 ∨ o = 18 ∨ o = 20 ∨ o = 26 ∨ o = 30 ∨ o = 32 ∨ o = 33 ∨ o = 35 ∨ o = 36 ∨ o = 39
    · rcases h2 with h | h | h | h | h | h | h | h | h | h | h | h | h <;> (
        subst h
        have HE := hide (show readS i = [⟨i.a, 1⟩] by unfold readS; rw [← HO.out]; rfl)
        rw [HE.out]
        go_enter Try.func56, Try.ntmps56
        go_upto_region 1 with (fail)
        rw [← HW1.out, ← HA.out]
        go_wp2_with fail
        refine (one_any i.a _).mono ?_
        rintro e w3 ⟨rfl, hb3⟩
        go_wp2_with fail
        go_ret
        exact ⟨_, rfl, own_lit (Nat.le_trans HB1.out.size hb3.size) rfl (by decide), (HB1.out.trans (hb3.mono HB1.out.size)).alloc (Nat.le_trans HB1.out.size hb3.size) _⟩)
    · by_cases h3 : o = 12 ∨ o = 34
      · rcases h3 with h | h <;> (
          subst h
          have HE := hide (show readS i = [⟨i.a, 1⟩, ⟨i.b, runN i.n⟩] by unfold readS; rw [← HO.out]; rfl)
          rw [HE.out]
          have hh0 : Blk W1 a 45 (i.arr (.slice Aa ma ca) (.slice Ar m cr)) := HBA.out
          have HAL := hide hh0.lt
          go_enter Try.func56, Try.ntmps56
          go_upto_region 1 with (fail)
          rw [← HW1.out, ← HA.out]
          go_upto_region 21 with (fail)
          go_wp2_with fail
          refine wp_region_tail 99 (fun w' => Blk w' a 45 (i.arr (.slice Aa ma ca) (.slice Ar m cr))) (by kernel_rfl) hh0 (fun hHeld => ?_)
          try simp only [Act.put, List.setIfInBounds_toArray, List.set_cons_zero, List.set_cons_succ]
          refine' wpTail_take (i := 0) (oi := _) ?hi5001 ?hs5001 ?hf5001 ?hr5001 ?hz5001 ?hQ5001 (v := _) (Or.inl ⟨?hw5001, ?hy5001⟩) (by assumption) ?_
          case hi5001 => (simp only [List.getElem?_toArray, List.getElem?_cons_zero]; exact rfl)
          case hs5001 => kernel_rfl
          case hf5001 => kernel_rfl
          case hr5001 => kernel_rfl
          case hz5001 => kernel_rfl
          case hQ5001 => exact fun _ _ _ h => h
          case hw5001 => rfl
          case hy5001 => (intro W0 hSw; (try dsimp only at hSw); go_simp; (try with_reducible rfl))
          try simp only [Act.put, List.setIfInBounds_toArray, List.set_cons_zero, List.set_cons_succ]
          refine' wpTail_take (i := 1) (oi := _) ?hi5002 ?hs5002 ?hf5002 ?hr5002 ?hz5002 ?hQ5002 (v := _) (Or.inl ⟨?hw5002, ?hy5002⟩) (by assumption) ?_
          case hi5002 => (simp only [List.getElem?_toArray, List.getElem?_cons_succ, List.getElem?_cons_zero]; exact rfl)
          case hs5002 => kernel_rfl
          case hf5002 => kernel_rfl
          case hr5002 => kernel_rfl
          case hz5002 => kernel_rfl
          case hQ5002 => exact fun _ _ _ h => h
          case hw5002 => rfl
          case hy5002 => (intro W0 hSw; (try dsimp only at hSw); have y2 : W0.cell? ⟨a, 2, none⟩ = some (.int .i64 i.a) := Blk.cell hSw 2; go_simp; (try with_reducible rfl))
          try simp only [Act.put, List.setIfInBounds_toArray, List.set_cons_zero, List.set_cons_succ]
          refine' wpTail_take (i := 3) (oi := _) ?hi5003 ?hs5003 ?hf5003 ?hr5003 ?hz5003 ?hQ5003 (v := _) (Or.inl ⟨?hw5003, ?hy5003⟩) (by assumption) ?_
          case hi5003 => (simp only [List.getElem?_toArray, List.getElem?_cons_succ, List.getElem?_cons_zero]; exact rfl)
          case hs5003 => kernel_rfl
          case hf5003 => kernel_rfl
          case hr5003 => kernel_rfl
          case hz5003 => kernel_rfl
          case hQ5003 => exact fun _ _ _ h => h
          case hw5003 => rfl
          case hy5003 => (intro W0 hSw; (try dsimp only at hSw); go_simp; (try with_reducible rfl))
          try simp only [Act.put, List.setIfInBounds_toArray, List.set_cons_zero, List.set_cons_succ]
          refine' wpTail_take (i := 4) (oi := _) ?hi5004 ?hs5004 ?hf5004 ?hr5004 ?hz5004 ?hQ5004 (v := _) (Or.inl ⟨?hw5004, ?hy5004⟩) (by assumption) ?_
          case hi5004 => (simp only [List.getElem?_toArray, List.getElem?_cons_succ, List.getElem?_cons_zero]; exact rfl)
          case hs5004 => kernel_rfl
          case hf5004 => kernel_rfl
          case hr5004 => kernel_rfl
          case hz5004 => kernel_rfl
          case hQ5004 => exact fun _ _ _ h => h
          case hw5004 => rfl
          case hy5004 => (intro W0 hSw; (try dsimp only at hSw); have y3 : W0.cell? ⟨a, 3, none⟩ = some (.int .i64 i.b) := Blk.cell hSw 3; go_simp; (try with_reducible rfl))
          try simp only [Act.put, List.setIfInBounds_toArray, List.set_cons_zero, List.set_cons_succ]
          refine' wpTail_take (i := 5) (oi := _) ?hi5005 ?hs5005 ?hf5005 ?hr5005 ?hz5005 ?hQ5005 (v := _) (Or.inl ⟨?hw5005, ?hy5005⟩) (by assumption) ?_
          case hi5005 => (simp only [List.getElem?_toArray, List.getElem?_cons_succ, List.getElem?_cons_zero]; exact rfl)
          case hs5005 => kernel_rfl
          case hf5005 => kernel_rfl
          case hr5005 => kernel_rfl
          case hz5005 => kernel_rfl
          case hQ5005 => exact fun _ _ _ h => h
          case hw5005 => rfl
          case hy5005 => (intro W0 hSw; (try dsimp only at hSw); go_simp; (try with_reducible rfl))
          try simp only [Act.put, List.setIfInBounds_toArray, List.set_cons_zero, List.set_cons_succ]
          refine' wpTail_take (i := 6) (oi := _) ?hi5006 ?hs5006 ?hf5006 ?hr5006 ?hz5006 ?hQ5006 (v := _) (Or.inl ⟨?hw5006, ?hy5006⟩) (by assumption) ?_
          case hi5006 => (simp only [List.getElem?_toArray, List.getElem?_cons_succ, List.getElem?_cons_zero]; exact rfl)
          case hs5006 => kernel_rfl
          case hf5006 => kernel_rfl
          case hr5006 => kernel_rfl
          case hz5006 => kernel_rfl
          case hQ5006 => exact fun _ _ _ h => h
          case hw5006 => rfl
          case hy5006 => (intro W0 hSw; (try dsimp only at hSw); have y4 : W0.cell? ⟨a, 4, none⟩ = some (.int .i64 i.n) := Blk.cell hSw 4; go_simp; (try with_reducible rfl))
          try simp only [Act.put, List.setIfInBounds_toArray, List.set_cons_zero, List.set_cons_succ]
          refine' wpTail_one (i := 2) (o := _) (by kernel_rfl) ?ho5007 ?hw5007 (fun K hK => ?_)
          case ho5007 => (simp only [List.getElem?_toArray, List.getElem?_cons_succ, List.getElem?_cons_zero]; exact rfl)
          case hw5007 => rfl
          go_simp
          (with_reducible refine (one_any i.a _).mono ?_)
          rintro e w3 ⟨rfl, hb3⟩
          have hd3 : Below W1.heap.size W1 w3 := (below_drewL (Below.refl W1.heap.size W1) 1).trans hb3
          have hh3 := hh0.below hd3 HAL.out
          refine hK.out _ _ (fun _ => hh3) ?_
          clear hK K
          try simp only [Act.put, List.setIfInBounds_toArray, List.set_cons_zero, List.set_cons_succ]
          refine' wpTail_one (i := 7) (o := _) (by kernel_rfl) ?ho5008 ?hw5008 (fun K hK => ?_)
          case ho5008 => (simp only [List.getElem?_toArray, List.getElem?_cons_succ, List.getElem?_cons_zero]; exact rfl)
          case hw5008 => rfl
          go_simp
          (with_reducible refine (run_any i.b i.n _).mono ?_)
          rintro e w4 ⟨rfl, hb4⟩
          have hd4 : Below W1.heap.size W1 w4 := hd3.trans (hb4.mono hd3.size)
          have hh4 := hh0.below hd4 HAL.out
          refine hK.out _ _ (fun _ => hh4) ?_
          clear hK K
          try simp only [Act.put, List.setIfInBounds_toArray, List.set_cons_zero, List.set_cons_succ]
          refine' wpTail_one (i := 8) (o := _) (by kernel_rfl) ?ho5009 ?hw5009 (fun K hK => ?_)
          case ho5009 => (simp only [List.getElem?_toArray, List.getElem?_cons_succ, List.getElem?_cons_zero]; exact rfl)
          case hw5009 => rfl
          go_simp
          refine hK.out _ _ (fun _ => hh4.alloc _) ?_
          clear hK K
          try simp only [Act.put, List.setIfInBounds_toArray, List.set_cons_zero, List.set_cons_succ]
          refine' wpTail_one (i := 9) (o := _) (by kernel_rfl) ?ho5010 ?hw5010 (fun K hK => ?_)
          case ho5010 => (simp only [List.getElem?_toArray, List.getElem?_cons_succ, List.getElem?_cons_zero]; exact rfl)
          case hw5010 => rfl
          go_simp
          refine hK.out _ _ (fun _ => hh4.alloc _) ?_
          clear hK K
          refine wpTail_done (by kernel_rfl) ?_ _
          try simp only [Act.put, List.setIfInBounds_toArray, List.set_cons_zero, List.set_cons_succ]
          go_wp2_with fail
          go_ret
          exact ⟨_, rfl, own_lit (Nat.le_trans HB1.out.size hd4.size) rfl (by decide), (HB1.out.trans (hd4.mono HB1.out.size)).alloc (Nat.le_trans HB1.out.size hd4.size) _⟩)
      · by_cases h4 : o = 15 ∨ o = 16 ∨ o = 17
        · rcases h4 with h | h | h <;> (
            subst h
            have HE := hide (show readS i = [⟨i.a, 1⟩, ⟨i.b, 1⟩] by unfold readS; rw [← HO.out]; rfl)
            rw [HE.out]
            have hh0 : Blk W1 a 45 (i.arr (.slice Aa ma ca) (.slice Ar m cr)) := HBA.out
            have HAL := hide hh0.lt
            go_enter Try.func56, Try.ntmps56
            go_upto_region 1 with (fail)
            rw [← HW1.out, ← HA.out]
            go_upto_region 25 with (fail)
            go_wp2_with fail
            refine wp_region_tail 99 (fun w' => Blk w' a 45 (i.arr (.slice Aa ma ca) (.slice Ar m cr))) (by kernel_rfl) hh0 (fun hHeld => ?_)
            try simp only [Act.put, List.setIfInBounds_toArray, List.set_cons_zero, List.set_cons_succ]
            refine' wpTail_take (i := 0) (oi := _) ?hi5011 ?hs5011 ?hf5011 ?hr5011 ?hz5011 ?hQ5011 (v := _) (Or.inl ⟨?hw5011, ?hy5011⟩) (by assumption) ?_
            case hi5011 => (simp only [List.getElem?_toArray, List.getElem?_cons_zero]; exact rfl)
            case hs5011 => kernel_rfl
            case hf5011 => kernel_rfl
            case hr5011 => kernel_rfl
            case hz5011 => kernel_rfl
            case hQ5011 => exact fun _ _ _ h => h
            case hw5011 => rfl
            case hy5011 => (intro W0 hSw; (try dsimp only at hSw); go_simp; (try with_reducible rfl))
            try simp only [Act.put, List.setIfInBounds_toArray, List.set_cons_zero, List.set_cons_succ]
            refine' wpTail_take (i := 1) (oi := _) ?hi5012 ?hs5012 ?hf5012 ?hr5012 ?hz5012 ?hQ5012 (v := _) (Or.inl ⟨?hw5012, ?hy5012⟩) (by assumption) ?_
            case hi5012 => (simp only [List.getElem?_toArray, List.getElem?_cons_succ, List.getElem?_cons_zero]; exact rfl)
            case hs5012 => kernel_rfl
            case hf5012 => kernel_rfl
            case hr5012 => kernel_rfl
            case hz5012 => kernel_rfl
            case hQ5012 => exact fun _ _ _ h => h
            case hw5012 => rfl
            case hy5012 => (intro W0 hSw; (try dsimp only at hSw); have y2 : W0.cell? ⟨a, 2, none⟩ = some (.int .i64 i.a) := Blk.cell hSw 2; go_simp; (try with_reducible rfl))
            try simp only [Act.put, List.setIfInBounds_toArray, List.set_cons_zero, List.set_cons_succ]
            refine' wpTail_take (i := 3) (oi := _) ?hi5013 ?hs5013 ?hf5013 ?hr5013 ?hz5013 ?hQ5013 (v := _) (Or.inl ⟨?hw5013, ?hy5013⟩) (by assumption) ?_
            case hi5013 => (simp only [List.getElem?_toArray, List.getElem?_cons_succ, List.getElem?_cons_zero]; exact rfl)
            case hs5013 => kernel_rfl
            case hf5013 => kernel_rfl
            case hr5013 => kernel_rfl
            case hz5013 => kernel_rfl
            case hQ5013 => exact fun _ _ _ h => h
            case hw5013 => rfl
            case hy5013 => (intro W0 hSw; (try dsimp only at hSw); go_simp; (try with_reducible rfl))
            try simp only [Act.put, List.setIfInBounds_toArray, List.set_cons_zero, List.set_cons_succ]
            refine' wpTail_take (i := 4) (oi := _) ?hi5014 ?hs5014 ?hf5014 ?hr5014 ?hz5014 ?hQ5014 (v := _) (Or.inl ⟨?hw5014, ?hy5014⟩) (by assumption) ?_
            case hi5014 => (simp only [List.getElem?_toArray, List.getElem?_cons_succ, List.getElem?_cons_zero]; exact rfl)
            case hs5014 => kernel_rfl
            case hf5014 => kernel_rfl
            case hr5014 => kernel_rfl
            case hz5014 => kernel_rfl
            case hQ5014 => exact fun _ _ _ h => h
            case hw5014 => rfl
            case hy5014 => (intro W0 hSw; (try dsimp only at hSw); have y3 : W0.cell? ⟨a, 3, none⟩ = some (.int .i64 i.b) := Blk.cell hSw 3; go_simp; (try with_reducible rfl))
            try simp only [Act.put, List.setIfInBounds_toArray, List.set_cons_zero, List.set_cons_succ]
            refine' wpTail_one (i := 2) (o := _) (by kernel_rfl) ?ho5015 ?hw5015 (fun K hK => ?_)
            case ho5015 => (simp only [List.getElem?_toArray, List.getElem?_cons_succ, List.getElem?_cons_zero]; exact rfl)
            case hw5015 => rfl
            go_simp
            (with_reducible refine (one_any i.a _).mono ?_)
            rintro e w3 ⟨rfl, hb3⟩
            have hd3 : Below W1.heap.size W1 w3 := (below_drewL (Below.refl W1.heap.size W1) 1).trans hb3
            have hh3 := hh0.below hd3 HAL.out
            refine hK.out _ _ (fun _ => hh3) ?_
            clear hK K
            try simp only [Act.put, List.setIfInBounds_toArray, List.set_cons_zero, List.set_cons_succ]
            refine' wpTail_one (i := 5) (o := _) (by kernel_rfl) ?ho5016 ?hw5016 (fun K hK => ?_)
            case ho5016 => (simp only [List.getElem?_toArray, List.getElem?_cons_succ, List.getElem?_cons_zero]; exact rfl)
            case hw5016 => rfl
            go_simp
            (with_reducible refine (one_any i.b _).mono ?_)
            rintro e w4 ⟨rfl, hb4⟩
            have hd4 : Below W1.heap.size W1 w4 := hd3.trans (hb4.mono hd3.size)
            have hh4 := hh0.below hd4 HAL.out
            refine hK.out _ _ (fun _ => hh4) ?_
            clear hK K
            try simp only [Act.put, List.setIfInBounds_toArray, List.set_cons_zero, List.set_cons_succ]
            refine' wpTail_one (i := 6) (o := _) (by kernel_rfl) ?ho5017 ?hw5017 (fun K hK => ?_)
            case ho5017 => (simp only [List.getElem?_toArray, List.getElem?_cons_succ, List.getElem?_cons_zero]; exact rfl)
            case hw5017 => rfl
            go_simp
            refine hK.out _ _ (fun _ => hh4.alloc _) ?_
            clear hK K
            try simp only [Act.put, List.setIfInBounds_toArray, List.set_cons_zero, List.set_cons_succ]
            refine' wpTail_one (i := 7) (o := _) (by kernel_rfl) ?ho5018 ?hw5018 (fun K hK => ?_)
            case ho5018 => (simp only [List.getElem?_toArray, List.getElem?_cons_succ, List.getElem?_cons_zero]; exact rfl)
            case hw5018 => rfl
            go_simp
            refine hK.out _ _ (fun _ => hh4.alloc _) ?_
            clear hK K
            refine wpTail_done (by kernel_rfl) ?_ _
            try simp only [Act.put, List.setIfInBounds_toArray, List.set_cons_zero, List.set_cons_succ]
            go_wp2_with fail
            go_ret
            exact ⟨_, rfl, own_lit (Nat.le_trans HB1.out.size hd4.size) rfl (by decide), (HB1.out.trans (hd4.mono HB1.out.size)).alloc (Nat.le_trans HB1.out.size hd4.size) _⟩)
        · by_cases h5 : o = 22 ∨ o = 23 ∨ o = 28 ∨ o = 38
          · rcases h5 with h | h | h | h <;> (
              subst h
              have HE := hide (show readS i = (i.args.map fun r => (⟨r, 1⟩ : Sp)) by unfold readS; rw [← HO.out]; rfl)
              rw [HE.out]
              go_enter Try.func56, Try.ntmps56
              go_upto_region 1 with (fail)
              rw [← HW1.out, ← HA.out]
              go_wp2_with fail
              refine (each_any _ i.args _ HOK.out.ar (by have := HNA.out; omega)).mono ?_
              rintro e w3 ⟨v3, rfl, hown3, hb3⟩
              go_wp2_with fail
              go_ret
              exact ⟨_, rfl, own_monoT hown3 HB1.out.size, HB1.out.trans (hb3.mono HB1.out.size)⟩)
          · by_cases h6 : o = 21
            · subst h6
              have HE := hide (show readS i = ⟨i.a, 1⟩ :: (i.args.map fun r => (⟨r, 1⟩ : Sp)) by unfold readS; rw [← HO.out]; rfl)
              rw [HE.out]
              have hh0 : Blk W1 a 45 (i.arr (.slice Aa ma ca) (.slice Ar m cr)) := HBA.out
              have HAL := hide hh0.lt
              go_enter Try.func56, Try.ntmps56
              go_upto_region 1 with (fail)
              rw [← HW1.out, ← HA.out]
              go_upto_region 32 with (fail)
              go_wp2_with fail
              refine wp_region_tail 99 (fun w' => Blk w' a 45 (i.arr (.slice Aa ma ca) (.slice Ar m cr))) (by kernel_rfl) hh0 (fun hHeld => ?_)
              try simp only [Act.put, List.setIfInBounds_toArray, List.set_cons_zero, List.set_cons_succ]
              refine' wpTail_take (i := 0) (oi := _) ?hi5019 ?hs5019 ?hf5019 ?hr5019 ?hz5019 ?hQ5019 (v := _) (Or.inl ⟨?hw5019, ?hy5019⟩) (by assumption) ?_
              case hi5019 => (simp only [List.getElem?_toArray, List.getElem?_cons_zero]; exact rfl)
              case hs5019 => kernel_rfl
              case hf5019 => kernel_rfl
              case hr5019 => kernel_rfl
              case hz5019 => kernel_rfl
              case hQ5019 => exact fun _ _ _ h => h
              case hw5019 => rfl
              case hy5019 => (intro W0 hSw; (try dsimp only at hSw); go_simp; (try with_reducible rfl))
              try simp only [Act.put, List.setIfInBounds_toArray, List.set_cons_zero, List.set_cons_succ]
              refine' wpTail_take (i := 1) (oi := _) ?hi5020 ?hs5020 ?hf5020 ?hr5020 ?hz5020 ?hQ5020 (v := _) (Or.inl ⟨?hw5020, ?hy5020⟩) (by assumption) ?_
              case hi5020 => (simp only [List.getElem?_toArray, List.getElem?_cons_succ, List.getElem?_cons_zero]; exact rfl)
              case hs5020 => kernel_rfl
              case hf5020 => kernel_rfl
              case hr5020 => kernel_rfl
              case hz5020 => kernel_rfl
              case hQ5020 => exact fun _ _ _ h => h
              case hw5020 => rfl
              case hy5020 => (intro W0 hSw; (try dsimp only at hSw); have y2 : W0.cell? ⟨a, 2, none⟩ = some (.int .i64 i.a) := Blk.cell hSw 2; go_simp; (try with_reducible rfl))
              try simp only [Act.put, List.setIfInBounds_toArray, List.set_cons_zero, List.set_cons_succ]
              refine' wpTail_take (i := 4) (oi := _) ?hi5021 ?hs5021 ?hf5021 ?hr5021 ?hz5021 ?hQ5021 (v := _) (Or.inl ⟨?hw5021, ?hy5021⟩) (by assumption) ?_
              case hi5021 => (simp only [List.getElem?_toArray, List.getElem?_cons_succ, List.getElem?_cons_zero]; exact rfl)
              case hs5021 => kernel_rfl
              case hf5021 => kernel_rfl
              case hr5021 => kernel_rfl
              case hz5021 => kernel_rfl
              case hQ5021 => exact fun _ _ _ h => h
              case hw5021 => rfl
              case hy5021 => (intro W0 hSw; (try dsimp only at hSw); go_simp; (try with_reducible rfl))
              try simp only [Act.put, List.setIfInBounds_toArray, List.set_cons_zero, List.set_cons_succ]
              refine' wpTail_take (i := 5) (oi := _) ?hi5022 ?hs5022 ?hf5022 ?hr5022 ?hz5022 ?hQ5022 (v := _) (Or.inl ⟨?hw5022, ?hy5022⟩) (by assumption) ?_
              case hi5022 => (simp only [List.getElem?_toArray, List.getElem?_cons_succ, List.getElem?_cons_zero]; exact rfl)
              case hs5022 => kernel_rfl
              case hf5022 => kernel_rfl
              case hr5022 => kernel_rfl
              case hz5022 => kernel_rfl
              case hQ5022 => exact fun _ _ _ h => h
              case hw5022 => rfl
              case hy5022 => (intro W0 hSw; (try dsimp only at hSw); have y12 : W0.cell? ⟨a, 12, none⟩ = some ((.slice Aa ma ca)) := Blk.cell hSw 12; go_simp; (try with_reducible rfl))
              try simp only [Act.put, List.setIfInBounds_toArray, List.set_cons_zero, List.set_cons_succ]
              refine' wpTail_one (i := 2) (o := _) (by kernel_rfl) ?ho5023 ?hw5023 (fun K hK => ?_)
              case ho5023 => (simp only [List.getElem?_toArray, List.getElem?_cons_succ, List.getElem?_cons_zero]; exact rfl)
              case hw5023 => rfl
              go_simp
              (with_reducible refine (one_any i.a _).mono ?_)
              rintro e w3 ⟨rfl, hb3⟩
              have hd3 : Below W1.heap.size W1 w3 := (below_drewL (Below.refl W1.heap.size W1) 1).trans hb3
              have hh3 := hh0.below hd3 HAL.out
              have hsz3 := Nat.le_trans HB1.out.size hd3.size
              refine hK.out _ _ (fun _ => hh3) ?_
              clear hK K
              try simp only [Act.put, List.setIfInBounds_toArray, List.set_cons_zero, List.set_cons_succ]
              refine' wpTail_two (i := 3) (j := 6) (o := _) (p := _) (by kernel_rfl) ?hi5024 ?hj5024 ?wi5024 ?wj5024 ?si5024 ?sj5024
              case hi5024 => (simp only [List.getElem?_toArray, List.getElem?_cons_succ, List.getElem?_cons_zero]; exact rfl)
              case hj5024 => (simp only [List.getElem?_toArray, List.getElem?_cons_succ, List.getElem?_cons_zero]; exact rfl)
              case wi5024 => rfl
              case wj5024 => rfl
              case si5024 =>
                intro K hK
                go_simp
                refine hK.out _ _ (fun _ => hh3.alloc _) ?_
                clear hK K
                have hlit := own_lit (W := w3) (cs := #[.int .i64 i.a, .int .i64 1]) (n := 1) hsz3 rfl (by decide)
                obtain ⟨W4, hW4⟩ : ∃ W4, W4 = w3.alloc (.cells #[.int .i64 i.a, .int .i64 1] 111) := ⟨_, rfl⟩
                have hd4 : Below W1.heap.size W1 W4 := by rw [hW4]; exact hd3.alloc hd3.size _
                have hh4 : Blk W4 a 45 (i.arr (.slice Aa ma ca) (.slice Ar m cr)) := hh0.below hd4 HAL.out
                rw [← hW4] at hlit ⊢
                clear hW4
                try simp only [Act.put, List.setIfInBounds_toArray, List.set_cons_zero, List.set_cons_succ]
                refine' wpTail_one (i := 6) (o := _) (by kernel_rfl) ?ho5025 ?hw5025 (fun K hK => ?_)
                case ho5025 => (simp only [List.getElem?_toArray, List.getElem?_cons_succ, List.getElem?_cons_zero]; exact rfl)
                case hw5025 => rfl
                go_simp
                (with_reducible refine (each_any _ i.args _ (HOK.out.ar.below hd4 (Nat.le_refl _)) (by have := HNA.out; omega)).mono ?_)
                rintro e w5 ⟨v5, rfl, hown5, hb5⟩
                have hl4 : (List.map (fun r => (⟨r, 1⟩ : Sp)) i.args).length = ma := by rw [List.length_map]; exact HM.out.2.1.symm
                rw [hl4] at hown5
                obtain ⟨A4, c4, rfl⟩ := own_formT hown5
                have hd5 : Below W1.heap.size W1 w5 := hd4.trans (hb5.mono hd4.size)
                have hh5 := hh0.below hd5 HAL.out
                have hlit5 := own_belowT hlit hb5
                have hbw5 : Below w.heap.size w w5 := HB1.out.trans (hd5.mono HB1.out.size)
                refine hK.out _ _ (fun _ => hh5) ?_
                clear hK K
                try simp only [Act.put, List.setIfInBounds_toArray, List.set_cons_zero, List.set_cons_succ]
                refine' wpTail_one (i := 7) (o := _) (by kernel_rfl) ?ho5026 ?hw5026 (fun K hK => ?_)
                case ho5026 => (simp only [List.getElem?_toArray, List.getElem?_cons_succ, List.getElem?_cons_zero]; exact rfl)
                case hw5026 => rfl
                refine wp_append_any _ (.tmp 71) (.tmp 74) _ rfl w.heap.size 111 is0 _ 2 16 Try.underlying109 his0 hsz0 hsz1 hsz2 rfl (by omega) _ 1 [.int .i64 i.a, .int .i64 1] rfl hlit5 (w5).heap.size A4 ma c4 _ rfl (Reads.of_own hown5) (by intro u hu; obtain ⟨sp, hsp, hu⟩ := List.mem_flatMap.1 hu; simp [Sp.enc] at hu; rcases hu with rfl | rfl <;> rfl) (by have := HNA.out; have := HM.out; simp only [maxLen]; omega) (by have := HNA.out; have := HM.out; omega) (hbw5).size ?_
                intro v6 w6 hown6 hg6 hat6
                have hh6 := (hh5).grown hg6 (fun e => own_blk_ne hlit5 (hh5) (by decide) e.symm)
                refine hK.out _ _ (fun _ => hh6) ?_
                clear hK K
                have hbn := (hbw5).grown hg6 (hbw5).size (fun k hk => (Go.World.ownsRow.lt hlit5 k hk).1)
                try simp only [Act.put, List.setIfInBounds_toArray, List.set_cons_zero, List.set_cons_succ]
                refine' wpTail_one (i := 8) (o := _) (by kernel_rfl) ?ho5027 ?hw5027 (fun K hK => ?_)
                case ho5027 => (simp only [List.getElem?_toArray, List.getElem?_cons_succ, List.getElem?_cons_zero]; exact rfl)
                case hw5027 => rfl
                go_simp
                refine hK.out _ _ (fun _ => hh6) ?_
                clear hK K
                refine wpTail_done (by kernel_rfl) ?_ _
                try simp only [Act.put, List.setIfInBounds_toArray, List.set_cons_zero, List.set_cons_succ]
                clear hHeld
                go_wp2_with fail
                go_ret
                refine ⟨_, rfl, ?_, hbn⟩
                rw [List.length_cons, hl4, List.flatMap_cons, Nat.add_comm]
                exact hown6
              case sj5024 =>
                intro K hK
                go_simp
                (with_reducible refine (each_any _ i.args _ (HOK.out.ar.below hd3 (Nat.le_refl _)) (by have := HNA.out; omega)).mono ?_)
                rintro e w4 ⟨v4, rfl, hown4, hb4⟩
                have hl4 : (List.map (fun r => (⟨r, 1⟩ : Sp)) i.args).length = ma := by rw [List.length_map]; exact HM.out.2.1.symm
                rw [hl4] at hown4
                obtain ⟨A4, c4, rfl⟩ := own_formT hown4
                have hd4 : Below W1.heap.size W1 w4 := hd3.trans (hb4.mono hd3.size)
                have hh4 := hh0.below hd4 HAL.out
                refine hK.out _ _ (fun _ => hh4) ?_
                clear hK K
                try simp only [Act.put, List.setIfInBounds_toArray, List.set_cons_zero, List.set_cons_succ]
                refine' wpTail_one (i := 3) (o := _) (by kernel_rfl) ?ho5028 ?hw5028 (fun K hK => ?_)
                case ho5028 => (simp only [List.getElem?_toArray, List.getElem?_cons_succ, List.getElem?_cons_zero]; exact rfl)
                case hw5028 => rfl
                go_simp
                refine hK.out _ _ (fun _ => hh4.alloc _) ?_
                clear hK K
                have hlit5 := own_lit (W := w4) (B := w.heap.size) (cs := #[.int .i64 i.a, .int .i64 1]) (n := 1) (Nat.le_trans HB1.out.size hd4.size) rfl (by decide)
                have hown5 := own_belowT hown4 ((Below.refl w4.heap.size w4).alloc (Nat.le_refl _) (.cells #[.int .i64 i.a, .int .i64 1] 111))
                have hh5 := hh4.alloc (.cells #[.int .i64 i.a, .int .i64 1] 111)
                have hbw5 : Below w.heap.size w (w4.alloc (.cells #[.int .i64 i.a, .int .i64 1] 111)) := (HB1.out.trans (hd4.mono HB1.out.size)).alloc (Nat.le_trans HB1.out.size hd4.size) _
                try simp only [Act.put, List.setIfInBounds_toArray, List.set_cons_zero, List.set_cons_succ]
                refine' wpTail_one (i := 7) (o := _) (by kernel_rfl) ?ho5029 ?hw5029 (fun K hK => ?_)
                case ho5029 => (simp only [List.getElem?_toArray, List.getElem?_cons_succ, List.getElem?_cons_zero]; exact rfl)
                case hw5029 => rfl
                refine wp_append_any _ (.tmp 71) (.tmp 74) _ rfl w.heap.size 111 is0 _ 2 16 Try.underlying109 his0 hsz0 hsz1 hsz2 rfl (by omega) _ 1 [.int .i64 i.a, .int .i64 1] rfl hlit5 (w4.alloc (.cells #[.int .i64 i.a, .int .i64 1] 111)).heap.size A4 ma c4 _ rfl (Reads.of_own hown5) (by intro u hu; obtain ⟨sp, hsp, hu⟩ := List.mem_flatMap.1 hu; simp [Sp.enc] at hu; rcases hu with rfl | rfl <;> rfl) (by have := HNA.out; have := HM.out; simp only [maxLen]; omega) (by have := HNA.out; have := HM.out; omega) (hbw5).size ?_
                intro v6 w6 hown6 hg6 hat6
                have hh6 := (hh5).grown hg6 (fun e => own_blk_ne hlit5 (hh5) (by decide) e.symm)
                refine hK.out _ _ (fun _ => hh6) ?_
                clear hK K
                have hbn := (hbw5).grown hg6 (hbw5).size (fun k hk => (Go.World.ownsRow.lt hlit5 k hk).1)
                try simp only [Act.put, List.setIfInBounds_toArray, List.set_cons_zero, List.set_cons_succ]
                refine' wpTail_one (i := 8) (o := _) (by kernel_rfl) ?ho5030 ?hw5030 (fun K hK => ?_)
                case ho5030 => (simp only [List.getElem?_toArray, List.getElem?_cons_succ, List.getElem?_cons_zero]; exact rfl)
                case hw5030 => rfl
                go_simp
                refine hK.out _ _ (fun _ => hh6) ?_
                clear hK K
                refine wpTail_done (by kernel_rfl) ?_ _
                try simp only [Act.put, List.setIfInBounds_toArray, List.set_cons_zero, List.set_cons_succ]
                clear hHeld
                go_wp2_with fail
                go_ret
                refine ⟨_, rfl, ?_, hbn⟩
                rw [List.length_cons, hl4, List.flatMap_cons, Nat.add_comm]
                exact hown6
            · by_cases h7 : o = 24 ∨ o = 25
              · by_cases ha1 : i.a = -1
                · have HA1 := hide ha1
                  clear ha1
                  rcases h7 with h | h <;> (
                    subst h
                    have HE := hide (show readS i = (i.args.map fun r => (⟨r, 1⟩ : Sp)) by unfold readS; rw [← HO.out, HA1.out]; rfl)
                    rw [HE.out]
                    go_enter Try.func56, Try.ntmps56
                    go_upto_region 1 with (fail)
                    rw [← HW1.out, ← HA.out]
                    rw [HA1.out] at z2
                    go_wp2_with fail
                    refine (each_any _ i.args _ HOK.out.ar (by have := HNA.out; omega)).mono ?_
                    rintro e w3 ⟨v3, rfl, hown3, hb3⟩
                    go_wp2_with fail
                    go_ret
                    exact ⟨_, rfl, own_monoT hown3 HB1.out.size, HB1.out.trans (hb3.mono HB1.out.size)⟩)
                · rcases h7 with h | h <;> (
                    subst h
                    have HE := hide (show readS i = ⟨i.a, 1⟩ :: (i.args.map fun r => (⟨r, 1⟩ : Sp)) by unfold readS; rw [← HO.out]; exact if_neg ha1)
                    have ha2 : (i.a == -1) = false := by rw [beq_eq_false_iff_ne]; exact ha1
                    rw [HE.out]
                    have hh0 : Blk W1 a 45 (i.arr (.slice Aa ma ca) (.slice Ar m cr)) := HBA.out
                    have HAL := hide hh0.lt
                    go_enter Try.func56, Try.ntmps56
                    go_upto_region 1 with (fail)
                    rw [← HW1.out, ← HA.out]
                    go_upto_region 37 with (fail)
                    go_wp2_with fail
                    refine wp_region_tail 99 (fun w' => Blk w' a 45 (i.arr (.slice Aa ma ca) (.slice Ar m cr))) (by kernel_rfl) hh0 (fun hHeld => ?_)
                    try simp only [Act.put, List.setIfInBounds_toArray, List.set_cons_zero, List.set_cons_succ]
                    refine' wpTail_take (i := 0) (oi := _) ?hi5031 ?hs5031 ?hf5031 ?hr5031 ?hz5031 ?hQ5031 (v := _) (Or.inl ⟨?hw5031, ?hy5031⟩) (by assumption) ?_
                    case hi5031 => (simp only [List.getElem?_toArray, List.getElem?_cons_zero]; exact rfl)
                    case hs5031 => kernel_rfl
                    case hf5031 => kernel_rfl
                    case hr5031 => kernel_rfl
                    case hz5031 => kernel_rfl
                    case hQ5031 => exact fun _ _ _ h => h
                    case hw5031 => rfl
                    case hy5031 => (intro W0 hSw; (try dsimp only at hSw); go_simp; (try with_reducible rfl))
                    try simp only [Act.put, List.setIfInBounds_toArray, List.set_cons_zero, List.set_cons_succ]
                    refine' wpTail_take (i := 1) (oi := _) ?hi5032 ?hs5032 ?hf5032 ?hr5032 ?hz5032 ?hQ5032 (v := _) (Or.inl ⟨?hw5032, ?hy5032⟩) (by assumption) ?_
                    case hi5032 => (simp only [List.getElem?_toArray, List.getElem?_cons_succ, List.getElem?_cons_zero]; exact rfl)
                    case hs5032 => kernel_rfl
                    case hf5032 => kernel_rfl
                    case hr5032 => kernel_rfl
                    case hz5032 => kernel_rfl
                    case hQ5032 => exact fun _ _ _ h => h
                    case hw5032 => rfl
                    case hy5032 => (intro W0 hSw; (try dsimp only at hSw); have y2 : W0.cell? ⟨a, 2, none⟩ = some (.int .i64 i.a) := Blk.cell hSw 2; go_simp; (try with_reducible rfl))
                    try simp only [Act.put, List.setIfInBounds_toArray, List.set_cons_zero, List.set_cons_succ]
                    refine' wpTail_take (i := 4) (oi := _) ?hi5033 ?hs5033 ?hf5033 ?hr5033 ?hz5033 ?hQ5033 (v := _) (Or.inl ⟨?hw5033, ?hy5033⟩) (by assumption) ?_
                    case hi5033 => (simp only [List.getElem?_toArray, List.getElem?_cons_succ, List.getElem?_cons_zero]; exact rfl)
                    case hs5033 => kernel_rfl
                    case hf5033 => kernel_rfl
                    case hr5033 => kernel_rfl
                    case hz5033 => kernel_rfl
                    case hQ5033 => exact fun _ _ _ h => h
                    case hw5033 => rfl
                    case hy5033 => (intro W0 hSw; (try dsimp only at hSw); go_simp; (try with_reducible rfl))
                    try simp only [Act.put, List.setIfInBounds_toArray, List.set_cons_zero, List.set_cons_succ]
                    refine' wpTail_take (i := 5) (oi := _) ?hi5034 ?hs5034 ?hf5034 ?hr5034 ?hz5034 ?hQ5034 (v := _) (Or.inl ⟨?hw5034, ?hy5034⟩) (by assumption) ?_
                    case hi5034 => (simp only [List.getElem?_toArray, List.getElem?_cons_succ, List.getElem?_cons_zero]; exact rfl)
                    case hs5034 => kernel_rfl
                    case hf5034 => kernel_rfl
                    case hr5034 => kernel_rfl
                    case hz5034 => kernel_rfl
                    case hQ5034 => exact fun _ _ _ h => h
                    case hw5034 => rfl
                    case hy5034 => (intro W0 hSw; (try dsimp only at hSw); have y12 : W0.cell? ⟨a, 12, none⟩ = some ((.slice Aa ma ca)) := Blk.cell hSw 12; go_simp; (try with_reducible rfl))
                    try simp only [Act.put, List.setIfInBounds_toArray, List.set_cons_zero, List.set_cons_succ]
                    refine' wpTail_one (i := 2) (o := _) (by kernel_rfl) ?ho5035 ?hw5035 (fun K hK => ?_)
                    case ho5035 => (simp only [List.getElem?_toArray, List.getElem?_cons_succ, List.getElem?_cons_zero]; exact rfl)
                    case hw5035 => rfl
                    go_simp
                    (with_reducible refine (one_any i.a _).mono ?_)
                    rintro e w3 ⟨rfl, hb3⟩
                    have hd3 : Below W1.heap.size W1 w3 := (below_drewL (Below.refl W1.heap.size W1) 1).trans hb3
                    have hh3 := hh0.below hd3 HAL.out
                    have hsz3 := Nat.le_trans HB1.out.size hd3.size
                    refine hK.out _ _ (fun _ => hh3) ?_
                    clear hK K
                    try simp only [Act.put, List.setIfInBounds_toArray, List.set_cons_zero, List.set_cons_succ]
                    refine' wpTail_two (i := 3) (j := 6) (o := _) (p := _) (by kernel_rfl) ?hi5036 ?hj5036 ?wi5036 ?wj5036 ?si5036 ?sj5036
                    case hi5036 => (simp only [List.getElem?_toArray, List.getElem?_cons_succ, List.getElem?_cons_zero]; exact rfl)
                    case hj5036 => (simp only [List.getElem?_toArray, List.getElem?_cons_succ, List.getElem?_cons_zero]; exact rfl)
                    case wi5036 => rfl
                    case wj5036 => rfl
                    case si5036 =>
                      intro K hK
                      go_simp
                      refine hK.out _ _ (fun _ => hh3.alloc _) ?_
                      clear hK K
                      have hlit := own_lit (W := w3) (cs := #[.int .i64 i.a, .int .i64 1]) (n := 1) hsz3 rfl (by decide)
                      obtain ⟨W4, hW4⟩ : ∃ W4, W4 = w3.alloc (.cells #[.int .i64 i.a, .int .i64 1] 111) := ⟨_, rfl⟩
                      have hd4 : Below W1.heap.size W1 W4 := by rw [hW4]; exact hd3.alloc hd3.size _
                      have hh4 : Blk W4 a 45 (i.arr (.slice Aa ma ca) (.slice Ar m cr)) := hh0.below hd4 HAL.out
                      rw [← hW4] at hlit ⊢
                      clear hW4
                      try simp only [Act.put, List.setIfInBounds_toArray, List.set_cons_zero, List.set_cons_succ]
                      refine' wpTail_one (i := 6) (o := _) (by kernel_rfl) ?ho5037 ?hw5037 (fun K hK => ?_)
                      case ho5037 => (simp only [List.getElem?_toArray, List.getElem?_cons_succ, List.getElem?_cons_zero]; exact rfl)
                      case hw5037 => rfl
                      go_simp
                      (with_reducible refine (each_any _ i.args _ (HOK.out.ar.below hd4 (Nat.le_refl _)) (by have := HNA.out; omega)).mono ?_)
                      rintro e w5 ⟨v5, rfl, hown5, hb5⟩
                      have hl4 : (List.map (fun r => (⟨r, 1⟩ : Sp)) i.args).length = ma := by rw [List.length_map]; exact HM.out.2.1.symm
                      rw [hl4] at hown5
                      obtain ⟨A4, c4, rfl⟩ := own_formT hown5
                      have hd5 : Below W1.heap.size W1 w5 := hd4.trans (hb5.mono hd4.size)
                      have hh5 := hh0.below hd5 HAL.out
                      have hlit5 := own_belowT hlit hb5
                      have hbw5 : Below w.heap.size w w5 := HB1.out.trans (hd5.mono HB1.out.size)
                      refine hK.out _ _ (fun _ => hh5) ?_
                      clear hK K
                      try simp only [Act.put, List.setIfInBounds_toArray, List.set_cons_zero, List.set_cons_succ]
                      refine' wpTail_one (i := 7) (o := _) (by kernel_rfl) ?ho5038 ?hw5038 (fun K hK => ?_)
                      case ho5038 => (simp only [List.getElem?_toArray, List.getElem?_cons_succ, List.getElem?_cons_zero]; exact rfl)
                      case hw5038 => rfl
                      refine wp_append_any _ (.tmp 88) (.tmp 91) _ rfl w.heap.size 111 is0 _ 2 16 Try.underlying109 his0 hsz0 hsz1 hsz2 rfl (by omega) _ 1 [.int .i64 i.a, .int .i64 1] rfl hlit5 (w5).heap.size A4 ma c4 _ rfl (Reads.of_own hown5) (by intro u hu; obtain ⟨sp, hsp, hu⟩ := List.mem_flatMap.1 hu; simp [Sp.enc] at hu; rcases hu with rfl | rfl <;> rfl) (by have := HNA.out; have := HM.out; simp only [maxLen]; omega) (by have := HNA.out; have := HM.out; omega) (hbw5).size ?_
                      intro v6 w6 hown6 hg6 hat6
                      have hh6 := (hh5).grown hg6 (fun e => own_blk_ne hlit5 (hh5) (by decide) e.symm)
                      refine hK.out _ _ (fun _ => hh6) ?_
                      clear hK K
                      have hbn := (hbw5).grown hg6 (hbw5).size (fun k hk => (Go.World.ownsRow.lt hlit5 k hk).1)
                      try simp only [Act.put, List.setIfInBounds_toArray, List.set_cons_zero, List.set_cons_succ]
                      refine' wpTail_one (i := 8) (o := _) (by kernel_rfl) ?ho5039 ?hw5039 (fun K hK => ?_)
                      case ho5039 => (simp only [List.getElem?_toArray, List.getElem?_cons_succ, List.getElem?_cons_zero]; exact rfl)
                      case hw5039 => rfl
                      go_simp
                      refine hK.out _ _ (fun _ => hh6) ?_
                      clear hK K
                      refine wpTail_done (by kernel_rfl) ?_ _
                      try simp only [Act.put, List.setIfInBounds_toArray, List.set_cons_zero, List.set_cons_succ]
                      clear hHeld
                      go_wp2_with fail
                      go_ret
                      refine ⟨_, rfl, ?_, hbn⟩
                      rw [List.length_cons, hl4, List.flatMap_cons, Nat.add_comm]
                      exact hown6
                    case sj5036 =>
                      intro K hK
                      go_simp
                      (with_reducible refine (each_any _ i.args _ (HOK.out.ar.below hd3 (Nat.le_refl _)) (by have := HNA.out; omega)).mono ?_)
                      rintro e w4 ⟨v4, rfl, hown4, hb4⟩
                      have hl4 : (List.map (fun r => (⟨r, 1⟩ : Sp)) i.args).length = ma := by rw [List.length_map]; exact HM.out.2.1.symm
                      rw [hl4] at hown4
                      obtain ⟨A4, c4, rfl⟩ := own_formT hown4
                      have hd4 : Below W1.heap.size W1 w4 := hd3.trans (hb4.mono hd3.size)
                      have hh4 := hh0.below hd4 HAL.out
                      refine hK.out _ _ (fun _ => hh4) ?_
                      clear hK K
                      try simp only [Act.put, List.setIfInBounds_toArray, List.set_cons_zero, List.set_cons_succ]
                      refine' wpTail_one (i := 3) (o := _) (by kernel_rfl) ?ho5040 ?hw5040 (fun K hK => ?_)
                      case ho5040 => (simp only [List.getElem?_toArray, List.getElem?_cons_succ, List.getElem?_cons_zero]; exact rfl)
                      case hw5040 => rfl
                      go_simp
                      refine hK.out _ _ (fun _ => hh4.alloc _) ?_
                      clear hK K
                      have hlit5 := own_lit (W := w4) (B := w.heap.size) (cs := #[.int .i64 i.a, .int .i64 1]) (n := 1) (Nat.le_trans HB1.out.size hd4.size) rfl (by decide)
                      have hown5 := own_belowT hown4 ((Below.refl w4.heap.size w4).alloc (Nat.le_refl _) (.cells #[.int .i64 i.a, .int .i64 1] 111))
                      have hh5 := hh4.alloc (.cells #[.int .i64 i.a, .int .i64 1] 111)
                      have hbw5 : Below w.heap.size w (w4.alloc (.cells #[.int .i64 i.a, .int .i64 1] 111)) := (HB1.out.trans (hd4.mono HB1.out.size)).alloc (Nat.le_trans HB1.out.size hd4.size) _
                      try simp only [Act.put, List.setIfInBounds_toArray, List.set_cons_zero, List.set_cons_succ]
                      refine' wpTail_one (i := 7) (o := _) (by kernel_rfl) ?ho5041 ?hw5041 (fun K hK => ?_)
                      case ho5041 => (simp only [List.getElem?_toArray, List.getElem?_cons_succ, List.getElem?_cons_zero]; exact rfl)
                      case hw5041 => rfl
                      refine wp_append_any _ (.tmp 88) (.tmp 91) _ rfl w.heap.size 111 is0 _ 2 16 Try.underlying109 his0 hsz0 hsz1 hsz2 rfl (by omega) _ 1 [.int .i64 i.a, .int .i64 1] rfl hlit5 (w4.alloc (.cells #[.int .i64 i.a, .int .i64 1] 111)).heap.size A4 ma c4 _ rfl (Reads.of_own hown5) (by intro u hu; obtain ⟨sp, hsp, hu⟩ := List.mem_flatMap.1 hu; simp [Sp.enc] at hu; rcases hu with rfl | rfl <;> rfl) (by have := HNA.out; have := HM.out; simp only [maxLen]; omega) (by have := HNA.out; have := HM.out; omega) (hbw5).size ?_
                      intro v6 w6 hown6 hg6 hat6
                      have hh6 := (hh5).grown hg6 (fun e => own_blk_ne hlit5 (hh5) (by decide) e.symm)
                      refine hK.out _ _ (fun _ => hh6) ?_
                      clear hK K
                      have hbn := (hbw5).grown hg6 (hbw5).size (fun k hk => (Go.World.ownsRow.lt hlit5 k hk).1)
                      try simp only [Act.put, List.setIfInBounds_toArray, List.set_cons_zero, List.set_cons_succ]
                      refine' wpTail_one (i := 8) (o := _) (by kernel_rfl) ?ho5042 ?hw5042 (fun K hK => ?_)
                      case ho5042 => (simp only [List.getElem?_toArray, List.getElem?_cons_succ, List.getElem?_cons_zero]; exact rfl)
                      case hw5042 => rfl
                      go_simp
                      refine hK.out _ _ (fun _ => hh6) ?_
                      clear hK K
                      refine wpTail_done (by kernel_rfl) ?_ _
                      try simp only [Act.put, List.setIfInBounds_toArray, List.set_cons_zero, List.set_cons_succ]
                      clear hHeld
                      go_wp2_with fail
                      go_ret
                      refine ⟨_, rfl, ?_, hbn⟩
                      rw [List.length_cons, hl4, List.flatMap_cons, Nat.add_comm]
                      exact hown6)
              · by_cases h8 : o = 31
                · subst h8
                  have HE := hide (show readS i = ⟨i.a, 1⟩ :: (i.args.map fun r => (⟨r, runN i.m⟩ : Sp)) by unfold readS; rw [← HO.out]; rfl)
                  rw [HE.out]
                  go_enter Try.func56, Try.ntmps56
                  go_upto_region 1 with (fail)
                  rw [← HW1.out, ← HA.out]
                  go_wp2_with fail
                  refine (one_any i.a _).mono ?_
                  rintro e w3 ⟨rfl, hb3⟩
                  have HD3 := hide (hb3.alloc hb3.size (.cells #[.int .i64 i.a, .int .i64 1] 111))
                  have HL3 := hide (own_lit (W := w3) (B := W1.heap.size) (cs := #[.int .i64 i.a, .int .i64 1]) (n := 1) hb3.size rfl (by decide))
                  have y12 : (w3.alloc (.cells #[.int .i64 i.a, .int .i64 1] 111)).cell? ⟨a, 12, none⟩ = some (.slice Aa ma ca) := (HD3.out.cell (p := ⟨a, 12, none⟩) (HBA.out.lt)).trans z12
                  have HAL := hide HBA.out.lt
                  have HC := hide (And.intro z5 z12)
                  clear hb3 z0 z2 z3 z4 z5 z12 z15
                  go_wp2_with fail
                  clear y12
                  go_loopw [3, 102] (fun ov jj wr => ∃ (Ao : Option Addr) (co j : Nat), j ≤ ma ∧ ov = .slice Ao (1 + j) co ∧ jj = .int .i64 j ∧ Hid (wr.ownsRow W1.heap.size 111 2 (.slice Ao (1 + j) co) (1 + j) ([.int .i64 i.a, .int .i64 1] ++ ((i.args.take j).map fun r => (⟨r, runN i.m⟩ : Sp)).flatMap Sp.enc)) ∧ Hid (Below W1.heap.size W1 wr)) (fun _ jj _ => ma - (intOf jj).toNat)
                  case atStart => exact ⟨_, _, 0, Nat.zero_le _, rfl, rfl, hide (by simpa using HL3.out), HD3⟩
                  case round =>
                    obtain ⟨Ao, co, j, hj, rfl, rfl, HR, HWR⟩ := hrel
                    by_cases hlt : j < ma
                    · have j1 : (j : Int) < (ma : Int) := by omega
                      have q5 : IntKind.i64.wrap ((j : Int) + 1) = (j : Int) + 1 := IntWalk.i64_in _ (by have := HM.out; have := HNA.out; omega)
                      obtain ⟨b, of, x, rfl, hbl, hx, hc⟩ := (HOK.out.ar.below HWR.out (Nat.le_refl _)).at_ (k := j) (by have := HM.out; omega)
                      have HX := hide hx
                      have y5 : wr.cell? ⟨a, 5, none⟩ = some (.int .i64 i.m) := (HWR.out.cell (p := ⟨a, 5, none⟩) HAL.out).trans HC.out.1
                      clear hx
                      go_wp2_with fail
                      refine (run_any x i.m _).mono ?_
                      rintro e w4 ⟨rfl, hb4⟩
                      have HR2 := hide (own_belowT (own_belowT HR.out hb4) ((Below.refl w4.heap.size w4).alloc (Nat.le_refl _) (.cells #[.int .i64 x, .int .i64 (runN i.m)] 111)))
                      have HBW := hide ((HWR.out.trans (hb4.mono HWR.out.size)).alloc (Nat.le_trans HWR.out.size hb4.size) (.cells #[.int .i64 x, .int .i64 (runN i.m)] 111))
                      clear hb4 y5
                      have HCL := hide (show ∀ (qi : Nat) (u : Value), ([.int .i64 x, .int .i64 (runN i.m)] : List Value)[qi]? = some u → ((w4).alloc (.cells #[.int .i64 x, .int .i64 (runN i.m)] 111)).cell? ((⟨(w4).heap.size, 0, none⟩ : Addr).add qi) = some u from fun qi u hu => by
                        rw [Addr.add_lit, Nat.zero_add, (Blk.new (w4) 111 #[.int .i64 x, .int .i64 (runN i.m)]).cell qi]
                        simpa using hu)
                      go_wp2_with (first
                        | (at_builtin
                           refine wpList_append_own_at _ rfl (.tmp 106) (.tmp 111) _ rfl W1.heap.size 111 is0 _ 2 16 Try.underlying109 his0 hsz0 hsz1 hsz2 rfl (by omega) (.slice Ao (1 + j) co) (1 + j) _ rfl HR2.out ⟨w4.heap.size, 0, none⟩ 1 1 [.int .i64 x, .int .i64 (runN i.m)] rfl rfl HCL.out (by intro u hu; simp at hu; first | (rcases hu with rfl | rfl <;> rfl) | (rcases hu with rfl | rfl | rfl | rfl <;> rfl) | (subst hu; rfl)) (by have := HNA.out; have := HM.out; simp only [maxLen]; omega) (by have := HNA.out; have := HM.out; omega) HBW.out.size ?_
                           intro v6 w6 hown6 hg6 _ hat6
                           have HBN := hide (HBW.out.grown hg6 HBW.out.size (fun k hk => (HR2.out.lt k hk).1))
                           have HRN : Hid (w6.ownsRow W1.heap.size 111 2 v6 (1 + j + 1) ([.int .i64 i.a, .int .i64 1] ++ ((i.args.take (j + 1)).map fun r => (⟨r, runN i.m⟩ : Sp)).flatMap Sp.enc)) := hide (by
                             rw [List.take_add_one, HX.out, Option.toList_some, List.map_append, List.flatMap_append, ← List.append_assoc]
                             exact hown6)
                           obtain ⟨A6, c6, rfl⟩ := own_formT hown6
                           clear hown6 hg6 hat6))
                      rw [Nat.add_assoc] at HRN ⊢
                      go_roundw
                      case rel => exact ⟨A6, c6, j + 1, by omega, rfl, by simp, HRN, HBN⟩
                      case measure => simp [intOf]; omega
                    · have hjm : j = ma := by omega
                      have HFI := hide (show i.args.take j = i.args from List.take_of_length_le (by have := HM.out; omega))
                      have HFL := hide (show (⟨i.a, 1⟩ :: (i.args.map fun r => (⟨r, runN i.m⟩ : Sp))).length = 1 + j by rw [List.length_cons, List.length_map]; have := HM.out; omega)
                      clear hjm
                      have j1 : ¬ (j : Int) < (ma : Int) := by omega
                      go_wp2_with fail
                      go_ret
                      refine ⟨_, rfl, ?_, HB1.out.trans (HWR.out.mono HB1.out.size)⟩
                      have h := own_monoT HR.out HB1.out.size
                      rw [HFI.out] at h
                      rw [HFL.out]
                      exact h
                · by_cases h9 : o = 37
                  · subst h9
                    have HE := hide (show readS i = armsR i.arms by unfold readS; rw [← HO.out]; rfl)
                    rw [HE.out]
                    go_enter Try.func56, Try.ntmps56
                    go_upto_region 1 with (fail)
                    rw [← HW1.out, ← HA.out]
                    go_wp2_with fail
                    refine (byarms_any _ i.arms _ HOK.out.rm (by have := HM.out; omega)).mono ?_
                    rintro e w3 ⟨v3, rfl, hown3, hb3⟩
                    go_wp2_with fail
                    go_ret
                    exact ⟨_, rfl, own_monoT hown3 HB1.out.size, HB1.out.trans (hb3.mono HB1.out.size)⟩
                  · have HE := hide (show readS i = [] by unfold readS; rw [← HO.out, if_neg h1, if_neg h2, if_neg h3, if_neg h4, if_neg h5, if_neg h6, if_neg h7, if_neg h8, if_neg h9])
                    rw [HE.out]
                    simp only [not_or] at h1 h2 h3 h4 h5 h7
                    obtain ⟨a2, a5⟩ := h1
                    obtain ⟨a4, a11, a13, a14, a18, a20, a26, a30, a32, a33, a35, a36, a39⟩ := h2
                    obtain ⟨a12, a34⟩ := h3
                    obtain ⟨a15, a16, a17⟩ := h4
                    obtain ⟨a22, a23, a28, a38⟩ := h5
                    obtain ⟨a24, a25⟩ := h7
                    go_enter Try.func56, Try.ntmps56
                    go_upto_region 1 with (fail)
                    rw [← HW1.out, ← HA.out]
                    go_wp2_with fail
                    go_ret
                    exact ⟨_, rfl, World.ownsRow_nil _ _ _ _, HB1.out⟩
end Go.Proofs.Ytaaadbaakhjkcaa
