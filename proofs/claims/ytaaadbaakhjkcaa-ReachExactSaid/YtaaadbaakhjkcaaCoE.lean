/- The registers that arms read (readByArms); conditions: the list is in memory. -/
import Derived.Test.YtaaadbaakhjkcaaCoBD
import Derived.Test.YtaaadbaakhjkcaaTail
namespace Go.Proofs.Ytaaadbaakhjkcaa
open Go.RowKit Go.WideShapes Go.ChangeShapes
set_option linter.unusedVariables false
set_option linter.unusedSimpArgs false
set_option maxRecDepth 100000

def armR (x : Arm) : List Sp := if x.k = 1 then [⟨x.a, 1⟩, ⟨x.b, runN x.n⟩] else if x.k = 2 then [⟨x.a, 1⟩] else []
def armsR (l : List Arm) : List Sp := l.flatMap armR
theorem armsR_snoc (l : List Arm) (x : Arm) : armsR (l ++ [x]) = armsR l ++ armR x := by unfold armsR; simp
theorem armsR_le : ∀ l : List Arm, (armsR l).length ≤ 2 * l.length
  | [] => by simp [armsR]
  | x :: l => by
    have h1 := armsR_le l
    have h2 : (armR x).length ≤ 2 := by unfold armR; split; simp; split <;> simp
    unfold armsR at *
    rw [List.flatMap_cons, List.length_append, List.length_cons]
    omega
set_option maxHeartbeats 4000000 in
theorem byarms_any (v : Value) (l : List Arm) (w : World) (h : ArmsAt w v l) (hn : l.length ≤ 100000) : Calls Try.prog 82 #[v] w (SpP w (armsR l)) := by
  obtain ⟨is0, his0, hsz0, hsz1, hsz2⟩ := info_parts spanInfoT
  obtain ⟨A, c, rfl⟩ := h.form
  have HA := hide h
  obtain ⟨m, hm⟩ : ∃ m, m = l.length := ⟨_, rfl⟩
  rw [← hm] at HA ⊢
  have HM := hide (And.intro hm hn)
  clear h hm hn
  go_enter Try.func82, Try.ntmps82
  go_wp2_with fail
  go_loopw [3, 8] (fun ov jj wr => ∃ (Ao : Option Addr) (co N j : Nat), j ≤ m ∧ ov = .slice Ao N co ∧ jj = .int .i64 j ∧ Hid (N = (armsR (l.take j)).length) ∧ Hid (wr.ownsRow w.heap.size 111 2 (.slice Ao N co) N ((armsR (l.take j)).flatMap Sp.enc)) ∧ Hid (Below w.heap.size w wr)) (fun _ jj _ => m - (intOf jj).toNat)
  case atStart => exact ⟨none, 0, 0, 0, Nat.zero_le _, rfl, rfl, hide rfl, hide (by simpa [armsR] using World.ownsRow_nil _ _ _ _), hide (Below.refl _ _)⟩
  case round =>
    obtain ⟨Ao, co, N, j, hj, rfl, rfl, HN, HR, HWR⟩ := hrel
    by_cases hlt : j < m
    · have j1 : (j : Int) < (m : Int) := by omega
      have q5 : IntKind.i64.wrap ((j : Int) + 1) = (j : Int) + 1 := IntWalk.i64_in _ (by have := HM.out; omega)
      obtain ⟨b, of, x, rfl, hbl, hx, x0, x1, x2, x3, x4, x5⟩ := ArmsAt.at_ (HA.out.below HWR.out (Nat.le_refl _)) (i := j) (by have := HM.out; omega)
      have htk : l.take (j + 1) = l.take j ++ [x] := by rw [List.take_add_one, hx]; rfl
      have HTK := hide (show armsR (l.take (j + 1)) = armsR (l.take j) ++ armR x by rw [htk, armsR_snoc])
      have HNL := hide (show N ≤ 200000 by
        have h1 := armsR_le (l.take j)
        rw [List.length_take] at h1
        have := HN.out
        have := HM.out
        omega)
      obtain ⟨g, hg⟩ : ∃ g, g = wr.heap.size := ⟨_, rfl⟩
      obtain ⟨W2, hW2⟩ : ∃ W2, W2 = wr.alloc (.cells x.arr 62) := ⟨_, rfl⟩
      have hb2 : Below wr.heap.size wr W2 := by rw [hW2]; exact (Below.refl _ _).alloc (Nat.le_refl _) _
      have hbg : Blk W2 g 62 x.arr := by rw [hW2, hg]; exact Blk.new _ _ _
      have HW2 := hide hW2
      have HG := hide hg
      have HBG := hide hbg
      have HR2 := hide (own_belowT HR.out hb2)
      have HBW := hide (HWR.out.trans (hb2.mono HWR.out.size))
      have HGL := hide (show g < W2.heap.size from hbg.lt)
      clear hx htk hW2 hg hb2 hbg
      go_upto_region 5 with (fail)
      rw [← HG.out, ← HW2.out]
      clear x0 x1 x2 x3 x4 x5 hbl
      obtain ⟨kk, hkk⟩ : ∃ kk, kk = x.k := ⟨_, rfl⟩
      have u0 : W2.cell? ⟨g, 0, none⟩ = some (.int .i64 kk) := by rw [hkk]; exact HBG.out.cell 0
      have HKK := hide hkk
      clear hkk
      by_cases hk1 : kk = 1
      · subst hk1
        have HAR := hide (show armR x = [⟨x.a, 1⟩, ⟨x.b, runN x.n⟩] by unfold armR; rw [← HKK.out]; rfl)
        have hh0 : Blk W2 g 62 x.arr := HBG.out
        go_wp2_with fail
        clear u0
        refine wp_region_tail 99 (fun w' => Blk w' g 62 x.arr) (by kernel_rfl) hh0 (fun hHeld => ?_)
        try simp only [Act.put, List.setIfInBounds_toArray, List.set_cons_zero, List.set_cons_succ]
        refine' wpTail_take (i := 0) (oi := _) ?hi5001 ?hs5001 ?hf5001 ?hr5001 ?hz5001 ?hQ5001 (v := _) (Or.inl ⟨?hw5001, ?hy5001⟩) (by assumption) ?_
        case hi5001 => (simp only [List.getElem?_toArray, List.getElem?_cons_zero]; exact rfl)
        case hs5001 => kernel_rfl
        case hf5001 => kernel_rfl
        case hr5001 => kernel_rfl
        case hz5001 => kernel_rfl
        case hQ5001 => exact fun _ _ _ h => h
        case hw5001 => rfl
        case hy5001 => (intro W0 hSw; (try dsimp only at hSw); go_simp; (try with_reducible rfl))
        try simp only [Act.put, List.setIfInBounds_toArray, List.set_cons_zero, List.set_cons_succ]
        refine' wpTail_take (i := 1) (oi := _) ?hi5002 ?hs5002 ?hf5002 ?hr5002 ?hz5002 ?hQ5002 (v := _) (Or.inl ⟨?hw5002, ?hy5002⟩) (by assumption) ?_
        case hi5002 => (simp only [List.getElem?_toArray, List.getElem?_cons_succ, List.getElem?_cons_zero]; exact rfl)
        case hs5002 => kernel_rfl
        case hf5002 => kernel_rfl
        case hr5002 => kernel_rfl
        case hz5002 => kernel_rfl
        case hQ5002 => exact fun _ _ _ h => h
        case hw5002 => rfl
        case hy5002 => (intro W0 hSw; (try dsimp only at hSw); go_simp; (try with_reducible rfl))
        try simp only [Act.put, List.setIfInBounds_toArray, List.set_cons_zero, List.set_cons_succ]
        refine' wpTail_take (i := 2) (oi := _) ?hi5003 ?hs5003 ?hf5003 ?hr5003 ?hz5003 ?hQ5003 (v := _) (Or.inl ⟨?hw5003, ?hy5003⟩) (by assumption) ?_
        case hi5003 => (simp only [List.getElem?_toArray, List.getElem?_cons_succ, List.getElem?_cons_zero]; exact rfl)
        case hs5003 => kernel_rfl
        case hf5003 => kernel_rfl
        case hr5003 => kernel_rfl
        case hz5003 => kernel_rfl
        case hQ5003 => exact fun _ _ _ h => h
        case hw5003 => rfl
        case hy5003 => (intro W0 hSw; (try dsimp only at hSw); have u1 : W0.cell? ⟨g, 1, none⟩ = some (.int .i64 x.a) := Blk.cell hSw 1; go_simp; (try with_reducible rfl))
        try simp only [Act.put, List.setIfInBounds_toArray, List.set_cons_zero, List.set_cons_succ]
        refine' wpTail_take (i := 4) (oi := _) ?hi5004 ?hs5004 ?hf5004 ?hr5004 ?hz5004 ?hQ5004 (v := _) (Or.inl ⟨?hw5004, ?hy5004⟩) (by assumption) ?_
        case hi5004 => (simp only [List.getElem?_toArray, List.getElem?_cons_succ, List.getElem?_cons_zero]; exact rfl)
        case hs5004 => kernel_rfl
        case hf5004 => kernel_rfl
        case hr5004 => kernel_rfl
        case hz5004 => kernel_rfl
        case hQ5004 => exact fun _ _ _ h => h
        case hw5004 => rfl
        case hy5004 => (intro W0 hSw; (try dsimp only at hSw); go_simp; (try with_reducible rfl))
        try simp only [Act.put, List.setIfInBounds_toArray, List.set_cons_zero, List.set_cons_succ]
        refine' wpTail_take (i := 5) (oi := _) ?hi5005 ?hs5005 ?hf5005 ?hr5005 ?hz5005 ?hQ5005 (v := _) (Or.inl ⟨?hw5005, ?hy5005⟩) (by assumption) ?_
        case hi5005 => (simp only [List.getElem?_toArray, List.getElem?_cons_succ, List.getElem?_cons_zero]; exact rfl)
        case hs5005 => kernel_rfl
        case hf5005 => kernel_rfl
        case hr5005 => kernel_rfl
        case hz5005 => kernel_rfl
        case hQ5005 => exact fun _ _ _ h => h
        case hw5005 => rfl
        case hy5005 => (intro W0 hSw; (try dsimp only at hSw); have u2 : W0.cell? ⟨g, 2, none⟩ = some (.int .i64 x.b) := Blk.cell hSw 2; go_simp; (try with_reducible rfl))
        try simp only [Act.put, List.setIfInBounds_toArray, List.set_cons_zero, List.set_cons_succ]
        refine' wpTail_take (i := 6) (oi := _) ?hi5006 ?hs5006 ?hf5006 ?hr5006 ?hz5006 ?hQ5006 (v := _) (Or.inl ⟨?hw5006, ?hy5006⟩) (by assumption) ?_
        case hi5006 => (simp only [List.getElem?_toArray, List.getElem?_cons_succ, List.getElem?_cons_zero]; exact rfl)
        case hs5006 => kernel_rfl
        case hf5006 => kernel_rfl
        case hr5006 => kernel_rfl
        case hz5006 => kernel_rfl
        case hQ5006 => exact fun _ _ _ h => h
        case hw5006 => rfl
        case hy5006 => (intro W0 hSw; (try dsimp only at hSw); go_simp; (try with_reducible rfl))
        try simp only [Act.put, List.setIfInBounds_toArray, List.set_cons_zero, List.set_cons_succ]
        refine' wpTail_take (i := 7) (oi := _) ?hi5007 ?hs5007 ?hf5007 ?hr5007 ?hz5007 ?hQ5007 (v := _) (Or.inl ⟨?hw5007, ?hy5007⟩) (by assumption) ?_
        case hi5007 => (simp only [List.getElem?_toArray, List.getElem?_cons_succ, List.getElem?_cons_zero]; exact rfl)
        case hs5007 => kernel_rfl
        case hf5007 => kernel_rfl
        case hr5007 => kernel_rfl
        case hz5007 => kernel_rfl
        case hQ5007 => exact fun _ _ _ h => h
        case hw5007 => rfl
        case hy5007 => (intro W0 hSw; (try dsimp only at hSw); have u3 : W0.cell? ⟨g, 3, none⟩ = some (.int .i64 x.n) := Blk.cell hSw 3; go_simp; (try with_reducible rfl))
        try simp only [Act.put, List.setIfInBounds_toArray, List.set_cons_zero, List.set_cons_succ]
        refine' wpTail_one (i := 3) (o := _) (by kernel_rfl) ?ho5008 ?hw5008 (fun K hK => ?_)
        case ho5008 => (simp only [List.getElem?_toArray, List.getElem?_cons_succ, List.getElem?_cons_zero]; exact rfl)
        case hw5008 => rfl
        go_simp
        (with_reducible refine (one_any x.a _).mono ?_)
        rintro e w3 ⟨rfl, hb3⟩
        have hd3 : Below W2.heap.size W2 w3 := (below_drewL (Below.refl W2.heap.size W2) 1).trans hb3
        have hh3 := hh0.below hd3 HGL.out
        refine hK.out _ _ (fun _ => hh3) ?_
        clear hK K
        try simp only [Act.put, List.setIfInBounds_toArray, List.set_cons_zero, List.set_cons_succ]
        refine' wpTail_one (i := 8) (o := _) (by kernel_rfl) ?ho5009 ?hw5009 (fun K hK => ?_)
        case ho5009 => (simp only [List.getElem?_toArray, List.getElem?_cons_succ, List.getElem?_cons_zero]; exact rfl)
        case hw5009 => rfl
        go_simp
        (with_reducible refine (run_any x.b x.n _).mono ?_)
        rintro e w4 ⟨rfl, hb4⟩
        have hd4 : Below W2.heap.size W2 w4 := hd3.trans (hb4.mono hd3.size)
        have hh4 := hh0.below hd4 HGL.out
        refine hK.out _ _ (fun _ => hh4) ?_
        clear hK K
        try simp only [Act.put, List.setIfInBounds_toArray, List.set_cons_zero, List.set_cons_succ]
        refine' wpTail_one (i := 9) (o := _) (by kernel_rfl) ?ho5010 ?hw5010 (fun K hK => ?_)
        case ho5010 => (simp only [List.getElem?_toArray, List.getElem?_cons_succ, List.getElem?_cons_zero]; exact rfl)
        case hw5010 => rfl
        go_simp
        refine hK.out _ _ (fun _ => hh4.alloc _) ?_
        clear hK K
        have HR4 := hide (own_belowT (own_belowT HR2.out hd4) ((Below.refl w4.heap.size w4).alloc (Nat.le_refl _) (.cells #[.int .i64 x.a, .int .i64 1, .int .i64 x.b, .int .i64 (runN x.n)] 111)))
        have HB4 := hide ((HBW.out.trans (hd4.mono HBW.out.size)).alloc (Nat.le_trans HBW.out.size hd4.size) (.cells #[.int .i64 x.a, .int .i64 1, .int .i64 x.b, .int .i64 (runN x.n)] 111))
        have hh5 := hh4.alloc (.cells #[.int .i64 x.a, .int .i64 1, .int .i64 x.b, .int .i64 (runN x.n)] 111)
        try simp only [Act.put, List.setIfInBounds_toArray, List.set_cons_zero, List.set_cons_succ]
        refine' wpTail_one (i := 10) (o := _) (by kernel_rfl) ?ho5011 ?hw5011 (fun K hK => ?_)
        case ho5011 => (simp only [List.getElem?_toArray, List.getElem?_cons_succ, List.getElem?_cons_zero]; exact rfl)
        case hw5011 => rfl
        refine wp_append_any _ (.tmp 16) (.tmp 25) _ rfl w.heap.size 111 is0 _ 2 16 Try.underlying109 his0 hsz0 hsz1 hsz2 rfl (by omega) (.slice Ao N co) N ((armsR (l.take j)).flatMap Sp.enc) rfl HR4.out (w4.heap.size + 1) (some ⟨w4.heap.size, 0, none⟩) 2 2 [.int .i64 x.a, .int .i64 1, .int .i64 x.b, .int .i64 (runN x.n)] rfl ⟨rfl, fun _ => ⟨_, rfl, Nat.lt_succ_self _, fun q u hu => by
          rw [Addr.add_lit, Nat.zero_add, (Blk.new w4 111 #[.int .i64 x.a, .int .i64 1, .int .i64 x.b, .int .i64 (runN x.n)]).cell q]
          simpa using hu⟩⟩ (by intro u hu; simp at hu; rcases hu with rfl | rfl | rfl | rfl <;> rfl) (by have := HNL.out; simp only [maxLen]; omega) (by have := HNL.out; omega) HB4.out.size ?_
        intro v6 w6 hown6 hg6 hat6
        have hh6 := hh5.grown hg6 (fun e => own_blk_ne HR4.out hh5 (by decide) e.symm)
        refine hK.out _ _ (fun _ => hh6) ?_
        clear hK K
        have HBN := hide (HB4.out.grown hg6 HB4.out.size (fun k hk => (HR4.out.lt k hk).1))
        have HNN : Hid (N + 2 = (armsR (l.take (j + 1))).length) := hide (by rw [HTK.out, List.length_append, HAR.out, ← HN.out]; rfl)
        have HRN : Hid (w6.ownsRow w.heap.size 111 2 v6 (N + 2) ((armsR (l.take (j + 1))).flatMap Sp.enc)) := hide (by
          rw [HTK.out, HAR.out, List.flatMap_append]
          exact hown6)
        obtain ⟨A6, c6, rfl⟩ := own_formT hown6
        try simp only [Act.put, List.setIfInBounds_toArray, List.set_cons_zero, List.set_cons_succ]
        refine' wpTail_one (i := 11) (o := _) (by kernel_rfl) ?ho5012 ?hw5012 (fun K hK => ?_)
        case ho5012 => (simp only [List.getElem?_toArray, List.getElem?_cons_succ, List.getElem?_cons_zero]; exact rfl)
        case hw5012 => rfl
        go_simp
        refine hK.out _ _ (fun _ => hh6) ?_
        clear hK K
        refine wpTail_done (by kernel_rfl) ?_ _
        try simp only [Act.put, List.setIfInBounds_toArray, List.set_cons_zero, List.set_cons_succ]
        clear hown6 hg6 hat6 hh0 hh3 hh4 hh5 hh6 hd3 hd4 hb3 hb4 hHeld
        go_wp2_with fail
        go_roundw
        case rel => exact ⟨A6, c6, N + 2, j + 1, by omega, rfl, by simp, HNN, HRN, HBN⟩
        case measure => simp [intOf]; omega
      · by_cases hk2 : kk = 2
        · subst hk2
          have HAR := hide (show armR x = [⟨x.a, 1⟩] by unfold armR; rw [← HKK.out]; rfl)
          have u1 : W2.cell? ⟨g, 1, none⟩ = some (.int .i64 x.a) := HBG.out.cell 1
          go_wp2_with fail
          refine (one_any x.a _).mono ?_
          rintro e w3 ⟨rfl, hb3⟩
          have HR4 := hide (own_belowT (own_belowT HR2.out hb3) ((Below.refl w3.heap.size w3).alloc (Nat.le_refl _) (.cells #[.int .i64 x.a, .int .i64 1] 111)))
          have HB4 := hide ((HBW.out.trans (hb3.mono HBW.out.size)).alloc (Nat.le_trans HBW.out.size hb3.size) (.cells #[.int .i64 x.a, .int .i64 1] 111))
          clear u0 u1 hb3
          have HCL := hide (show ∀ (qi : Nat) (u : Value), ([.int .i64 x.a, .int .i64 1] : List Value)[qi]? = some u → ((w3).alloc (.cells #[.int .i64 x.a, .int .i64 1] 111)).cell? ((⟨(w3).heap.size, 0, none⟩ : Addr).add qi) = some u from fun qi u hu => by
            rw [Addr.add_lit, Nat.zero_add, (Blk.new (w3) 111 #[.int .i64 x.a, .int .i64 1]).cell qi]
            simpa using hu)
          go_wp2_with (first
            | (at_builtin
               refine wpList_append_own_at _ rfl (.tmp 29) (.tmp 33) _ rfl w.heap.size 111 is0 _ 2 16 Try.underlying109 his0 hsz0 hsz1 hsz2 rfl (by omega) (.slice Ao N co) N ((armsR (l.take j)).flatMap Sp.enc) rfl HR4.out ⟨w3.heap.size, 0, none⟩ 1 1 [.int .i64 x.a, .int .i64 1] rfl rfl HCL.out (by intro u hu; simp at hu; first | (rcases hu with rfl | rfl <;> rfl) | (rcases hu with rfl | rfl | rfl | rfl <;> rfl) | (subst hu; rfl)) (by have := HNL.out; simp only [maxLen]; omega) (by have := HNL.out; omega) HB4.out.size ?_
               intro v6 w6 hown6 hg6 _ hat6
               have HBN := hide (HB4.out.grown hg6 HB4.out.size (fun k hk => (HR4.out.lt k hk).1))
               have HNN : Hid (N + 1 = (armsR (l.take (j + 1))).length) := hide (by rw [HTK.out, List.length_append, HAR.out, ← HN.out]; rfl)
               have HRN : Hid (w6.ownsRow w.heap.size 111 2 v6 (N + 1) ((armsR (l.take (j + 1))).flatMap Sp.enc)) := hide (by
                 rw [HTK.out, HAR.out, List.flatMap_append]
                 exact hown6)
               obtain ⟨A6, c6, rfl⟩ := own_formT hown6
               clear hown6 hg6 hat6))
          go_roundw
          case rel => exact ⟨A6, c6, N + 1, j + 1, by omega, rfl, by simp, HNN, HRN, HBN⟩
          case measure => simp [intOf]; omega
        · have HAR := hide (show armR x = [] by unfold armR; rw [← HKK.out, if_neg hk1, if_neg hk2])
          have HNN : Hid (N = (armsR (l.take (j + 1))).length) := hide (by rw [HTK.out, List.length_append, HAR.out, ← HN.out]; rfl)
          have HRN : Hid (W2.ownsRow w.heap.size 111 2 (.slice Ao N co) N ((armsR (l.take (j + 1))).flatMap Sp.enc)) := hide (by
            rw [HTK.out, HAR.out, List.append_nil]
            exact HR2.out)
          go_wp2_with fail
          go_roundw
          case rel => exact ⟨Ao, co, N, j + 1, by omega, rfl, by simp, HNN, HRN, HBW⟩
          case measure => simp [intOf]; omega
    · have hjm : j = m := by omega
      have HFI := hide (show l.take j = l from List.take_of_length_le (by have := HM.out; omega))
      clear hjm
      have j1 : ¬ (j : Int) < (m : Int) := by omega
      go_wp2_with fail
      go_ret
      refine ⟨_, rfl, ?_, HWR.out⟩
      have h := HR.out
      have h2 := HN.out
      rw [HFI.out] at h h2
      rw [← h2]
      exact h
end Go.Proofs.Ytaaadbaakhjkcaa
