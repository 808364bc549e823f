/- What the statements of layer 20 ask of the document's examples: it is so. -/
import Derived.Test.YtoaajblkbbfikaaLatAll
namespace Go.Proofs.Ytoaajblkbbfikaa
open Go.RowKit Go.WideShapes Go.ChangeShapes
set_option linter.unusedVariables false
set_option maxRecDepth 100000

theorem RI.new2 (w : World) (x y : Int) : RI (w.alloc (.cells #[.int .i64 x, .int .i64 y] 3)) (w.heap.size + 1) (some ⟨w.heap.size, 0, none⟩) 2 [x, y] := by
  refine ⟨rfl, rfl, fun _ => ⟨_, rfl, by simp, fun j u hu => ?_⟩⟩
  have hb : Blk (w.alloc (.cells #[.int .i64 x, .int .i64 y] 3)) w.heap.size 3 #[.int .i64 x, .int .i64 y] := Blk.new _ _ _
  have e : (⟨w.heap.size, 0, none⟩ : Addr).add j = ⟨w.heap.size, j, none⟩ := by unfold Addr.add; split <;> simp_all
  rw [e, hb.cell j]
  simpa using hu

set_option maxHeartbeats 2000000 in
theorem awake20 (w : World) :
    Calls Try.prog 54 #[] w (BoolBelow w true) := by
  have hfd : ∀ w : World, (Instr.field 103 (.agg #[.bool false, .slice none 0 0]) 0).run Try.prog w = .ok (.bool false) w := fun _ => by kernel_rfl
  go_enter Try.func54, Try.ntmps54
  go_wp2_with fail
  obtain ⟨s, hs⟩ : ∃ s, s = w.heap.size := ⟨_, rfl⟩
  obtain ⟨W1, hW1⟩ : ∃ W1 : World, W1 = (w.alloc (.cells #[.int .i64 1, .int .i64 0] 3)).alloc (.cells #[.bool true, .slice (some ⟨w.heap.size, 0, none⟩) 2 2] 103) := ⟨_, rfl⟩
  have hs1 : W1.heap.size = s + 2 := by rw [hW1, hs]; simp
  have hxa : RI W1 (s + 1) (some ⟨s, 0, none⟩) 2 [1, 0] := by rw [hW1, hs]; exact (RI.new2 w 1 0).alloc (by simp) _
  have hba : Blk W1 (s + 1) 103 #[.bool true, .slice (some ⟨s, 0, none⟩) 2 2] := by
    rw [hW1, hs]; have h := Blk.new (w.alloc (.cells #[.int .i64 1, .int .i64 0] 3)) 103 #[.bool true, .slice (some ⟨w.heap.size, 0, none⟩) 2 2]
    simpa using h
  have hb1 : Below s w W1 := by rw [hW1, hs]; exact ((Below.refl _ _).alloc (Nat.le_refl _) _).alloc (by simp) _
  obtain ⟨W2, hW2⟩ : ∃ W2 : World, W2 = (W1.alloc (.cells #[.int .i64 2, .int .i64 1] 3)).alloc (.cells #[.bool true, .slice (some ⟨s + 2, 0, none⟩) 2 2] 103) := ⟨_, rfl⟩
  have hs2 : W2.heap.size = s + 4 := by rw [hW2]; simp [hs1]
  have hxb : RI W2 (s + 3) (some ⟨s + 2, 0, none⟩) 2 [2, 1] := by
    have h := (RI.new2 W1 2 1).alloc (by simp) (.cells #[.bool true, .slice (some ⟨s + 2, 0, none⟩) 2 2] 103)
    rw [hs1] at h
    rw [hW2]; exact h
  have hbb : Blk W2 (s + 3) 103 #[.bool true, .slice (some ⟨s + 2, 0, none⟩) 2 2] := by
    have h := Blk.new (W1.alloc (.cells #[.int .i64 2, .int .i64 1] 3)) 103 #[.bool true, .slice (some ⟨s + 2, 0, none⟩) 2 2]
    rw [hW2]; simpa [hs1] using h
  have hb2 : Below (s + 2) W1 W2 := by rw [hW2]; exact ((Below.refl _ _).alloc (by omega) _).alloc (by simp; omega) _
  have hxa2 : RI W2 W2.heap.size (some ⟨s, 0, none⟩) 2 [1, 0] := ((hxa.more (by omega)).below hb2).more (by omega)
  have hxb2 : RI W2 W2.heap.size (some ⟨s + 2, 0, none⟩) 2 [2, 1] := hxb.more (by omega)
  have hba2 : Blk W2 (s + 1) 103 #[.bool true, .slice (some ⟨s, 0, none⟩) 2 2] := hba.below hb2 (by omega)
  have hbw : Below s w W2 := hb1.trans (hb2.mono (by omega))
  have eW : W2 = ((((w.alloc (.cells #[.int .i64 1, .int .i64 0] 3)).alloc (.cells #[.bool true, .slice (some ⟨w.heap.size, 0, none⟩) 2 2] 103)).alloc (.cells #[.int .i64 2, .int .i64 1] 3)).alloc (.cells #[.bool true, .slice (some ⟨w.heap.size + 1 + 1, 0, none⟩) 2 2] 103)) := by rw [hW2, hW1, hs]
  rw [← eW]
  have HXA := hide hxa2
  have HXB := hide hxb2
  have HBA := hide hba2
  have HBB := hide hbb
  have HBW := hide hbw
  have HS2 := hide hs2
  rw [← hs]
  have HS := hide hs
  clear eW hW2 hW1 hs1 hxa hba hb1 hxb hb2 hxa2 hxb2 hba2 hbb hbw hs2 hs
  have hj0 : Calls Try.prog 56 #[.int .i64 1, .agg #[.bool true, .slice (some ⟨s, 0, none⟩) 2 2], .agg #[.bool true, .slice (some ⟨s + 2, 0, none⟩) 2 2]] W2 (JoinPost W2 true [3, 1]) :=
    join_any 1 2 2 2 2 2 true true _ _ [1, 0] [2, 1] W2 HXA.out HXB.out (by omega) (by omega) (by decide) (by decide)
  refine hj0.mono ?_
  clear hj0
  rintro e w1 ⟨A1, c1, rfl, hown, hbl⟩
  have hj := RI.own (n := 2) rfl hown
  have HJ := hide hj
  have HB1 := hide hbl
  clear hown hj hbl
  go_wp2_with fail
  obtain ⟨g, hg⟩ : ∃ g, g = w1.heap.size := ⟨_, rfl⟩
  rw [← hg]
  obtain ⟨W3, hW3⟩ : ∃ W3 : World, W3 = w1.alloc (.cells #[.bool true, .slice A1 2 c1] 103) := ⟨_, rfl⟩
  have hs3 : W3.heap.size = g + 1 := by rw [hW3, hg]; simp
  have hsg : s + 4 ≤ g := by have h := HB1.out.size; have h2 := HS2.out; omega
  have hbj : Blk W3 g 103 #[.bool true, .slice A1 2 c1] := by rw [hW3, hg]; exact Blk.new _ _ _
  have hb3 : Below (s + 4) W2 W3 := by rw [hW3]; exact (HB1.out.mono (by have := HS2.out; omega)).alloc (by omega) _
  have hj3 : RI W3 g A1 2 [3, 1] := by have h := HJ.out.alloc (Nat.le_refl _) (.cells #[.bool true, .slice A1 2 c1] 103); rw [hW3, hg]; exact h
  first
    | rw [← hW3]
    | (show Calls _ _ _ (w1.alloc (.cells #[.bool true, .slice A1 2 c1] 103)) _; rw [← hW3])
  have HBJ := hide hbj
  have HB3 := hide hb3
  have HJ3 := hide hj3
  have HS3 := hide hs3
  have HSG := hide hsg
  clear hW3 hs3 hbj hb3 hj3 hsg HJ HB1 hg
  refine (top_two W3).mono ?_
  rintro e w2 ⟨A2, c2, rfl, hown, hbl⟩
  have ht := RI.own (n := 2) rfl hown
  obtain ⟨W4, hW4⟩ : ∃ W4 : World, W4 = w2.alloc (.cells #[.bool true, .slice A2 2 c2] 103) := ⟨_, rfl⟩
  have hb4 : Below (g + 1) W3 W4 := by rw [hW4]; exact (hbl.mono (by have := HS3.out; omega)).alloc (by have h := hbl.size; have := HS3.out; omega) _
  have hbt : Blk W4 w2.heap.size 103 #[.bool true, .slice A2 2 c2] := by rw [hW4]; exact Blk.new _ _ _
  have ht4 : RI W4 w2.heap.size A2 2 [1, 1] := by rw [hW4]; exact ht.alloc (Nat.le_refl _) _
  have hbj4 := HBJ.out.below hb4 (by omega)
  have hj4 := (HJ3.out.more (Nat.le_succ g)).below hb4
  have hb24 : Below (s + 4) W2 W4 := HB3.out.trans (hb4.mono (by have := HSG.out; omega))
  have hba4 := HBA.out.below hb24 (by omega)
  have ha4 := (HXA.out.below (hb24.mono (by have := HS2.out; omega)))
  have hs4 : g + 1 ≤ W4.heap.size := by have h := hb4.size; have := HS3.out; omega
  have hbw4 : Below s w W4 := HBW.out.trans (hb24.mono (by omega))
  obtain ⟨bj, oj, x0, rfl, _, e0, j0⟩ := hj4.at_ (k := 0) (by omega)
  obtain ⟨bj', oj', x1, e1', _, e1, j1⟩ := hj4.at_ (k := 1) (by omega)
  obtain ⟨bt, ot, y0, rfl, _, e2, t0⟩ := ht4.at_ (k := 0) (by omega)
  injection e1' with e1'
  injection e1' with ea eb
  subst ea
  subst eb
  simp at e0 e1 e2
  subst e0
  subst e1
  subst e2
  have p0 := hbj4.cell 0
  have p1 := hbj4.cell 1
  have q0 := hbt.cell 0
  have q1 := hbt.cell 1
  have r0 := hba4.cell 0
  have r1 := hba4.cell 1
  simp at p0 p1 q0 q1 r0 r1 j0 j1 t0
  rw [hW4] at p0 p1 q0 q1 r0 r1 j0 j1 t0
  have HW4 := hide hW4
  have HBJ4 := hide hbj4
  have HBT4 := hide hbt
  have HT4 := hide ht4
  have HBA4 := hide hba4
  have hlt2 : w2.heap.size + 1 ≤ W4.heap.size := by rw [hW4]; simp
  have HLT2 := hide hlt2
  clear hlt2
  have HJ4 := hide hj4
  have HA4 := hide ha4
  have HS4 := hide hs4
  have HBW4 := hide hbw4
  clear hW4 hb4 hbt ht4 hbj4 hj4 hb24 hba4 ha4 hs4 hbw4 hown hbl ht
  go_wp2_with fail
  rw [← HW4.out]
  refine (height_flat 3 (by omega) (by omega) W4).mono ?_
  rintro e w' ⟨rfl, rfl⟩
  go_wp2_with fail
  refine (height_set 3 (by omega) (by omega) W4).mono ?_
  rintro e w' ⟨rfl, rfl⟩
  clear p0 p1 q0 q1 r0 r1 j0 j1 t0
  go_wp2_with fail
  refine (bottom_any 3 W4).mono ?_
  rintro e w5 ⟨rfl, hb5⟩
  have hbt5 := HBT4.out.below hb5 (by have := HLT2.out; omega)
  have hba5 := HBA4.out.below hb5 (by have := HLT2.out; have := HS4.out; have := HSG.out; omega)
  have hbj5 := HBJ4.out.below hb5 (by have := HS4.out; omega)
  have ht5 := (HT4.out.more (B' := W4.heap.size) (by have := HLT2.out; omega)).below hb5
  have ha5 := (HA4.out.more (B' := W4.heap.size) (by have := HS4.out; have := HSG.out; have := HS2.out; omega)).below hb5
  have hj5 := (HJ4.out.more (B' := W4.heap.size) (by have := HS4.out; omega)).below hb5
  have hbw5 : Below s w w5 := HBW4.out.trans (hb5.mono (by have := HS4.out; have := HSG.out; omega))
  have hs5 : W4.heap.size ≤ w5.heap.size := hb5.size
  obtain ⟨bt', ot', y0, e2', _, e2, t0⟩ := ht5.at_ (k := 0) (by omega)
  injection e2' with e2'
  injection e2' with ea eb
  subst ea
  subst eb
  simp at e2
  subst e2
  have q0 := hbt5.cell 0
  have q1 := hbt5.cell 1
  have r0 := hba5.cell 0
  have r1 := hba5.cell 1
  simp at q0 q1 r0 r1 t0
  have HBJ5 := hide hbj5
  have HBA5 := hide hba5
  have HA5 := hide ha5
  have HJ5 := hide hj5
  have HBW5 := hide hbw5
  have HS5 := hide hs5
  clear hb5 hbt5 hba5 hbj5 ht5 ha5 hj5 hbw5 hs5
  go_wp2_with fail
  have hg1 : Calls Try.prog 55 #[.int .i64 1, .int .i64 2, .agg #[.bool true, .slice (some ⟨s, 0, none⟩) 2 2]] w5 (BoolBelow w5 true) :=
    good_any _ 2 2 1 2 true _ [1, 0] w5 HA5.out HS5.out (by omega)
  refine hg1.mono ?_
  clear hg1
  rintro e w6 ⟨rfl, hb6⟩
  have hba6 := HBA5.out.below hb6 (by have := HS5.out; have := HS4.out; have := HSG.out; omega)
  have hbj6 := HBJ5.out.below hb6 (by have := HS5.out; have := HS4.out; omega)
  have ha6 := (HA5.out.more HS5.out).below hb6
  have hj6 := (HJ5.out.more HS5.out).below hb6
  have hbw6 : Below s w w6 := HBW5.out.trans (hb6.mono (by have := HS5.out; have := HS4.out; have := HSG.out; omega))
  have hs6 : w5.heap.size ≤ w6.heap.size := hb6.size
  have a0 := hba6.cell 0
  have a1 := hba6.cell 1
  have b0 := hbj6.cell 0
  have b1 := hbj6.cell 1
  simp at a0 a1 b0 b1
  have HA6 := hide (ha6.more hs6)
  have HJ6 := hide (hj6.more hs6)
  have HBW6 := hide hbw6
  have HS6 := hide hs6
  clear hb6 hba6 hbj6 ha6 hj6 hbw6 hs6
  go_wp2_with fail
  have hg2 : Calls Try.prog 59 #[.int .i64 1, .agg #[.bool true, .slice (some ⟨s, 0, none⟩) 2 2], .agg #[.bool true, .slice (some ⟨bj, oj, none⟩) 2 c1]] w6 (BoolBelow w6 true) :=
    below_good 1 2 2 2 2 c1 true true _ _ [1, 0] [3, 1] w6 HA6.out HJ6.out (by omega) (by omega) (by decide) (by decide)
  refine hg2.mono ?_
  clear hg2
  rintro e w7 ⟨rfl, hb7⟩
  have HB7 := hide (HBW6.out.trans (hb7.mono (by have := HS6.out; have := HS5.out; have := HS4.out; have := HSG.out; omega)))
  clear hb7
  go_wp2_with fail
  go_ret
  exact ⟨rfl, by rw [← HS.out]; exact HB7.out⟩

end Go.Proofs.Ytoaajblkbbfikaa
