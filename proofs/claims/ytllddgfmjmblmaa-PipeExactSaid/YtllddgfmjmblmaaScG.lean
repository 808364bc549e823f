/- The reference's Put of layer 7; conditions: its scopes are ones of the call's own. -/
import Derived.Test.YtllddgfmjmblmaaScF
namespace Go.Proofs.Ytllddgfmjmblmaa
open Go.RowKit Go.WideShapes Go.ChangeShapes
set_option linter.unusedVariables false
set_option maxRecDepth 100000

section
variable {w w' : World} {B r : Nat} {xo xi xl : Value} {outer ins : List Int} {objs : List ObjV} {tbl : List ((Int × ByteArray) × Nat)}
set_option maxHeartbeats 1000000 in
theorem ref_put_no (h : RS w B r xo xi xl outer ins objs) (a : Int) (o : ObjV) (hno : putNo outer.length a o = true) :
    Calls Try.prog 50 #[.pointer (some ⟨r, 0, none⟩), .int .i64 a, o.val] w fun e w' => e = .returned (.tuple #[.int .i64 0, .int .i64 1]) ∧ Below w.heap.size w w' := by
  obtain ⟨W0, hW0⟩ : ∃ W : World, W = w.alloc (.cells o.arr 42) := ⟨_, rfl⟩
  obtain ⟨bo, hbo⟩ : ∃ n, n = w.heap.size := ⟨_, rfl⟩
  have hb0 : Blk W0 bo 42 o.arr := by rw [hW0, hbo]; exact Blk.new _ _ _
  have h0 : RS W0 B r xo xi xl outer ins objs := by rw [hW0]; exact h.alloc _
  have hbw : Below w.heap.size w W0 := by rw [hW0]; exact (Below.refl _ _).alloc (Nat.le_refl _) _
  have hsc := ref_has h0 a
  obtain ⟨c1, hc1⟩ : ∃ c, c = hasB outer.length a := ⟨_, rfl⟩
  unfold putNo at hno
  rw [← hc1] at hsc hno
  have HSC := hide hsc
  have HB0 := hide hb0
  have HBW := hide hbw
  have HWE := hide hW0
  have HBE := hide hbo
  have HNO := hide hno
  clear h hsc h0 hb0 hbw hc1 hno hW0 hbo
  cases c1 with
  | false =>
    unfold ObjV.val
    go_enter Try.func50, Try.ntmps50
    go_wp2_with fail
    rw [← HWE.out]
    rw [← HBE.out]
    refine HSC.out.mono ?_
    rintro e w' ⟨rfl, rfl⟩
    go_wp2_with fail
    go_ret2
    exact ⟨rfl, HBW.out⟩
  | true =>
    have o0 := HB0.out.cell 0
    have o1 := HB0.out.cell 1
    simp at o0 o1
    by_cases h3 : o.k < 1
    · have s4 : decide (o.k < 1) = true := decide_eq_true h3
      clear h3
      unfold ObjV.val
      go_enter Try.func50, Try.ntmps50
      go_wp2_with fail
      rw [← HWE.out]
      rw [← HBE.out]
      refine HSC.out.mono ?_
      rintro e w' ⟨rfl, rfl⟩
      go_wp2_with fail
      go_ret2
      exact ⟨rfl, HBW.out⟩
    have s4 : decide (o.k < 1) = false := decide_eq_false h3
    by_cases h4 : 9 < o.k
    · have s5 : decide (9 < o.k) = true := decide_eq_true h4
      clear h3 h4
      unfold ObjV.val
      go_enter Try.func50, Try.ntmps50
      go_wp2_with fail
      rw [← HWE.out]
      rw [← HBE.out]
      refine HSC.out.mono ?_
      rintro e w' ⟨rfl, rfl⟩
      go_wp2_with fail
      go_ret2
      exact ⟨rfl, HBW.out⟩
    have s5 : decide (9 < o.k) = false := decide_eq_false h4
    have hn : o.name = ⟨#[]⟩ := by
      have := HNO.out
      rw [decide_eq_true (show 1 ≤ o.k ∧ o.k ≤ 9 by omega)] at this
      simpa using this
    have hb1 : o.name.toList = [] := by rw [hn, ByteArray.toList_eq]
    have hb2 : o.name.toList.isEmpty = true := by rw [hb1]; rfl
    clear hn h3 h4
    unfold ObjV.val
    go_enter Try.func50, Try.ntmps50
    go_wp2_with fail
    rw [← HWE.out]
    rw [← HBE.out]
    refine HSC.out.mono ?_
    rintro e w' ⟨rfl, rfl⟩
    go_wp2_with fail
    go_ret2
    exact ⟨rfl, HBW.out⟩

set_option maxHeartbeats 1000000 in
theorem ref_put_twice (h : RS w B r xo xi xl outer ins objs) (hl : Link ins objs tbl) (hn : objs.length ≤ 70000) (a : Int) (o : ObjV) (hno : putNo outer.length a o = false) {i : Nat} (hlk : look tbl (a, o.name) = some i) :
    Calls Try.prog 50 #[.pointer (some ⟨r, 0, none⟩), .int .i64 a, o.val] w fun e w' => e = .returned (.tuple #[.int .i64 0, .int .i64 8]) ∧ Below w.heap.size w w' := by
  obtain ⟨W0, hW0⟩ : ∃ W : World, W = w.alloc (.cells o.arr 42) := ⟨_, rfl⟩
  obtain ⟨bo, hbo⟩ : ∃ n, n = w.heap.size := ⟨_, rfl⟩
  have hb0 : Blk W0 bo 42 o.arr := by rw [hW0, hbo]; exact Blk.new _ _ _
  have h0 : RS W0 B r xo xi xl outer ins objs := by rw [hW0]; exact h.alloc _
  have hbw : Below w.heap.size w W0 := by rw [hW0]; exact (Below.refl _ _).alloc (Nat.le_refl _) _
  have hsc := ref_has h0 a
  have hhe := ref_here h0 hl hn a o.name
  unfold putNo at hno
  simp only [Bool.or_eq_false_iff, Bool.not_eq_false', decide_eq_true_eq, decide_eq_false_iff_not] at hno
  rw [hno.1.1] at hsc
  rw [hlk] at hhe
  simp only [lkI, Option.getD_some] at hhe
  have hi1 := (hl.some_ _ _ _ hlk).1
  have s4 : decide (o.k < 1) = false := decide_eq_false (by omega)
  have s5 : decide (9 < o.k) = false := decide_eq_false (by omega)
  have hb1 : o.name.toList.isEmpty = false := str_some hno.2
  have t1 : decide ((i : Int) = 0) = false := decide_eq_false (by omega)
  have t2 : ((i : Int) == 0) = false := t1
  have t3 : ((i : Int) != 0) = true := by unfold bne; rw [t2]; rfl
  have o0 := hb0.cell 0
  have o1 := hb0.cell 1
  simp at o0 o1
  have HSC := hide hsc
  have HHE := hide hhe
  have HBW := hide hbw
  have HWE := hide hW0
  have HBE := hide hbo
  clear h hsc hhe h0 hb0 hbw hno hW0 hbo hl hlk
  unfold ObjV.val
  go_enter Try.func50, Try.ntmps50
  go_wp2_with fail
  rw [← HWE.out]
  rw [← HBE.out]
  refine HSC.out.mono ?_
  rintro e w' ⟨rfl, rfl⟩
  go_wp2_with fail
  refine HHE.out.mono ?_
  rintro e w' ⟨rfl, rfl⟩
  go_wp2_with fail
  go_ret2
  exact ⟨rfl, HBW.out⟩

def RPutPost (w : World) (B r : Nat) (xo xi xl : Value) (outer ins : List Int) (objs : List ObjV) (a : Int) (o : ObjV) (e : Ending) (w' : World) : Prop :=
  e = .returned (.tuple #[.int .i64 (objs.length + 1), .int .i64 0]) ∧ ∃ xi' xl', RS w' B r xo xi' xl' outer (ins ++ [a]) (objs ++ [o]) ∧ Below B w w' ∧ Fr (fpR r xo xi xl) w w' ∧ Nw w (fpR r xo xi xl) (fpR r xo xi' xl')

set_option maxHeartbeats 2000000 in
theorem ref_put_ok (h : RS w B r xo xi xl outer ins objs) (hl : Link ins objs tbl) (hn : objs.length ≤ 1000) (a : Int) (o : ObjV) (hno : putNo outer.length a o = false) (hlk : look tbl (a, o.name) = none) :
    Calls Try.prog 50 #[.pointer (some ⟨r, 0, none⟩), .int .i64 a, o.val] w (RPutPost w B r xo xi xl outer ins objs a o) := by
  have hli := hl.len
  obtain ⟨W0, hW0⟩ : ∃ W : World, W = w.alloc (.cells o.arr 42) := ⟨_, rfl⟩
  obtain ⟨bo, hbo⟩ : ∃ n, n = w.heap.size := ⟨_, rfl⟩
  have hb0 : Blk W0 bo 42 o.arr := by rw [hW0, hbo]; exact Blk.new _ _ _
  have h0 : RS W0 B r xo xi xl outer ins objs := by rw [hW0]; exact h.alloc _
  have hbw : Below B w W0 := by rw [hW0]; exact (Below.refl _ _).alloc h.lt _
  have hf0 : ∀ L, Fr L w W0 := fun L => by rw [hW0]; exact (Fr.refl _ _).alloc _
  have hsc := ref_has h0 a
  have hhe := ref_here h0 hl (by omega) a o.name
  unfold putNo at hno
  simp only [Bool.or_eq_false_iff, Bool.not_eq_false', decide_eq_true_eq, decide_eq_false_iff_not] at hno
  rw [hno.1.1] at hsc
  rw [hlk] at hhe
  simp only [lkI, Option.getD_none] at hhe
  have s4 : decide (o.k < 1) = false := decide_eq_false (by omega)
  have s5 : decide (9 < o.k) = false := decide_eq_false (by omega)
  have hb1 : o.name.toList.isEmpty = false := str_some hno.2
  have o0 := hb0.cell 0
  have o1 := hb0.cell 1
  simp at o0 o1
  have HSC := hide hsc
  have HHE := hide hhe
  have HBW := hide hbw
  have HF0 := hide hf0
  have HWE := hide hW0
  have HBE := hide hbo
  have HH := hide h0
  have HB0 := hide hb0
  have HN := hide (And.intro hn hli)
  have hbn : (objs.length : Int) ≤ 1000 := by omega
  have hbn0 : (0 : Int) ≤ (objs.length : Int) := by omega
  clear h hsc hhe h0 hb0 hbw hno hW0 hbo hl hlk hf0 hli hn
  unfold ObjV.val
  go_enter Try.func50, Try.ntmps50
  go_wp2_with fail
  rw [← HWE.out]
  rw [← HBE.out]
  refine HSC.out.mono ?_
  rintro e w' ⟨rfl, rfl⟩
  go_wp2_with fail
  refine HHE.out.mono ?_
  rintro e w' ⟨rfl, rfl⟩
  have o2 := HB0.out.cell 2
  have o3 := HB0.out.cell 3
  have o4 := HB0.out.cell 4
  have o5 := HB0.out.cell 5
  have o6 := HB0.out.cell 6
  have o7 := HB0.out.cell 7
  have o8 := HB0.out.cell 8
  have o9 := HB0.out.cell 9
  have o10 := HB0.out.cell 10
  have o11 := HB0.out.cell 11
  have o12 := HB0.out.cell 12
  simp at o2 o3 o4 o5 o6 o7 o8 o9 o10 o11 o12
  obtain ⟨c0, c1, c2⟩ := HH.out.cells
  obtain ⟨A0, k0, rfl⟩ := own_form7 HH.out.ob
  go_wp2_with fail
  obtain ⟨i0, hi0, hz0, hz1, hz2⟩ := info_parts objInfo
  have hbl := HH.out.bl.lt
  have c2a : (W0.alloc (.cells o.arr 42)).cell? ⟨r, 2, none⟩ = some (.slice A0 (objs.length + 1) k0) := (World.cell?_alloc_lt W0 _ ⟨r, 2, none⟩ hbl).trans c2
  have RD : Reads (W0.alloc (.cells o.arr 42)) (W0.heap.size + 1) 13 (some ⟨W0.heap.size, 0, none⟩) 1 o.cells := by
    have h := reads_new7 W0 o.arr 42 13 1 rfl
    have e : (W0.alloc (.cells o.arr 42)).heap.size = W0.heap.size + 1 := by simp
    rw [e] at h
    exact h
  have OB := (HH.out.alloc (.cells o.arr 42)).ob
  have RD := hide RD
  have OB := hide OB
  go_region_law (first
    | (refine step_append_any _ rfl (.tmp 37) (.tmp 39) _ rfl B 42 i0 _ 13 120 Try.underlying31 hi0 hz0 hz1 hz2 rfl (by omega) (.slice A0 (objs.length + 1) k0) (objs.length + 1) ((zeroO :: objs).flatMap ObjV.cells) (by simp [Act.eval]) OB.out (W0.heap.size + 1) (some ⟨W0.heap.size, 0, none⟩) 1 1 o.cells (by simp [Act.eval]) RD.out (cellsO_one o) (by have := HN.out; simp only [maxLen]; omega) (by have := HN.out; omega) (by have := HH.out.lt; simp; omega) ?_
       intro v6 w6 hown6 hg6 hat6
       obtain ⟨A6, k6, rfl⟩ := own_form7 hown6
       have hbl6 := (HH.out.alloc (.cells o.arr 42)).drew.bl.grown hg6 (fun e => own_blk_ne (HH.out.alloc (.cells o.arr 42)).drew.ob (HH.out.alloc (.cells o.arr 42)).drew.bl (by decide) e.symm)
       have d2 : w6.cell? ⟨r, 2, none⟩ = some (.slice A0 (objs.length + 1) k0) := hbl6.cell 2
       have f2 := hbl6.frozen 2))
  go_ways
  all_goals
    have e1 := rs_pushL (o := o) (HH.out.alloc (.cells o.arr 42)).drew hg6 hown6
    have hfr7 : Fr (fpR r xo xi (.slice A0 (objs.length + 1) k0)) w (w6.setCell ⟨r, 2, none⟩ (.slice A6 (objs.length + 1 + 1) k6)) := ((((HF0.out _).alloc (.cells o.arr 42)).drew).grown hg6 (fun g hg => .inl (mem_fpR.2 (.inr (.inr (.inr hg)))))).setCell (.inl (mem_fpR.2 (.inl rfl))) _
    have hnw7 : Nw w (fpR r xo xi (.slice A0 (objs.length + 1) k0)) (fpR r xo xi (.slice A6 (objs.length + 1 + 1) k6)) :=
      nw_R (v0 := .slice A0 (objs.length + 1) k0) (fun k hk => by rcases mem_fpR.1 hk with x | x | x | x; exact .inl (mem_fpR.2 (.inl x)); exact .inl (mem_fpR.2 (.inr (.inl x))); exact .inl (mem_fpR.2 (.inr (.inr (.inl x)))); exact .inr x) hat6 (fun k hk => mem_fpR.2 (.inr (.inr (.inr hk)))) (by have := (HF0.out []).1; simp; omega)
    have hb7 : Below B w (w6.setCell ⟨r, 2, none⟩ (.slice A6 (objs.length + 1 + 1) k6)) := (((HBW.out.alloc (Nat.le_trans HH.out.lt (Nat.le_refl _)) (.cells o.arr 42)).drew).grown hg6 (by have := HH.out.lt; simp; omega) (fun k hk => (OB.out.lt k hk).1)).setCell (p := ⟨r, 2, none⟩) HH.out.rB _
    obtain ⟨W7, hW7⟩ : ∃ W : World, W = w6.setCell ⟨r, 2, none⟩ (.slice A6 (objs.length + 1 + 1) k6) := ⟨_, rfl⟩
    rw [← hW7] at e1 hfr7 hb7 ⊢
    have H7 := hide e1
    have HFR7 := hide hfr7
    have HNW7 := hide hnw7
    have HB7 := hide hb7
    clear hW7 e1 hfr7 hnw7 hb7 hg6 hown6 hbl6 d2 f2 hat6 c2a c0 c1 c2 o0 o1 o2 o3 o4 o5 o6 o7 o8 o9 o10 o11 o12 OB RD hb1 HSC HHE hi0 hz0 hz1 hz2 s4 s5
    obtain ⟨d0, d1, d2⟩ := H7.out.cells
    obtain ⟨A8, k8, rfl⟩ := own_form7 H7.out.is
    obtain ⟨j0, hj0, hy0, hy1, hy2⟩ := info_parts intInfo7
    have hlt7 := H7.out.bl.lt
    have d1a : (W7.alloc (.cells #[.int .i64 a] 3)).cell? ⟨r, 1, none⟩ = some (.slice A8 (ins.length + 1) k8) := (World.cell?_alloc_lt W7 _ ⟨r, 1, none⟩ hlt7).trans d1
    go_wp2_with (first
      | (at_builtin
         refine wpList_append_any _ rfl (.tmp 47) (.tmp 49) _ rfl B 3 j0 _ 1 8 Try.underlying30 hj0 hy0 hy1 hy2 rfl (by omega) (.slice A8 (ins.length + 1) k8) (ins.length + 1) ((0 :: ins).map (Value.int .i64)) rfl
           (H7.out.alloc _).is (W7.heap.size + 1) (some ⟨W7.heap.size, 0, none⟩) 1 1 [.int .i64 a] rfl (by have h := reads_new7 W7 #[.int .i64 a] 3 1 1 rfl; simpa using h) (by intro u hu; simp at hu; subst hu; rfl) (by have := HN.out; simp only [maxLen]; omega) (by have := HN.out; omega) (by have := H7.out.lt; simp; omega) ?_
         intro v1 w1 hown1 hg1 hat1
         obtain ⟨A1, k1, rfl⟩ := own_form7 hown1
         have hbl1 := (H7.out.alloc (.cells #[.int .i64 a] 3)).bl.grown hg1 (fun e => own_blk_ne (H7.out.alloc (.cells #[.int .i64 a] 3)).is (H7.out.alloc (.cells #[.int .i64 a] 3)).bl (by decide) e.symm)
         have g1 : w1.cell? ⟨r, 1, none⟩ = some (.slice A8 (ins.length + 1) k8) := hbl1.cell 1
         have g2 : w1.cell? ⟨r, 2, none⟩ = some (.slice A6 (objs.length + 1 + 1) k6) := by have h := hbl1.cell 2; simpa using h
         have g0 := hbl1.frozen 1))
    go_ret2
    have e9 := rs_pushI (H7.out.alloc (.cells #[.int .i64 a] 3)) hg1 hown1 hat1
    refine ⟨by simp, _, _, e9, (((HB7.out.alloc (Nat.le_trans H7.out.lt (Nat.le_refl _)) (.cells #[.int .i64 a] 3))).grown hg1 (by have := H7.out.lt; simp; omega) (fun k hk => ((H7.out.alloc (.cells #[.int .i64 a] 3)).is.lt k hk).1)).setCell (p := ⟨r, 1, none⟩) HH.out.rB _,
      ((HFR7.out.alloc (.cells #[.int .i64 a] 3)).grown hg1 (fun g hg => .inl (mem_fpR.2 (.inr (.inr (.inl hg)))))).setCell (.inl (mem_fpR.2 (.inl rfl))) _, ?_⟩
    exact HNW7.out.trans HFR7.out.1 (nw_R (v0 := .slice A8 (ins.length + 1) k8) (fun k hk => by rcases mem_fpR.1 hk with x | x | x | x; exact .inl (mem_fpR.2 (.inl x)); exact .inl (mem_fpR.2 (.inr (.inl x))); exact .inr x; exact .inl (mem_fpR.2 (.inr (.inr (.inr x))))) hat1 (fun k hk => mem_fpR.2 (.inr (.inr (.inl hk)))) (by simp))
end
end Go.Proofs.Ytllddgfmjmblmaa
