/- What lattice.Same, Below, Bottom, Height answer, by contracts; Below by what Join answers. -/
import Derived.Test.YtoaajblkbbfikaaLatOne
import Derived.Deep.RegionLaw
namespace Go.Proofs.Ytoaajblkbbfikaa
open Go.RowKit Go.WideShapes Go.ChangeShapes
set_option linter.unusedVariables false
set_option maxRecDepth 100000

theorem RI.own {w : World} {B n c : Nat} {A : Option Addr} {xs : List Int} (hn : xs.length = n) (h : w.ownsRow B 3 1 (.slice A n c) n (xs.map (Value.int .i64))) : RI w w.heap.size A n xs := ⟨hn, Reads.of_own h⟩

set_option maxHeartbeats 1000000 in
theorem same_any (n m c d : Nat) (ca cb : Bool) (A A' : Option Addr) (xs ys : List Int) (w : World) (hx : RI w w.heap.size A n xs) (hy : RI w w.heap.size A' m ys) (hn : n ≤ 1000) (hm : m ≤ 1000) :
    Calls Try.prog 57 #[.agg #[.bool ca, .slice A n c], .agg #[.bool cb, .slice A' m d]] w (BoolBelow w (ca == cb && decide (xs = ys))) := by
  have hb2 : Below w.heap.size w ((w.alloc (.cells #[.bool ca, .slice A n c] 103)).alloc (.cells #[.bool cb, .slice A' m d] 103)) := ((Below.refl _ _).alloc (Nat.le_refl _) _).alloc (by simp) _
  have HE := hide (iequal_any _ _ n m c d A A' xs ys _ ((hx.alloc (Nat.le_refl _) (.cells #[.bool ca, .slice A n c] 103)).alloc (by simp) (.cells #[.bool cb, .slice A' m d] 103)) ((hy.alloc (Nat.le_refl _) (.cells #[.bool ca, .slice A n c] 103)).alloc (by simp) (.cells #[.bool cb, .slice A' m d] 103)) (by omega) (by omega))
  have HB2 := hide hb2
  clear hx hy hb2
  by_cases hc : ca = cb
  · subst hc
    go_enter Try.func57, Try.ntmps57
    go_wp2_with fail
    refine HE.out.mono ?_
    rintro e w' ⟨rfl, q, rfl⟩
    go_wp2_with fail
    all_goals go_ret
    all_goals exact ⟨ret_b (by simp), below_drewN HB2.out q⟩
  · have q1 : (ca == cb) = false := by simpa using hc
    have HQ := hide q1
    clear HE hc
    go_enter Try.func57, Try.ntmps57
    go_wp2_with fail
    all_goals go_ret
    all_goals exact ⟨ret_b (by rw [HQ.out]; rfl), HB2.out⟩

set_option maxHeartbeats 1000000 in
theorem below_any (tag : Int) (n m c d : Nat) (ca cb cj : Bool) (A A' : Option Addr) (ys zs : List Int) (w : World) (hy : RI w w.heap.size A' m ys) (hm : m ≤ 1000) (hz : zs.length ≤ 1000)
    (hJ : ∀ W : World, Below w.heap.size w W → Calls Try.prog 56 #[.int .i64 tag, .agg #[.bool ca, .slice A n c], .agg #[.bool cb, .slice A' m d]] W (JoinPost W cj zs)) :
    Calls Try.prog 59 #[.int .i64 tag, .agg #[.bool ca, .slice A n c], .agg #[.bool cb, .slice A' m d]] w (BoolBelow w (cj == cb && decide (zs = ys))) := by
  go_enter Try.func59, Try.ntmps59
  go_wp2_with fail
  obtain ⟨W2, hW2⟩ : ∃ W2 : World, W2 = ((w.alloc (.cells #[.bool ca, .slice A n c] 103)).alloc (.cells #[.bool cb, .slice A' m d] 103)) := ⟨_, rfl⟩
  rw [← hW2]
  have hs2 : W2.heap.size = w.heap.size + 1 + 1 := by rw [hW2]; simp
  have hba : Blk W2 w.heap.size 103 #[.bool ca, .slice A n c] := by rw [hW2]; exact (Blk.new w _ _).alloc _
  have hbb : Blk W2 (w.heap.size + 1) 103 #[.bool cb, .slice A' m d] := by
    rw [hW2]; have h := Blk.new (w.alloc (.cells #[.bool ca, .slice A n c] 103)) 103 #[.bool cb, .slice A' m d]
    simpa using h
  have hb2 : Below w.heap.size w W2 := by
    rw [hW2]; exact ((Below.refl _ _).alloc (Nat.le_refl _) _).alloc (by simp) _
  have a0 := hba.cell 0
  have a1 := hba.cell 1
  have b0 := hbb.cell 0
  have b1 := hbb.cell 1
  simp at a0 a1 b0 b1
  have HBB := hide hbb
  have HB2 := hide hb2
  have HY := hide hy
  have HS2 := hide hs2
  have HC := hide (hJ W2.drew hb2.drew)
  clear hW2 hs2 hba hbb hb2 hJ hy
  go_region_law (first
    | (go_simp
       go_at_call 56
       refine HC.out.mono ?_
       rintro e w' ⟨A1, c1, rfl, hown, hbl⟩
       have hbl2 : Below W2.heap.size W2 w' := ⟨hbl.os, hbl.tape, hbl.output, hbl.size, hbl.block⟩
       have hbx : Below w.heap.size w w' := HB2.out.trans (hbl2.mono (by have := HS2.out; omega))
       have b0' := (HBB.out.below hbl2 (by have := HS2.out; omega)).cell 0
       have b1' := (HBB.out.below hbl2 (by have := HS2.out; omega)).cell 1
       simp at b0' b1'
       have HE := hide (same_any zs.length m c1 d cj cb A1 A' zs ys w' (RI.own rfl hown) ((HY.out.below hbx).more hbx.size) hz hm)
       have HBX := hide hbx
       clear hown hbl hbl2 hbx)
    | (go_simp
       go_at_call 57
       refine HE.out.mono ?_
       rintro e w'' ⟨rfl, hbl⟩
       have HBL := hide hbl
       clear hbl))
  go_ways
  all_goals go_wp2_with fail
  all_goals go_ret
  all_goals exact ⟨rfl, HBX.out.trans (HBL.out.mono HBX.out.size)⟩

set_option maxHeartbeats 1000000 in
theorem bottom_any (n : Int) (w : World) :
    Calls Try.prog 60 #[.int .i64 n] w fun e w' => e = .returned (.agg #[.bool false, .slice none 0 0]) ∧ Below w.heap.size w w' := by
  have HB := hide ((Below.refl w.heap.size w).alloc (Nat.le_refl _) (.cells #[.bool false, .slice none 0 0] 103))
  go_enter Try.func60, Try.ntmps60
  go_wp2_with fail
  exact ret_known rfl rfl rfl (Blk.new _ _ _) ⟨rfl, HB.out⟩

set_option maxHeartbeats 1000000 in
theorem height_flat (n : Int) (h0 : 0 ≤ n) (h1 : n ≤ 1000) (w : World) :
    Calls Try.prog 61 #[.int .i64 1, .int .i64 n] w fun e w' => e = .returned (.int .i64 (1 + 2 * n)) ∧ w = w' := by
  go_enter Try.func61, Try.ntmps61
  go_wp2_with fail
  all_goals go_ret
  all_goals exact ⟨rfl, rfl⟩

set_option maxHeartbeats 1000000 in
theorem height_set (n : Int) (h0 : 0 ≤ n) (h1 : n ≤ 1000) (w : World) :
    Calls Try.prog 61 #[.int .i64 2, .int .i64 n] w fun e w' => e = .returned (.int .i64 (1 + n)) ∧ w = w' := by
  go_enter Try.func61, Try.ntmps61
  go_wp2_with fail
  all_goals go_ret
  all_goals exact ⟨rfl, rfl⟩

end Go.Proofs.Ytoaajblkbbfikaa
