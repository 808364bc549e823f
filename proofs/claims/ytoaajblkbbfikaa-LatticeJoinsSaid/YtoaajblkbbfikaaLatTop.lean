/- What lattice.Top answers of two variables of a set. -/
import Derived.Test.YtoaajblkbbfikaaLatSame
import Derived.Deep.WholeRow
namespace Go.Proofs.Ytoaajblkbbfikaa
open Go.RowKit Go.WideShapes Go.ChangeShapes
set_option linter.unusedVariables false
set_option maxRecDepth 100000

set_option maxHeartbeats 1000000 in
theorem mul64_two (w : World) :
    Calls Try.prog 85 #[.int .u64 1, .int .u64 2] w fun e w' => e = .returned (.tuple #[.int .u64 0, .int .u64 2]) ∧ w = w' := by
  go_enter Try.func85, Try.ntmps85
  go_wp2_with fail
  all_goals (refine bodyPost_ret (results_tmp2 rfl _ _ _) rfl ?_)
  all_goals exact ⟨rfl, rfl⟩

set_option maxHeartbeats 1000000 in
theorem mul_two (w : World) :
    Calls Try.prog 83 #[.int .u64 1, .int .u64 2] w fun e w' => e = .returned (.tuple #[.int .u64 0, .int .u64 2]) ∧ w = w' := by
  go_enter Try.func83, Try.ntmps83
  go_wp2_with fail
  refine (mul64_two w).mono ?_
  rintro e w' ⟨rfl, rfl⟩
  go_wp2_with fail
  all_goals (refine bodyPost_ret (results_tmp2 rfl _ _ _) rfl ?_)
  all_goals exact ⟨rfl, rfl⟩

set_option maxHeartbeats 1000000 in
theorem repeat_two (b : Nat) (w : World) (hb : Blk w b 3 #[.int .i64 1]) :
    Calls Try.prog 81 #[.slice (some ⟨b, 0, none⟩) 1 1, .int .i64 2] w (fun e w' => e = .returned (.slice (some ⟨w.heap.size, 0, none⟩) 2 2) ∧ ∃ q, w' = (w.alloc (.cells #[.int .i64 1, .int .i64 1] 3)).drewN q) := by
  obtain ⟨i0, hi0, hz0, hz1, hz2⟩ := info_parts intInfo_
  have hmk : ∀ W : World, (Instr.makeSlice 30 (.int .i64 2) (.int .i64 2)).run Try.prog W = .ok (.slice (some ⟨W.heap.size, 0, none⟩) 2 2) (W.alloc (.cells #[.int .i64 0, .int .i64 0] 3)) := fun W => by
    have h := run_make_rowN (P := Try.prog) 30 3 i0 _ Try.underlying30 hi0 hz0 .i64 .i64 2 2 (Nat.le_refl _) (by rw [hz2]; omega) (by omega) W
    rw [hz1] at h
    have e1 : madeCells (Value.int .i64 0).cells (2 * 1) = #[.int .i64 0, .int .i64 0] := by kernel_rfl
    rw [e1] at h
    exact h
  have c0 := hb.cell 0
  simp at c0
  have hg : ∀ cs : Array Value, (w.alloc (.cells cs 3)).heap[w.heap.size]? = some (.cells cs 3 (0, 0)) := fun cs => Blk.new w 3 cs
  have hone : ∀ u ∈ ([.int .i64 1] : List Value), u.oneCell' = true := by intro u hu; simp at hu; subst hu; rfl
  have k1 : (Builtin.copy_ #[30, 30] 3 #[.slice (some ⟨w.heap.size, 0, none⟩) 2 2, .slice (some ⟨b, 0, none⟩) 1 1]).run Try.prog (w.alloc (.cells #[.int .i64 0, .int .i64 0] 3)) = .ok (.int .i64 1) (w.alloc (.cells #[.int .i64 1, .int .i64 0] 3)) := by
    rw [run_copy_wide 30 30 3 3 i0 Try.underlying30 hi0 w.heap.size 0 2 2 _ (hg _) ⟨b, 0, none⟩ 1 1 [.int .i64 1] (by rw [hz1]; rfl) (fun j u hu => by
      have e : (⟨b, 0, none⟩ : Addr).add j = ⟨b, j, none⟩ := by unfold Addr.add; split <;> simp_all
      rw [e, (hb.alloc _).cell j]
      simpa using hu) hone (by omega) (by simp), World.setRow_alloc_new]
    rfl
  have k2 : (Builtin.copy_ #[30, 30] 3 #[.slice (some ⟨w.heap.size, 1, none⟩) 1 1, .slice (some ⟨w.heap.size, 0, none⟩) 1 2]).run Try.prog (w.alloc (.cells #[.int .i64 1, .int .i64 0] 3)) = .ok (.int .i64 1) (w.alloc (.cells #[.int .i64 1, .int .i64 1] 3)) := by
    rw [run_copy_wide 30 30 3 3 i0 Try.underlying30 hi0 w.heap.size 1 1 1 _ (hg _) ⟨w.heap.size, 0, none⟩ 1 2 [.int .i64 1] (by rw [hz1]; rfl) (fun j u hu => by
      have e : (⟨w.heap.size, 0, none⟩ : Addr).add j = ⟨w.heap.size, j, none⟩ := by unfold Addr.add; split <;> simp_all
      rw [e, Blk.cell (hg _) j]
      cases j with
      | zero => simpa using hu
      | succ j => simp at hu) hone (by omega) (by simp), World.setRow_alloc_new]
    rfl
  have k2d : (Builtin.copy_ #[30, 30] 3 #[.slice (some ⟨w.heap.size, 1, none⟩) 1 1, .slice (some ⟨w.heap.size, 0, none⟩) 1 2]).run Try.prog (w.alloc (.cells #[.int .i64 1, .int .i64 0] 3)).drew = .ok (.int .i64 1) (w.alloc (.cells #[.int .i64 1, .int .i64 1] 3)).drew := by
    rw [run_copy_wide 30 30 3 3 i0 Try.underlying30 hi0 w.heap.size 1 1 1 _ (show ((w.alloc (.cells #[.int .i64 1, .int .i64 0] 3)).drew).heap[w.heap.size]? = _ from hg _) ⟨w.heap.size, 0, none⟩ 1 2 [.int .i64 1] (by rw [hz1]; rfl) (fun j u hu => by
      have e : (⟨w.heap.size, 0, none⟩ : Addr).add j = ⟨w.heap.size, j, none⟩ := by unfold Addr.add; split <;> simp_all
      rw [e, Blk.cell (w := (w.alloc (.cells #[.int .i64 1, .int .i64 0] 3)).drew) (hg _) j]
      cases j with
      | zero => simpa using hu
      | succ j => simp at hu) hone (by omega) (by simp)]
    show Result.ok _ ((((w.alloc (.cells #[.int .i64 1, .int .i64 0] 3)).setRow w.heap.size _)).drew) = _
    rw [World.setRow_alloc_new]
    rfl
  have hb' := hide hb.lt
  clear hb hg
  go_enter Try.func81, Try.ntmps81
  go_wp2_with fail
  refine (mul_two w).mono ?_
  rintro e w' ⟨rfl, rfl⟩
  go_wp2_with fail
  go_loopw [8] (fun i wr => (i = .int .i64 1 ∧ wr = w.alloc (.cells #[.int .i64 1, .int .i64 0] 3)) ∨ (i = .int .i64 2 ∧ ∃ q, wr = (w.alloc (.cells #[.int .i64 1, .int .i64 1] 3)).drewN q)) (fun i _ => 2 - (intOf i).toNat)
  case atStart => exact .inl ⟨rfl, rfl⟩
  case round =>
    rcases hrel with ⟨rfl, rfl⟩ | ⟨rfl, q, rfl⟩
    · go_wp2_with fail
      go_region_law (first
        | fail)
      go_ways
      all_goals
        simp [Act.put]
        go_wp2_with fail
        go_roundw
        case rel => first | exact .inr ⟨rfl, 0, rfl⟩ | exact .inr ⟨rfl, 1, rfl⟩ | exact .inr ⟨rfl, 2, rfl⟩
        case measure => first | decide | (simp [intOf] <;> decide)
    · go_wp2_with fail
      go_ret
      exact ⟨rfl, q, rfl⟩

set_option maxHeartbeats 1000000 in
theorem top_two (w : World) :
    Calls Try.prog 58 #[.int .i64 2, .int .i64 2] w (JoinPost w true [1, 1]) := by
  go_enter Try.func58, Try.ntmps58
  go_wp2_with fail
  have hbk : Blk ((w.alloc (.cells #[.bool false, .slice none 0 0] 103)).alloc (.cells #[.int .i64 1] 3)) w.heap.size 103 #[.bool false, .slice none 0 0] := (Blk.new w _ _).alloc _
  have hbi : Blk ((w.alloc (.cells #[.bool false, .slice none 0 0] 103)).alloc (.cells #[.int .i64 1] 3)) (w.heap.size + 1) 3 #[.int .i64 1] := by
    have h := Blk.new (w.alloc (.cells #[.bool false, .slice none 0 0] 103)) 3 #[.int .i64 1]
    simpa using h
  have hbw : Below w.heap.size w ((w.alloc (.cells #[.bool false, .slice none 0 0] 103)).alloc (.cells #[.int .i64 1] 3)) := ((Below.refl _ _).alloc (Nat.le_refl _) _).alloc (by simp) _
  obtain ⟨W2, hW2⟩ : ∃ W2 : World, W2 = ((w.alloc (.cells #[.bool false, .slice none 0 0] 103)).alloc (.cells #[.int .i64 1] 3)) := ⟨_, rfl⟩
  have hs2 : W2.heap.size = w.heap.size + 2 := by rw [hW2]; simp
  rw [← hW2] at hbk hbi hbw ⊢
  have HBK := hide hbk
  have HBW := hide hbw
  have HS2 := hide hs2
  clear hW2 hbk hbw hs2
  refine (repeat_two _ W2 hbi).mono ?_
  rintro e w' ⟨rfl, q, rfl⟩
  obtain ⟨W3, hW3⟩ : ∃ W3 : World, W3 = (W2.alloc (.cells #[.int .i64 1, .int .i64 1] 3)).drewN q := ⟨_, rfl⟩
  have hbk3 : Blk W3 w.heap.size 103 #[.bool false, .slice none 0 0] := by rw [hW3]; exact (HBK.out.alloc _).drewN q
  have hbw3 : Below w.heap.size w W3 := by rw [hW3]; exact below_drewN (HBW.out.alloc (by have := HS2.out; omega) _) q
  have hown : W3.ownsRow (w.heap.size + 1) 3 1 (.slice (some ⟨W2.heap.size, 0, none⟩) 2 2) 2 [.int .i64 1, .int .i64 1] := by
    have h := World.ownsRow_lit (base := w.heap.size + 1) (e := 3) (size := 1) W2 #[.int .i64 1, .int .i64 1] 2 (by have := HS2.out; omega) (by simp [maxLen]) rfl
    rw [hW3]
    exact h
  rw [← hW3]
  have r0 := hbk3.cell 0
  have r1 := hbk3.cell 1
  have f0 := hbk3.frozen 0
  have f1 := hbk3.frozen 1
  simp at r0 r1
  have HBK3 := hide hbk3
  have HBW3 := hide hbw3
  have HOWN := hide hown
  clear hW3 hbk3 hbw3 hown
  go_wp2_with fail
  have hne : Value.ownBlock (.slice (some ⟨W2.heap.size, 0, none⟩) 2 2) ≠ some w.heap.size := fun e => by have := (HOWN.out.lt _ e).1; omega
  refine ret_known rfl rfl rfl (cj := true) (by have h := (HBK3.out.set_ 0 (.bool true)).set_ 1 (.slice (some ⟨W2.heap.size, 0, none⟩) 2 2); simpa using h) ?_
  exact ⟨_, _, rfl, own_mono_ (ownsRow_setCell_other (a := ⟨w.heap.size, 1, none⟩) (ownsRow_setCell_other (a := ⟨w.heap.size, 0, none⟩) HOWN.out hne _) hne _) (by omega), (HBW3.out.setCell (p := ⟨w.heap.size, 0, none⟩) (Nat.le_refl _) _).setCell (p := ⟨w.heap.size, 1, none⟩) (Nat.le_refl _) _⟩

end Go.Proofs.Ytoaajblkbbfikaa
