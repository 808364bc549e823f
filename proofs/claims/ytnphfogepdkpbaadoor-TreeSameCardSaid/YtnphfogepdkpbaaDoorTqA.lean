/- Nodes that are alike (lorgnetteref03.Alike); conditions: their parts are in memory. -/
import Derived.Test.YtnphfogepdkpbaaDoorTrX
import Derived.BigQuiet
namespace Go.Proofs.YtnphfogepdkpbaaDoor
open Go.RowKit Go.WideShapes Go.ChangeShapes
set_option linter.unusedVariables false
set_option linter.unusedSimpArgs false
set_option maxRecDepth 100000

set_option maxHeartbeats 4000000 in
theorem alike_same (n : Nd) (kv kv' : Value) (w : World) (h : IntsAt w kv n.kids) (h' : IntsAt w kv' n.kids) (hn : n.kids.length ≤ 1000000) :
    Calls Tryd.prog 11 #[n.val kv, n.val kv'] w (BoolP w true) := by
  obtain ⟨a, ha⟩ : ∃ a, a = w.heap.size := ⟨_, rfl⟩
  obtain ⟨W1, hW1⟩ : ∃ W1, W1 = (w.alloc (.cells (n.arr kv) 34)).alloc (.cells (n.arr kv') 34) := ⟨_, rfl⟩
  have hb1 : Below w.heap.size w W1 := by rw [hW1]; exact ((Below.refl _ _).alloc (Nat.le_refl _) _).alloc (by simp) _
  have hba : Blk W1 a 34 (n.arr kv) := by rw [hW1, ha]; exact (Blk.new _ _ _).alloc _
  have hbb : Blk W1 (a + 1) 34 (n.arr kv') := by
    have h := Blk.new (w.alloc (.cells (n.arr kv) 34)) 34 (n.arr kv')
    rw [← hW1] at h
    rw [ha]
    simpa using h
  obtain ⟨Ak, ck, rfl⟩ := h.form
  obtain ⟨Al, cl, rfl⟩ := h'.form
  have h1 := h.below hb1 (Nat.le_refl _)
  have h1' := h'.below hb1 (Nat.le_refl _)
  obtain ⟨m, hm⟩ : ∃ m, m = n.kids.length := ⟨_, rfl⟩
  rw [← hm] at h1 h1' hba hbb hW1 ⊢
  have z0 : W1.cell? ⟨a, 0, none⟩ = some (.int .i64 n.kind) := hba.cell 0
  have z1 : W1.cell? ⟨a, 1, none⟩ = some (.int .i64 n.f) := hba.cell 1
  have z2 : W1.cell? ⟨a, 2, none⟩ = some (.int .i64 n.l) := hba.cell 2
  have z3 : W1.cell? ⟨a, 3, none⟩ = some (.int .i64 n.c) := hba.cell 3
  have z4 : W1.cell? ⟨a, 4, none⟩ = some (.string n.text) := hba.cell 4
  have z5 : W1.cell? ⟨a, 5, none⟩ = some (.slice Ak m ck) := hba.cell 5
  have x0 : W1.cell? ⟨a + 1, 0, none⟩ = some (.int .i64 n.kind) := hbb.cell 0
  have x1 : W1.cell? ⟨a + 1, 1, none⟩ = some (.int .i64 n.f) := hbb.cell 1
  have x2 : W1.cell? ⟨a + 1, 2, none⟩ = some (.int .i64 n.l) := hbb.cell 2
  have x3 : W1.cell? ⟨a + 1, 3, none⟩ = some (.int .i64 n.c) := hbb.cell 3
  have x4 : W1.cell? ⟨a + 1, 4, none⟩ = some (.string n.text) := hbb.cell 4
  have x5 : W1.cell? ⟨a + 1, 5, none⟩ = some (.slice Al m cl) := hbb.cell 5
  have HH := hide h1
  have HH' := hide h1'
  have HB1 := hide hb1
  have HW1 := hide hW1
  have HA := hide ha
  have HM := hide (And.intro hm hn)
  clear h h' h1 h1' hb1 hW1 ha hm hn hba hbb
  go_enter Tryd.func11, Tryd.ntmps11
  go_upto_region 1 with (fail)
  rw [← HA.out, ← HW1.out]
  go_wp2_with fail
  go_loopw [5] (fun i wr => ∃ k q : Nat, k ≤ m ∧ i = .int .i64 k ∧ wr = W1.drewN q) (fun i _ => m - (intOf i).toNat)
  case atStart => exact ⟨0, 0, by omega, rfl, rfl⟩
  case round =>
    obtain ⟨k, q, hk, rfl, rfl⟩ := hrel
    by_cases hlt : k < m
    · have j1 : (k : Int) < (m : Int) := by omega
      obtain ⟨b, off, x, rfl, _, hxx, cx⟩ := HH.out.at_ (k := k) (by have := HM.out.1; omega)
      obtain ⟨b', off', y, rfl, _, hyy, cy⟩ := HH'.out.at_ (k := k) (by have := HM.out.1; omega)
      rw [hxx] at hyy
      injection hyy with hyy
      subst hyy
      have q5 : IntKind.i64.wrap ((k : Int) + 1) = (k : Int) + 1 := IntWalk.i64_in _ (by have := HM.out; omega)
      clear hxx
      go_wp2_with fail
      go_quiet (fail)
      go_wp2_with fail
      go_roundw
      case rel => exact ⟨k + 1, _, by omega, by simp, by first | rfl | exact World.drewN_drewN _ _ _⟩
      case measure => simp [intOf]; omega
    · have hkm : k = m := by omega
      subst hkm
      go_wp2_with fail
      go_ret
      exact ⟨rfl, below_drewL HB1.out _⟩
end Go.Proofs.YtnphfogepdkpbaaDoor
