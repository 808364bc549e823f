/- Whether an instruction is more than is asked (great); conditions: it is in memory. -/
import Derived.Test.YtfdjomkkagommaaCoV
namespace Go.Proofs.Ytfdjomkkagommaa
open Go.RowKit Go.WideShapes Go.ChangeShapes
set_option linter.unusedVariables false
set_option linter.unusedSimpArgs false
set_option maxRecDepth 100000

def greatB (i : Ins) : Bool := decide (20 < i.args.length) || (decide (20 < i.arms.length) || (decide (100 < i.s.size) || (decide (100 < i.n) || (decide (100 < i.m) || i.arms.any (fun x => decide (100 < x.n))))))
set_option maxHeartbeats 4000000 in
theorem great_any (i : Ins) (av rv : Value) (w : World) (h : InsOk w i av rv) : Calls Try.prog 16 #[i.val av rv] w (BoolP w (greatB i)) := by
  obtain ⟨Aa, ca, rfl⟩ := h.ar.form
  obtain ⟨Ar, cr, rfl⟩ := h.rm.form
  obtain ⟨m, hm⟩ : ∃ m, m = i.arms.length := ⟨_, rfl⟩
  obtain ⟨ma, hma⟩ : ∃ ma, ma = i.args.length := ⟨_, rfl⟩
  rw [← hm, ← hma] at h ⊢
  obtain ⟨a, ha⟩ : ∃ a, a = w.heap.size := ⟨_, rfl⟩
  obtain ⟨W1, hW1⟩ : ∃ W1, W1 = w.alloc (.cells (i.arr (.slice Aa ma ca) (.slice Ar m cr)) 39) := ⟨_, rfl⟩
  have hb1 : Below w.heap.size w W1 := by rw [hW1]; exact (Below.refl _ _).alloc (Nat.le_refl _) _
  have hba : Blk W1 a 39 (i.arr (.slice Aa ma ca) (.slice Ar m cr)) := by rw [hW1, ha]; exact Blk.new _ _ _
  have z4 : W1.cell? ⟨a, 4, none⟩ = some (.int .i64 i.n) := hba.cell 4
  have z5 : W1.cell? ⟨a, 5, none⟩ = some (.int .i64 i.m) := hba.cell 5
  have z6 : W1.cell? ⟨a, 6, none⟩ = some (.string i.s) := hba.cell 6
  have z12 : W1.cell? ⟨a, 12, none⟩ = some (.slice Aa ma ca) := hba.cell 12
  have z15 : W1.cell? ⟨a, 15, none⟩ = some (.slice Ar m cr) := hba.cell 15
  have HOK := hide (h.rm.below hb1 (Nat.le_refl _))
  have HB1 := hide hb1
  have HW1 := hide hW1
  have HA := hide ha
  have HM := hide (And.intro hm hma)
  clear h hb1 hW1 ha hba
  by_cases c0 : (20 : Int) < (ma : Int)
  · have HF := hide (show greatB i = true by
      have hc : 20 < i.args.length := by omega
      unfold greatB
      rw [decide_eq_true hc]
      simp)
    clear hm hma
    go_enter Try.func16, Try.ntmps16
    go_upto_region 1 with (fail)
    rw [← HW1.out, ← HA.out]
    go_wp2_with fail
    go_ret
    exact ⟨ret_bS HF.out.symm, HB1.out⟩
  by_cases c1 : (20 : Int) < (m : Int)
  · have HF := hide (show greatB i = true by
      have hc : 20 < i.arms.length := by omega
      unfold greatB
      rw [decide_eq_true hc]
      simp)
    clear hm hma
    go_enter Try.func16, Try.ntmps16
    go_upto_region 1 with (fail)
    rw [← HW1.out, ← HA.out]
    go_wp2_with fail
    go_ret
    exact ⟨ret_bS HF.out.symm, HB1.out⟩
  by_cases c2 : (100 : Int) < (i.s.size : Int)
  · have HF := hide (show greatB i = true by
      have hc : 100 < i.s.size := by omega
      unfold greatB
      rw [decide_eq_true hc]
      simp)
    clear hm hma
    go_enter Try.func16, Try.ntmps16
    go_upto_region 1 with (fail)
    rw [← HW1.out, ← HA.out]
    go_wp2_with fail
    go_ret
    exact ⟨ret_bS HF.out.symm, HB1.out⟩
  by_cases c3 : 100 < i.n
  · have HF := hide (show greatB i = true by
      have hc : 100 < i.n := by omega
      unfold greatB
      rw [decide_eq_true hc]
      simp)
    clear hm hma
    go_enter Try.func16, Try.ntmps16
    go_upto_region 1 with (fail)
    rw [← HW1.out, ← HA.out]
    go_wp2_with fail
    go_ret
    exact ⟨ret_bS HF.out.symm, HB1.out⟩
  by_cases c4 : 100 < i.m
  · have HF := hide (show greatB i = true by
      have hc : 100 < i.m := by omega
      unfold greatB
      rw [decide_eq_true hc]
      simp)
    clear hm hma
    go_enter Try.func16, Try.ntmps16
    go_upto_region 1 with (fail)
    rw [← HW1.out, ← HA.out]
    go_wp2_with fail
    go_ret
    exact ⟨ret_bS HF.out.symm, HB1.out⟩
  have HF0 := hide (show greatB i = i.arms.any (fun x => decide (100 < x.n)) by
    unfold greatB
    rw [decide_eq_false (show ¬ 20 < i.args.length by omega), decide_eq_false (show ¬ 20 < i.arms.length by omega), decide_eq_false (show ¬ 100 < i.s.size by omega), decide_eq_false c3, decide_eq_false c4]
    rfl)
  clear hm hma
  go_enter Try.func16, Try.ntmps16
  go_upto_region 1 with (fail)
  rw [← HW1.out, ← HA.out]
  go_wp2_with fail
  go_loopw [3] (fun jj wr => ∃ j : Nat, j ≤ m ∧ jj = .int .i64 j ∧ Hid (∀ (q : Nat) (x : Arm), q < j → i.arms[q]? = some x → ¬ 100 < x.n) ∧ wr = W1) (fun jj _ => m - (intOf jj).toNat)
  case atStart => exact ⟨0, Nat.zero_le _, rfl, hide (fun q x hq => absurd hq (by omega)), rfl⟩
  case round =>
    obtain ⟨j, hj, rfl, HK, rfl⟩ := hrel
    by_cases hlt : j < m
    · have j1 : (j : Int) < (m : Int) := by omega
      have j2 : (0 : Int) ≤ (j : Int) := by omega
      have q5 : IntKind.i64.wrap ((j : Int) + 1) = (j : Int) + 1 := IntWalk.i64_in _ (by omega)
      obtain ⟨b, of, x, rfl, hbl, hx, x0, x1, x2, x3, x4, x5⟩ := ArmsAt.at_ HOK.out (i := j) (by have := HM.out; omega)
      have HX := hide hx
      clear hx x0 x1 x2 x4 x5 hbl
      by_cases hc : 100 < x.n
      · have HF := hide (show greatB i = true by
          rw [HF0.out, List.any_eq_true]
          exact ⟨x, List.mem_of_getElem? HX.out, decide_eq_true hc⟩)
        go_wp2_with fail
        go_ret
        exact ⟨ret_bS HF.out.symm, HB1.out⟩
      · have HC := hide hc
        go_wp2_with fail
        go_roundw
        case rel =>
          refine ⟨j + 1, by omega, by simp, hide fun q y hq hy => ?_, trivial⟩
          by_cases e : q = j
          · subst e; rw [HX.out] at hy; injection hy with hy; rw [← hy]; exact HC.out
          · exact HK.out q y (by omega) hy
        case measure => simp [intOf]; omega
    · have j1 : ¬ (j : Int) < (m : Int) := by omega
      have HF := hide (show greatB i = false by
        rw [HF0.out, List.any_eq_false]
        intro x hx
        obtain ⟨q, hq, he⟩ := List.mem_iff_getElem.1 hx
        have := HK.out q x (by have := HM.out; omega) (by rw [List.getElem?_eq_getElem hq, he])
        simpa using this)
      go_wp2_with fail
      go_ret
      exact ⟨ret_bS HF.out.symm, HB1.out⟩
end Go.Proofs.Ytfdjomkkagommaa
