/- Registers and statements more (Reg, Add); conditions: the builder is in memory, and there aren't too many. -/
import Derived.Test.YtfdjomkkagommaaCoT
import Derived.StillTailTactics
namespace Go.Proofs.Ytfdjomkkagommaa
open Go.RowKit Go.WideShapes Go.ChangeShapes
set_option linter.unusedVariables false
set_option linter.unusedSimpArgs false
set_option maxRecDepth 100000

set_option maxHeartbeats 2000000 in
theorem reg_any (B g : Nat) (b : Bd) (x : Int) (w : World) (h : BT w B g b) (hr : 0 ≤ b.regs ∧ b.regs ≤ 1000000000000) (hx : x ≤ 1000000000000) : Calls Try.prog 8 #[.pointer (some ⟨g, 0, none⟩), .int .i64 x] w (BOut B g w (iI b.regs) { b with regs := b.regs + max x 0 }) := by
  obtain ⟨r, hr0⟩ : ∃ r, r = b.regs := ⟨_, rfl⟩
  rw [← hr0] at hr ⊢
  have z4 : w.cell? ⟨g, 4, none⟩ = some (.int .i64 r) := by rw [hr0]; exact h.bl.cell 4
  have f4 := h.bl.frozen 4
  obtain ⟨M, hM⟩ : ∃ M : Int, M = 9223372036854775807 - r := ⟨_, rfl⟩
  have q1 : IntKind.i64.wrap (9223372036854775807 - r) = M := by rw [hM]; exact IntWalk.i64_in _ (by omega)
  have HE := hide (show wrap64 (r + min (max x 0) M) = r + max x 0 by unfold wrap64; omega)
  have HT := hide (show BT (w.setCell ⟨g, 4, none⟩ (.int .i64 (r + max x 0))).drew B g { b with regs := r + max x 0 } from ⟨(h.bl.set_ 4 _).drew, ((h.br.setCell (h.br.off_blk h.bl) _).same b.put (r + max x 0) b.stmt b.ends).drew_, h.gB⟩)
  have HB := hide (show Below B w (w.setCell ⟨g, 4, none⟩ (.int .i64 (r + max x 0))).drew from ((Below.refl _ _).setCell (p := ⟨g, 4, none⟩) h.gB _).drew)
  clear h hr0 hM hr hx
  go_enter Try.func8, Try.ntmps8
  go_upto_region 2 with (fail)
  go_still_tail 15, (by kernel_rfl)
  go_wp2_with fail
  go_ret
  rw [HE.out]
  exact ⟨rfl, HT.out, HB.out.size, HB.out⟩
theorem st_size : (Try.prog.info? 32).map (·.size) = some 4 := by kernel_rfl
def Sm.val (s : Sm) : Value := .agg #[iI s.n, iI s.f, iI s.l, iI s.c]
set_option maxHeartbeats 4000000 in
theorem add_any (B g : Nat) (b : Bd) (s : Sm) (w : World) (h : BT w B g b) (hn : b.stmts.length ≤ 100000) : Calls Try.prog 10 #[.pointer (some ⟨g, 0, none⟩), s.val] w fun e w' => ∃ sv, BOut B g w (iI (b.stmts.length : Int)) { b with stmts := b.stmts ++ [s], sv := sv } e w' := by
  obtain ⟨i0, hi0, hz0, hz1, hz2⟩ := info_parts stInfo
  obtain ⟨a, ha⟩ : ∃ a, a = w.heap.size := ⟨_, rfl⟩
  obtain ⟨W1, hW1⟩ : ∃ W1, W1 = w.alloc (.cells #[iI s.n, iI s.f, iI s.l, iI s.c] 32) := ⟨_, rfl⟩
  have hb1 : Below w.heap.size w W1 := by rw [hW1]; exact (Below.refl _ _).alloc (Nat.le_refl _) _
  have hba : Blk W1 a 32 #[iI s.n, iI s.f, iI s.l, iI s.c] := by rw [hW1, ha]; exact Blk.new _ _ _
  have hT1 := h.below hb1
  have hBw : B ≤ w.heap.size := by have := h.bl.lt; have := h.gB; omega
  obtain ⟨As, cs, hsv⟩ := own_formT h.br.sm
  obtain ⟨n, hn0⟩ : ∃ n, n = b.stmts.length := ⟨_, rfl⟩
  rw [← hn0] at hsv
  have u6 : W1.cell? ⟨g, 6, none⟩ = some (.slice As n cs) := by rw [← hsv]; exact hT1.bl.cell 6
  have hrow : W1.ownsRow B 32 4 (.slice As n cs) n (b.stmts.flatMap Sm.enc) := by rw [← hsv, hn0]; exact hT1.br.sm
  have hS0 : W1.cell? ⟨g, 6, none⟩ = some (.slice As n cs) ∧ Blk W1 a 32 #[iI s.n, iI s.f, iI s.l, iI s.c] := ⟨u6, hba⟩
  have HROW := hide hrow
  have HT1 := hide hT1
  have HOF := hide (h.br.off_new (k := a) (by omega)).os
  have HN := hide (And.intro hn0 (And.intro hn (And.intro hsv hBw)))
  have HB1 := hide (hb1.mono hBw)
  have HX := hide (show g < W1.heap.size ∧ a < W1.heap.size ∧ B ≤ W1.heap.size from ⟨hT1.bl.lt, hba.lt, Nat.le_trans hBw hb1.size⟩)
  have HW1 := hide hW1
  have HA := hide ha
  clear h hn hn0 hsv hb1 hba hT1 hrow hBw hW1 ha u6
  go_enter Try.func10, Try.ntmps10
  go_upto_region 1 with (fail)
  unfold Sm.val
  rw [← HW1.out, ← HA.out]
  go_wp2_with fail
  refine wp_region_tail 10 (fun w' => w'.cell? ⟨g, 6, none⟩ = some (.slice As n cs) ∧ Blk w' a 32 #[iI s.n, iI s.f, iI s.l, iI s.c]) (by kernel_rfl) hS0 (fun hHeld => ?_)
  try simp only [Act.put, List.setIfInBounds_toArray, List.set_cons_zero, List.set_cons_succ]
  refine' wpTail_take (i := 0) (oi := _) ?hi5001 ?hs5001 ?hf5001 ?hr5001 ?hz5001 ?hQ5001 (v := _) (Or.inl ⟨?hw5001, ?hy5001⟩) (by assumption) ?_
  case hi5001 => (simp only [List.getElem?_toArray, List.getElem?_cons_zero]; exact rfl)
  case hs5001 => kernel_rfl
  case hf5001 => kernel_rfl
  case hr5001 => kernel_rfl
  case hz5001 => kernel_rfl
  case hQ5001 => exact fun _ _ _ h => h
  case hw5001 => rfl
  case hy5001 => (intro W0 hSw; (try dsimp only at hSw); go_simp; (try with_reducible rfl))
  try simp only [Act.put, List.setIfInBounds_toArray, List.set_cons_zero, List.set_cons_succ]
  refine' wpTail_take (i := 1) (oi := _) ?hi5002 ?hs5002 ?hf5002 ?hr5002 ?hz5002 ?hQ5002 (v := _) (Or.inl ⟨?hw5002, ?hy5002⟩) (by assumption) ?_
  case hi5002 => (simp only [List.getElem?_toArray, List.getElem?_cons_succ, List.getElem?_cons_zero]; exact rfl)
  case hs5002 => kernel_rfl
  case hf5002 => kernel_rfl
  case hr5002 => kernel_rfl
  case hz5002 => kernel_rfl
  case hQ5002 => exact fun _ _ _ h => h
  case hw5002 => rfl
  case hy5002 => (intro W0 hSw; (try dsimp only at hSw); go_simp; (try with_reducible rfl))
  try simp only [Act.put, List.setIfInBounds_toArray, List.set_cons_zero, List.set_cons_succ]
  refine' wpTail_take (i := 2) (oi := _) ?hi5003 ?hs5003 ?hf5003 ?hr5003 ?hz5003 ?hQ5003 (v := _) (Or.inl ⟨?hw5003, ?hy5003⟩) (by assumption) ?_
  case hi5003 => (simp only [List.getElem?_toArray, List.getElem?_cons_succ, List.getElem?_cons_zero]; exact rfl)
  case hs5003 => kernel_rfl
  case hf5003 => kernel_rfl
  case hr5003 => kernel_rfl
  case hz5003 => kernel_rfl
  case hQ5003 => exact fun _ _ _ h => h
  case hw5003 => rfl
  case hy5003 => (intro W0 hSw; (try dsimp only at hSw); go_simp; (try with_reducible rfl))
  try simp only [Act.put, List.setIfInBounds_toArray, List.set_cons_zero, List.set_cons_succ]
  refine' wpTail_take (i := 3) (oi := _) ?hi5004 ?hs5004 ?hf5004 ?hr5004 ?hz5004 ?hQ5004 (v := _) (Or.inl ⟨?hw5004, ?hy5004⟩) (by assumption) ?_
  case hi5004 => (simp only [List.getElem?_toArray, List.getElem?_cons_succ, List.getElem?_cons_zero]; exact rfl)
  case hs5004 => kernel_rfl
  case hf5004 => kernel_rfl
  case hr5004 => kernel_rfl
  case hz5004 => kernel_rfl
  case hQ5004 => exact fun _ _ _ h => h
  case hw5004 => rfl
  case hy5004 => (intro W0 hSw; (try dsimp only at hSw); go_simp; (try with_reducible rfl))
  try simp only [Act.put, List.setIfInBounds_toArray, List.set_cons_zero, List.set_cons_succ]
  refine' wpTail_take (i := 4) (oi := _) ?hi5005 ?hs5005 ?hf5005 ?hr5005 ?hz5005 ?hQ5005 (v := _) (Or.inl ⟨?hw5005, ?hy5005⟩) (by assumption) ?_
  case hi5005 => (simp only [List.getElem?_toArray, List.getElem?_cons_succ, List.getElem?_cons_zero]; exact rfl)
  case hs5005 => kernel_rfl
  case hf5005 => kernel_rfl
  case hr5005 => kernel_rfl
  case hz5005 => kernel_rfl
  case hQ5005 => exact fun _ _ _ h => h
  case hw5005 => rfl
  case hy5005 => (intro W0 hSw; (try dsimp only at hSw); have u0 : W0.cell? ⟨g, 6, none⟩ = some (.slice As n cs) := hSw.1; go_simp; (try with_reducible rfl))
  try simp only [Act.put, List.setIfInBounds_toArray, List.set_cons_zero, List.set_cons_succ]
  refine' wpTail_take (i := 5) (oi := _) ?hi5006 ?hs5006 ?hf5006 ?hr5006 ?hz5006 ?hQ5006 (v := Value.agg #[iI s.n, iI s.f, iI s.l, iI s.c]) ?hy5006 (by assumption) ?_
  case hi5006 => (simp only [List.getElem?_toArray, List.getElem?_cons_succ, List.getElem?_cons_zero]; exact rfl)
  case hs5006 => kernel_rfl
  case hf5006 => kernel_rfl
  case hr5006 => kernel_rfl
  case hz5006 => kernel_rfl
  case hQ5006 => exact fun _ _ _ h => h
  case hy5006 => (exact yieldsIf_load_mid rfl 32 (.tmp 3) rfl a 0 rfl #[iI s.n, iI s.f, iI s.l, iI s.c].toList _ (fun W0 hSw j v hv => by rw [Nat.zero_add, Blk.cell hSw.2]; simpa using hv) Try.underlying32 rfl st_size)
  try simp only [Act.put, List.setIfInBounds_toArray, List.set_cons_zero, List.set_cons_succ]
  refine' wpTail_one (i := 6) (o := _) (by kernel_rfl) ?ho5007 ?hw5007 (fun K hK => ?_)
  case ho5007 => (simp only [List.getElem?_toArray, List.getElem?_cons_succ, List.getElem?_cons_zero]; exact rfl)
  case hw5007 => rfl
  refine wp_buildSlice 44 32 1 #[(0, .tmp 10)] rfl #[iI s.n, iI s.f, iI s.l, iI s.c] i0 _ Try.underlying44 hi0 hz0 (by rw [hz1]; omega) (by rw [hz1]; omega) (by rw [hz1]; kernel_rfl) ?_
  obtain ⟨W9, hW9⟩ : ∃ W9, W9 = W1.drew.alloc (.cells #[iI s.n, iI s.f, iI s.l, iI s.c] 32) := ⟨_, rfl⟩
  have hb9 : Below W1.heap.size W1 W9 := by rw [hW9]; exact (Below.refl W1.heap.size W1).drew.alloc (Nat.le_refl _) _
  have hbn : Blk W9 W1.heap.size 32 #[iI s.n, iI s.f, iI s.l, iI s.c] := by rw [hW9]; exact Blk.new W1.drew _ _
  have hz9 : W9.heap.size = W1.heap.size + 1 := by rw [hW9]; simp
  have hS9 : W9.cell? ⟨g, 6, none⟩ = some (.slice As n cs) ∧ Blk W9 a 32 #[iI s.n, iI s.f, iI s.l, iI s.c] := ⟨(hb9.cell (p := ⟨g, 6, none⟩) HX.out.1).trans hS0.1, hS0.2.below hb9 HX.out.2.1⟩
  rw [← hW9]
  refine hK.out _ _ (fun _ => hS9) ?_
  clear hK K
  try simp only [Act.put, List.setIfInBounds_toArray, List.set_cons_zero, List.set_cons_succ]
  refine' wpTail_one (i := 7) (o := _) (by kernel_rfl) ?ho5008 ?hw5008 (fun K hK => ?_)
  case ho5008 => (simp only [List.getElem?_toArray, List.getElem?_cons_succ, List.getElem?_cons_zero]; exact rfl)
  case hw5008 => rfl
  refine wp_append_any _ (.tmp 9) (.tmp 11) _ rfl B 32 i0 _ 4 32 Try.underlying44 hi0 hz0 hz1 hz2 rfl (by omega) (.slice As n cs) n _ rfl (own_belowT HROW.out hb9) (W1.heap.size + 1) (some ⟨W1.heap.size, 0, none⟩) 1 1 #[iI s.n, iI s.f, iI s.l, iI s.c].toList rfl ⟨rfl, fun _ => ⟨_, rfl, Nat.lt_succ_self _, fun q u hu => by rw [Addr.add_lit, Nat.zero_add, hbn.cell q]; simpa using hu⟩⟩ (fun u hu => by simp at hu; rcases hu with rfl | rfl | rfl | rfl <;> rfl) (by have := HN.out; simp only [maxLen]; omega) (by have := HN.out; omega) (by have := HX.out; have := hb9.size; omega) ?_
  intro v10 w10 hown10 hg10 hat10
  obtain ⟨A10, c10, rfl⟩ := own_formT hown10
  have hT9 := HT1.out.below hb9
  have hg10' : W9.grownBy w10 b.sv.ownBlock := by rw [HN.out.2.2.1]; exact hg10
  have hbl10 : Blk w10 g 63 b.arr := hT9.bl.grown hg10' (fun e => own_blk_ne hT9.br.sm hT9.bl (by decide) e.symm)
  have hR10 : BR w10 B { b with stmts := b.stmts ++ [s], sv := .slice A10 (n + 1) c10 } := hT9.br.stmts_ hg10' (by rw [List.length_append, ← HN.out.1, List.flatMap_append, List.flatMap_singleton]; exact hown10)
  have hS10 : w10.cell? ⟨g, 6, none⟩ = some (.slice As n cs) ∧ Blk w10 a 32 #[iI s.n, iI s.f, iI s.l, iI s.c] := ⟨by rw [← HN.out.2.2.1]; exact hbl10.cell 6, hS9.2.grown hg10' (fun e => HOF.out e.symm)⟩
  have hf10 := hbl10.frozen 6
  have HT10 := hide (show BT (w10.setCell ⟨g, 6, none⟩ (.slice A10 (n + 1) c10)) B g { b with stmts := b.stmts ++ [s], sv := .slice A10 (n + 1) c10 } from ⟨hbl10.set_ 6 _, hR10.setCell (hR10.off_blk hbl10) _, HT1.out.gB⟩)
  have HB10 := hide (show Below B w (w10.setCell ⟨g, 6, none⟩ (.slice A10 (n + 1) c10)) from ((HB1.out.trans (hb9.mono HX.out.2.2)).grown hg10' (Nat.le_trans HX.out.2.2 hb9.size) (fun k hk => (hT9.br.sm.lt k hk).1)).setCell (p := ⟨g, 6, none⟩) HT1.out.gB _)
  refine hK.out _ _ (fun _ => hS10) ?_
  clear hK K
  clear hR10 hbl10 hg10' hT9 hat10 hg10 hown10 hbn hb9 hz9 hW9 hS9
  try simp only [Act.put, List.setIfInBounds_toArray, List.set_cons_zero, List.set_cons_succ]
  refine' wpTail_one (i := 8) (o := _) (by kernel_rfl) ?ho5009 ?hw5009 (fun K hK => ?_)
  case ho5009 => (simp only [List.getElem?_toArray, List.getElem?_cons_succ, List.getElem?_cons_zero]; exact rfl)
  case hw5009 => rfl
  go_simp
  refine hK.out _ _ (fun _ => hS10) ?_
  clear hK K
  try simp only [Act.put, List.setIfInBounds_toArray, List.set_cons_zero, List.set_cons_succ]
  refine' wpTail_one (i := 9) (o := _) (by kernel_rfl) ?ho5010 ?hw5010 (fun K hK => ?_)
  case ho5010 => (simp only [List.getElem?_toArray, List.getElem?_cons_succ, List.getElem?_cons_zero]; exact rfl)
  case hw5010 => rfl
  go_simp
  refine hK.out _ _ (fun _ => hS10) ?_
  clear hK K
  have t10 := hS10.1
  have q2 : IntKind.i64.wrap ((n : Int) + 1 - 1) = (n : Int) := by rw [show (n : Int) + 1 - 1 = (n : Int) by omega]; exact IntWalk.i64_in _ (by have := HN.out; omega)
  try simp only [Act.put, List.setIfInBounds_toArray, List.set_cons_zero, List.set_cons_succ]
  refine' wpTail_one (i := 10) (o := _) (by kernel_rfl) ?ho5011 ?hw5011 (fun K hK => ?_)
  case ho5011 => (simp only [List.getElem?_toArray, List.getElem?_cons_succ, List.getElem?_cons_zero]; exact rfl)
  case hw5011 => rfl
  go_simp
  refine hK.out _ _ (fun h => absurd rfl h) ?_
  clear hK K
  refine wpTail_done (by kernel_rfl) ?_ _
  try simp only [Act.put, List.setIfInBounds_toArray, List.set_cons_zero, List.set_cons_succ]
  clear hHeld hS10
  go_wp2_with fail
  go_ret
  refine ⟨_, ?_, HT10.out, HB10.out.size, HB10.out⟩
  rw [← HN.out.1]
  have hw2 : wrap64 (n : Int) = (n : Int) := by have := HN.out.2.1; have := HN.out.1; unfold wrap64; omega
  show Ending.returned (.int .i64 (wrap64 (n : Int))) = _
  rw [hw2]
end Go.Proofs.Ytfdjomkkagommaa
