/- The builder's funcs again, with the blocks that they leave alone; conditions: as the ones that they repeat. -/
import Derived.Test.YtfdjomkkagommaaCoAd
import Derived.StillTailTactics
namespace Go.Proofs.Ytfdjomkkagommaa
open Go.RowKit Go.WideShapes Go.ChangeShapes
set_option linter.unusedVariables false
set_option linter.unusedSimpArgs false
set_option maxRecDepth 100000

/-- All but block g, and the block o, is as it was. -/
def Kp (g : Nat) (o : Option Nat) (w w' : World) : Prop := w.heap.size ≤ w'.heap.size ∧ ∀ k, k < w.heap.size → k ≠ g → o ≠ some k → w'.heap[k]? = w.heap[k]?
theorem Kp.of_below {g : Nat} {o : Option Nat} {w w' : World} (h : Below w.heap.size w w') : Kp g o w w' := ⟨h.size, fun k hk _ _ => h.block k hk⟩
theorem Kp.below {g : Nat} {o : Option Nat} {w w1 w2 : World} (h : Kp g o w w1) (hb : Below w1.heap.size w1 w2) : Kp g o w w2 :=
  ⟨Nat.le_trans h.1 hb.size, fun k hk hn ho => (hb.block k (Nat.lt_of_lt_of_le hk h.1)).trans (h.2 k hk hn ho)⟩
theorem Kp.set_ {g : Nat} {o : Option Nat} {w w1 : World} (h : Kp g o w w1) (i : Nat) (u : Value) : Kp g o w (w1.setCell ⟨g, i, none⟩ u) :=
  ⟨by simp; exact h.1, fun k hk hn ho => (Below.heap_setCell w1 ⟨g, i, none⟩ u k hn).trans (h.2 k hk hn ho)⟩
theorem Kp.setN {g a : Nat} {o : Option Nat} {w w1 : World} (h : Kp g o w w1) (ha : w.heap.size ≤ a) (i : Nat) (u : Value) : Kp g o w (w1.setCell ⟨a, i, none⟩ u) :=
  ⟨by simp; exact h.1, fun k hk hn ho => (Below.heap_setCell w1 ⟨a, i, none⟩ u k (by show k ≠ a; omega)).trans (h.2 k hk hn ho)⟩
theorem Kp.setO {g a : Nat} {w w1 : World} (h : Kp g (some a) w w1) (i : Nat) (u : Value) : Kp g (some a) w (w1.setCell ⟨a, i, none⟩ u) :=
  ⟨by simp; exact h.1, fun k hk hn ho => (Below.heap_setCell w1 ⟨a, i, none⟩ u k (fun e => ho (by rw [e]))).trans (h.2 k hk hn ho)⟩
theorem Kp.grown {g : Nat} {o : Option Nat} {w w1 w2 : World} (h : Kp g o w w1) (hg : w1.grownBy w2 o) : Kp g o w w2 :=
  ⟨Nat.le_trans h.1 hg.size, fun k hk hn ho => (hg.block k (Nat.lt_of_lt_of_le hk h.1) (fun e => ho e.symm)).trans (h.2 k hk hn ho)⟩
theorem Kp.grownN {g a : Nat} {o : Option Nat} {w w1 w2 : World} (h : Kp g o w w1) (ha : w.heap.size ≤ a) (hg : w1.grownBy w2 (some a)) : Kp g o w w2 :=
  ⟨Nat.le_trans h.1 hg.size, fun k hk hn ho => (hg.block k (Nat.lt_of_lt_of_le hk h.1) (fun e => by injection e with e; omega)).trans (h.2 k hk hn ho)⟩
theorem Kp.drew {g : Nat} {o : Option Nat} {w w1 : World} (h : Kp g o w w1) : Kp g o w w1.drew := h.below (Below.refl _ _).drew
theorem stmt_kp (B g : Nat) (b : Bd) (s : Int) (w : World) (h : BT w B g b) : Calls Try.prog 11 #[.pointer (some ⟨g, 0, none⟩), .int .i64 s] w fun e w' => BOut B g w (iI b.stmt) { b with stmt := s } e w' ∧ Kp g none w w' := by
  have z7 : w.cell? ⟨g, 7, none⟩ = some (iI b.stmt) := h.bl.cell 7
  have f7 := h.bl.frozen 7
  have HT := hide (show BT (w.setCell ⟨g, 7, none⟩ (.int .i64 s)) B g { b with stmt := s } from ⟨h.bl.set_ 7 _, (h.br.setCell (h.br.off_blk h.bl) _).same b.put b.regs s b.ends, h.gB⟩)
  have HB := hide (show Below B w (w.setCell ⟨g, 7, none⟩ (.int .i64 s)) from (Below.refl _ _).setCell (p := ⟨g, 7, none⟩) h.gB _)
  have HK := hide (show Kp g none w (w.setCell ⟨g, 7, none⟩ (.int .i64 s)) from (Kp.of_below (Below.refl _ _)).set_ 7 _)
  clear h
  go_enter Try.func11, Try.ntmps11
  go_wp2_with fail
  go_ret
  exact ⟨⟨rfl, HT.out, HB.out.size, HB.out⟩, HK.out⟩
set_option maxHeartbeats 2000000 in
theorem label_kp (B g : Nat) (b : Bd) (w : World) (h : BT w B g b) (hn : b.labels.length ≤ 100000) : Calls Try.prog 9 #[.pointer (some ⟨g, 0, none⟩)] w fun e w' => ∃ lv, BOut B g w (iI (b.labels.length : Int)) { b with labels := b.labels ++ [-1], lv := lv } e w' ∧ Kp g b.lv.ownBlock w w' ∧ (lv.ownBlock = b.lv.ownBlock ∨ lv.ownBlock = some (w.heap.size + 1)) := by
  obtain ⟨i0, hi0, hz0, hz1, hz2⟩ := info_parts intInfoT
  obtain ⟨Al, cl, hlv⟩ := own_formT h.br.la
  obtain ⟨n, hn0⟩ : ∃ n, n = b.labels.length := ⟨_, rfl⟩
  rw [← hn0] at hlv
  have z5 : w.cell? ⟨g, 5, none⟩ = some (.slice Al n cl) := by rw [← hlv]; exact h.bl.cell 5
  have q1 : IntKind.i64.wrap (((n + 1 : Nat) : Int) - 1) = (n : Int) := by rw [show ((n + 1 : Nat) : Int) - 1 = (n : Int) by omega]; exact IntWalk.i64_in _ (by omega)
  have q2 : IntKind.i64.wrap ((n : Int) + 1 - 1) = (n : Int) := by rw [show (n : Int) + 1 - 1 = (n : Int) by omega]; exact IntWalk.i64_in _ (by omega)
  have hBw : B ≤ w.heap.size := by have := h.bl.lt; have := h.gB; omega
  obtain ⟨W1, hW1⟩ : ∃ W1, W1 = w.alloc (.cells #[.int .i64 (-1)] 3) := ⟨_, rfl⟩
  have hb1 : Below w.heap.size w W1 := by rw [hW1]; exact (Below.refl _ _).alloc (Nat.le_refl _) _
  have hT1 := h.below hb1
  have hc1 : Blk W1 w.heap.size 3 #[.int .i64 (-1)] := by rw [hW1]; exact Blk.new _ _ _
  have hz : W1.heap.size = w.heap.size + 1 := by rw [hW1]; simp
  have hla : W1.ownsRow B 3 1 (.slice Al n cl) n (b.labels.map iI) := by rw [← hlv, hn0]; exact hT1.br.la
  have HT1 := hide hT1
  have HB1 := hide (hb1.mono hBw)
  have HB00 := hide hb1
  have HL := hide (And.intro hn0 (And.intro hn (And.intro hlv (And.intro hBw hz))))
  have HC := hide hc1
  have HLA := hide hla
  have HW1 := hide hW1
  clear h hn hlv hn0 hb1 hT1 hc1 hla hW1 hBw hz
  go_enter Try.func9, Try.ntmps9
  go_upto_region 1 with (fail)
  go_wp2_with (first
    | (at_builtin
       rw [← HW1.out]
       refine wpList_append_any _ rfl (.tmp 7) (.tmp 8) _ rfl B 3 i0 _ 1 8 Try.underlying22 hi0 hz0 hz1 hz2 rfl (by omega) (.slice Al n cl) n _ rfl HLA.out (w.heap.size + 1) (some ⟨w.heap.size, 0, none⟩) 1 1 [.int .i64 (-1)] rfl ⟨rfl, fun _ => ⟨_, rfl, Nat.lt_succ_self _, fun q u hu => by rw [Addr.add_lit, Nat.zero_add, HC.out.cell q]; simpa using hu⟩⟩ (by intro u hu; simp at hu; subst hu; rfl) (by have := HL.out; simp only [maxLen]; omega) (by have := HL.out; omega) (by have := HL.out; omega) ?_
       intro v6 w6 hown6 hg6 hat6
       obtain ⟨A6, c6, rfl⟩ := own_formT hown6
       have hg6' : W1.grownBy w6 b.lv.ownBlock := by rw [HL.out.2.2.1]; exact hg6
       have hbl6 : Blk w6 g 63 b.arr := HT1.out.bl.grown hg6' (fun e => own_blk_ne HT1.out.br.la HT1.out.bl (by decide) e.symm)
       have hbr6 : BR w6 B { b with labels := b.labels ++ [-1], lv := .slice A6 (n + 1) c6 } := HT1.out.br.label hg6' (by rw [List.length_append, ← HL.out.1, List.map_append]; exact hown6) (by rw [HL.out.2.2.1]; exact hat6)
       have hf6 := hbl6.frozen 5
       have y6 : w6.cell? ⟨g, 5, none⟩ = some b.lv := hbl6.cell 5
       have HT6 := hide (show BT (w6.setCell ⟨g, 5, none⟩ (.slice A6 (n + 1) c6)) B g { b with labels := b.labels ++ [-1], lv := .slice A6 (n + 1) c6 } from ⟨hbl6.set_ 5 _, hbr6.setCell (hbr6.off_blk hbl6) _, HT1.out.gB⟩)
       have HB6 := hide (show Below B w (w6.setCell ⟨g, 5, none⟩ (.slice A6 (n + 1) c6)) from (HB1.out.grown hg6' (by have := HL.out; omega) (fun k hk => (HT1.out.br.la.lt k hk).1)).setCell (p := ⟨g, 5, none⟩) HT1.out.gB _)
       have HK6 := hide (show Kp g b.lv.ownBlock w (w6.setCell ⟨g, 5, none⟩ (.slice A6 (n + 1) c6)) from (((Kp.of_below HB00.out).grown hg6').set_ 5 _))
       have HAT := hide (show (Value.slice A6 (n + 1) c6).ownBlock = b.lv.ownBlock ∨ (Value.slice A6 (n + 1) c6).ownBlock = some (w.heap.size + 1) by rw [HL.out.2.2.1, ← HL.out.2.2.2.2]; exact hat6)
       clear hown6 hg6 hat6 hg6' hbl6 hbr6 z5))
  go_ret
  refine ⟨_, ⟨?_, HT6.out, HB6.out.size, HB6.out⟩, HK6.out, HAT.out⟩
  rw [← HL.out.1]
  have hw2 : wrap64 (n : Int) = (n : Int) := by have := HL.out.2.1; have := HL.out.1; unfold wrap64; omega
  show Ending.returned (.int .i64 (wrap64 (n : Int))) = _
  rw [hw2]
set_option maxHeartbeats 2000000 in
theorem mark_kp (B g : Nat) (b : Bd) (x : Int) (w : World) (h : BT w B g b) : Calls Try.prog 12 #[.pointer (some ⟨g, 0, none⟩), .int .i64 x] w fun e w' => BOut B g w (.tuple #[]) (markB b x) e w' ∧ Kp g b.lv.ownBlock w w' := by
  obtain ⟨Al, cl, hlv⟩ := own_formT h.br.la
  obtain ⟨n, hn0⟩ : ∃ n, n = b.labels.length := ⟨_, rfl⟩
  rw [← hn0] at hlv
  have z5 : w.cell? ⟨g, 5, none⟩ = some (.slice Al n cl) := by rw [← hlv]; exact h.bl.cell 5
  by_cases h1 : 0 ≤ x
  · by_cases h2 : x < (n : Int)
    · obtain ⟨k, rfl⟩ : ∃ k : Nat, x = (k : Int) := ⟨x.toNat, by omega⟩
      have hk : k < n := by omega
      have z1 : w.cell? ⟨g, 1, none⟩ = some (.int .i64 b.put) := h.bl.cell 1
      have hla := h.br.la
      rw [hlv, ← hn0] at hla
      rcases hla.2 with ⟨hx0, _⟩ | ⟨g7, cap, cur, hv7, hB7, hg7, _⟩
      · injection hx0 with _ hx0
        omega
      · injection hv7 with h71 h72 h73
        subst h71 h73
        have hm : markB b (k : Int) = { b with labels := b.labels.set k b.put } := by unfold markB; rw [if_pos ⟨h1, by rw [← hn0]; exact h2⟩]; rfl
        have hset := own_set (q := k) hla (iI b.put)
        have hget := hla.cells (g := g7) rfl k _ (by rw [List.getElem?_map, List.getElem?_eq_getElem (by omega)]; rfl)
        have hb7 : Blk w g7 3 cur := hg7
        have f7 := hb7.frozen k
        have hlvo : b.lv.ownBlock = some g7 := by rw [hlv]; rfl
        have hgg : g ≠ g7 := fun e => own_blk_ne h.br.la h.bl (by decide) (by rw [hlvo, e])
        have hset2 : (w.setCell ⟨g7, k, none⟩ (iI b.put)).ownsRow B 3 1 b.lv (b.labels.set k b.put).length ((b.labels.set k b.put).map iI) := by rw [List.length_set, List.map_set, ← hn0, hlv]; exact hset
        have HT := hide (show BT (w.setCell ⟨g7, k, none⟩ (iI b.put)).drew B g { b with labels := b.labels.set k b.put } from ⟨(h.bl.far (p := ⟨g7, k, none⟩) hgg _).drew, (h.br.mark hlvo hb7 hset2).drew_, h.gB⟩)
        have HB := hide (show Below B w (w.setCell ⟨g7, k, none⟩ (iI b.put)).drew from ((Below.refl _ _).setCell (p := ⟨g7, k, none⟩) hB7 _).drew)
        have HK := hide (show Kp g b.lv.ownBlock w (w.setCell ⟨g7, k, none⟩ (iI b.put)).drew by rw [hlvo]; exact ((Kp.of_below (Below.refl _ _)).setO k _).drew)
        rw [Addr.add_lit, Nat.zero_add] at hget
        have hge2 : ∃ vv, w.cell? ⟨g7, k, none⟩ = some vv := ⟨_, hget⟩
        clear hget
        obtain ⟨vv, hget⟩ := hge2
        rw [hm]
        clear h hm hla hset hset2 hlvo hgg hb7 hg7 hlv hn0 hB7 h72
        go_enter Try.func12, Try.ntmps12
        go_upto_region 1 with (fail)
        go_still_tail 10, (by kernel_rfl)
        go_wp2_with fail
        go_end0
        exact ⟨⟨rfl, HT.out, HB.out.size, HB.out⟩, HK.out⟩
    · have hm : markB b x = b := by unfold markB; rw [if_neg (by rw [← hn0]; omega)]
      have HT := hide h
      rw [hm]
      clear h hm
      go_enter Try.func12, Try.ntmps12
      go_wp2_with fail
      go_end0
      exact ⟨⟨rfl, HT.out, Nat.le_refl _, Below.refl _ _⟩, Kp.of_below (Below.refl _ _)⟩
  · have hm : markB b x = b := by unfold markB; rw [if_neg (by omega)]
    have HT := hide h
    rw [hm]
    clear h hm
    go_enter Try.func12, Try.ntmps12
    go_wp2_with fail
    go_end0
    exact ⟨⟨rfl, HT.out, Nat.le_refl _, Below.refl _ _⟩, Kp.of_below (Below.refl _ _)⟩
set_option maxHeartbeats 4000000 in
theorem add_kp (B g : Nat) (b : Bd) (s : Sm) (w : World) (h : BT w B g b) (hn : b.stmts.length ≤ 100000) : Calls Try.prog 10 #[.pointer (some ⟨g, 0, none⟩), s.val] w fun e w' => ∃ sv, BOut B g w (iI (b.stmts.length : Int)) { b with stmts := b.stmts ++ [s], sv := sv } e w' ∧ Kp g b.sv.ownBlock w w' := by
  obtain ⟨i0, hi0, hz0, hz1, hz2⟩ := info_parts stInfo
  obtain ⟨a, ha⟩ : ∃ a, a = w.heap.size := ⟨_, rfl⟩
  obtain ⟨W1, hW1⟩ : ∃ W1, W1 = w.alloc (.cells #[iI s.n, iI s.f, iI s.l, iI s.c] 32) := ⟨_, rfl⟩
  have hb1 : Below w.heap.size w W1 := by rw [hW1]; exact (Below.refl _ _).alloc (Nat.le_refl _) _
  have hba : Blk W1 a 32 #[iI s.n, iI s.f, iI s.l, iI s.c] := by rw [hW1, ha]; exact Blk.new _ _ _
  have hT1 := h.below hb1
  have hBw : B ≤ w.heap.size := by have := h.bl.lt; have := h.gB; omega
  obtain ⟨As, cs, hsv⟩ := own_formT h.br.sm
  obtain ⟨n, hn0⟩ : ∃ n, n = b.stmts.length := ⟨_, rfl⟩
  rw [← hn0] at hsv
  have u6 : W1.cell? ⟨g, 6, none⟩ = some (.slice As n cs) := by rw [← hsv]; exact hT1.bl.cell 6
  have hrow : W1.ownsRow B 32 4 (.slice As n cs) n (b.stmts.flatMap Sm.enc) := by rw [← hsv, hn0]; exact hT1.br.sm
  have hS0 : W1.cell? ⟨g, 6, none⟩ = some (.slice As n cs) ∧ Blk W1 a 32 #[iI s.n, iI s.f, iI s.l, iI s.c] := ⟨u6, hba⟩
  have HROW := hide hrow
  have HT1 := hide hT1
  have HOF := hide (h.br.off_new (k := a) (by omega)).os
  have HN := hide (And.intro hn0 (And.intro hn (And.intro hsv hBw)))
  have HB1 := hide (hb1.mono hBw)
  have HB00 := hide hb1
  have HX := hide (show g < W1.heap.size ∧ a < W1.heap.size ∧ B ≤ W1.heap.size from ⟨hT1.bl.lt, hba.lt, Nat.le_trans hBw hb1.size⟩)
  have HW1 := hide hW1
  have HA := hide ha
  clear h hn hn0 hsv hb1 hba hT1 hrow hBw hW1 ha u6
  go_enter Try.func10, Try.ntmps10
  go_upto_region 1 with (fail)
  unfold Sm.val
  rw [← HW1.out, ← HA.out]
  go_wp2_with fail
  refine wp_region_tail 10 (fun w' => w'.cell? ⟨g, 6, none⟩ = some (.slice As n cs) ∧ Blk w' a 32 #[iI s.n, iI s.f, iI s.l, iI s.c]) (by kernel_rfl) hS0 (fun hHeld => ?_)
  try simp only [Act.put, List.setIfInBounds_toArray, List.set_cons_zero, List.set_cons_succ]
  refine' wpTail_take (i := 0) (oi := _) ?hi5001 ?hs5001 ?hf5001 ?hr5001 ?hz5001 ?hQ5001 (v := _) (Or.inl ⟨?hw5001, ?hy5001⟩) (by assumption) ?_
  case hi5001 => (simp only [List.getElem?_toArray, List.getElem?_cons_zero]; exact rfl)
  case hs5001 => kernel_rfl
  case hf5001 => kernel_rfl
  case hr5001 => kernel_rfl
  case hz5001 => kernel_rfl
  case hQ5001 => exact fun _ _ _ h => h
  case hw5001 => rfl
  case hy5001 => (intro W0 hSw; (try dsimp only at hSw); go_simp; (try with_reducible rfl))
  try simp only [Act.put, List.setIfInBounds_toArray, List.set_cons_zero, List.set_cons_succ]
  refine' wpTail_take (i := 1) (oi := _) ?hi5002 ?hs5002 ?hf5002 ?hr5002 ?hz5002 ?hQ5002 (v := _) (Or.inl ⟨?hw5002, ?hy5002⟩) (by assumption) ?_
  case hi5002 => (simp only [List.getElem?_toArray, List.getElem?_cons_succ, List.getElem?_cons_zero]; exact rfl)
  case hs5002 => kernel_rfl
  case hf5002 => kernel_rfl
  case hr5002 => kernel_rfl
  case hz5002 => kernel_rfl
  case hQ5002 => exact fun _ _ _ h => h
  case hw5002 => rfl
  case hy5002 => (intro W0 hSw; (try dsimp only at hSw); go_simp; (try with_reducible rfl))
  try simp only [Act.put, List.setIfInBounds_toArray, List.set_cons_zero, List.set_cons_succ]
  refine' wpTail_take (i := 2) (oi := _) ?hi5003 ?hs5003 ?hf5003 ?hr5003 ?hz5003 ?hQ5003 (v := _) (Or.inl ⟨?hw5003, ?hy5003⟩) (by assumption) ?_
  case hi5003 => (simp only [List.getElem?_toArray, List.getElem?_cons_succ, List.getElem?_cons_zero]; exact rfl)
  case hs5003 => kernel_rfl
  case hf5003 => kernel_rfl
  case hr5003 => kernel_rfl
  case hz5003 => kernel_rfl
  case hQ5003 => exact fun _ _ _ h => h
  case hw5003 => rfl
  case hy5003 => (intro W0 hSw; (try dsimp only at hSw); go_simp; (try with_reducible rfl))
  try simp only [Act.put, List.setIfInBounds_toArray, List.set_cons_zero, List.set_cons_succ]
  refine' wpTail_take (i := 3) (oi := _) ?hi5004 ?hs5004 ?hf5004 ?hr5004 ?hz5004 ?hQ5004 (v := _) (Or.inl ⟨?hw5004, ?hy5004⟩) (by assumption) ?_
  case hi5004 => (simp only [List.getElem?_toArray, List.getElem?_cons_succ, List.getElem?_cons_zero]; exact rfl)
  case hs5004 => kernel_rfl
  case hf5004 => kernel_rfl
  case hr5004 => kernel_rfl
  case hz5004 => kernel_rfl
  case hQ5004 => exact fun _ _ _ h => h
  case hw5004 => rfl
  case hy5004 => (intro W0 hSw; (try dsimp only at hSw); go_simp; (try with_reducible rfl))
  try simp only [Act.put, List.setIfInBounds_toArray, List.set_cons_zero, List.set_cons_succ]
  refine' wpTail_take (i := 4) (oi := _) ?hi5005 ?hs5005 ?hf5005 ?hr5005 ?hz5005 ?hQ5005 (v := _) (Or.inl ⟨?hw5005, ?hy5005⟩) (by assumption) ?_
  case hi5005 => (simp only [List.getElem?_toArray, List.getElem?_cons_succ, List.getElem?_cons_zero]; exact rfl)
  case hs5005 => kernel_rfl
  case hf5005 => kernel_rfl
  case hr5005 => kernel_rfl
  case hz5005 => kernel_rfl
  case hQ5005 => exact fun _ _ _ h => h
  case hw5005 => rfl
  case hy5005 => (intro W0 hSw; (try dsimp only at hSw); have u0 : W0.cell? ⟨g, 6, none⟩ = some (.slice As n cs) := hSw.1; go_simp; (try with_reducible rfl))
  try simp only [Act.put, List.setIfInBounds_toArray, List.set_cons_zero, List.set_cons_succ]
  refine' wpTail_take (i := 5) (oi := _) ?hi5006 ?hs5006 ?hf5006 ?hr5006 ?hz5006 ?hQ5006 (v := Value.agg #[iI s.n, iI s.f, iI s.l, iI s.c]) ?hy5006 (by assumption) ?_
  case hi5006 => (simp only [List.getElem?_toArray, List.getElem?_cons_succ, List.getElem?_cons_zero]; exact rfl)
  case hs5006 => kernel_rfl
  case hf5006 => kernel_rfl
  case hr5006 => kernel_rfl
  case hz5006 => kernel_rfl
  case hQ5006 => exact fun _ _ _ h => h
  case hy5006 => (exact yieldsIf_load_mid rfl 32 (.tmp 3) rfl a 0 rfl #[iI s.n, iI s.f, iI s.l, iI s.c].toList _ (fun W0 hSw j v hv => by rw [Nat.zero_add, Blk.cell hSw.2]; simpa using hv) Try.underlying32 rfl st_size)
  try simp only [Act.put, List.setIfInBounds_toArray, List.set_cons_zero, List.set_cons_succ]
  refine' wpTail_one (i := 6) (o := _) (by kernel_rfl) ?ho5007 ?hw5007 (fun K hK => ?_)
  case ho5007 => (simp only [List.getElem?_toArray, List.getElem?_cons_succ, List.getElem?_cons_zero]; exact rfl)
  case hw5007 => rfl
  refine wp_buildSlice 44 32 1 #[(0, .tmp 10)] rfl #[iI s.n, iI s.f, iI s.l, iI s.c] i0 _ Try.underlying44 hi0 hz0 (by rw [hz1]; omega) (by rw [hz1]; omega) (by rw [hz1]; kernel_rfl) ?_
  obtain ⟨W9, hW9⟩ : ∃ W9, W9 = W1.drew.alloc (.cells #[iI s.n, iI s.f, iI s.l, iI s.c] 32) := ⟨_, rfl⟩
  have hb9 : Below W1.heap.size W1 W9 := by rw [hW9]; exact (Below.refl W1.heap.size W1).drew.alloc (Nat.le_refl _) _
  have hbn : Blk W9 W1.heap.size 32 #[iI s.n, iI s.f, iI s.l, iI s.c] := by rw [hW9]; exact Blk.new W1.drew _ _
  have hz9 : W9.heap.size = W1.heap.size + 1 := by rw [hW9]; simp
  have hS9 : W9.cell? ⟨g, 6, none⟩ = some (.slice As n cs) ∧ Blk W9 a 32 #[iI s.n, iI s.f, iI s.l, iI s.c] := ⟨(hb9.cell (p := ⟨g, 6, none⟩) HX.out.1).trans hS0.1, hS0.2.below hb9 HX.out.2.1⟩
  rw [← hW9]
  refine hK.out _ _ (fun _ => hS9) ?_
  clear hK K
  try simp only [Act.put, List.setIfInBounds_toArray, List.set_cons_zero, List.set_cons_succ]
  refine' wpTail_one (i := 7) (o := _) (by kernel_rfl) ?ho5008 ?hw5008 (fun K hK => ?_)
  case ho5008 => (simp only [List.getElem?_toArray, List.getElem?_cons_succ, List.getElem?_cons_zero]; exact rfl)
  case hw5008 => rfl
  refine wp_append_any _ (.tmp 9) (.tmp 11) _ rfl B 32 i0 _ 4 32 Try.underlying44 hi0 hz0 hz1 hz2 rfl (by omega) (.slice As n cs) n _ rfl (own_belowT HROW.out hb9) (W1.heap.size + 1) (some ⟨W1.heap.size, 0, none⟩) 1 1 #[iI s.n, iI s.f, iI s.l, iI s.c].toList rfl ⟨rfl, fun _ => ⟨_, rfl, Nat.lt_succ_self _, fun q u hu => by rw [Addr.add_lit, Nat.zero_add, hbn.cell q]; simpa using hu⟩⟩ (fun u hu => by simp at hu; rcases hu with rfl | rfl | rfl | rfl <;> rfl) (by have := HN.out; simp only [maxLen]; omega) (by have := HN.out; omega) (by have := HX.out; have := hb9.size; omega) ?_
  intro v10 w10 hown10 hg10 hat10
  obtain ⟨A10, c10, rfl⟩ := own_formT hown10
  have hT9 := HT1.out.below hb9
  have hg10' : W9.grownBy w10 b.sv.ownBlock := by rw [HN.out.2.2.1]; exact hg10
  have hbl10 : Blk w10 g 63 b.arr := hT9.bl.grown hg10' (fun e => own_blk_ne hT9.br.sm hT9.bl (by decide) e.symm)
  have hR10 : BR w10 B { b with stmts := b.stmts ++ [s], sv := .slice A10 (n + 1) c10 } := hT9.br.stmts_ hg10' (by rw [List.length_append, ← HN.out.1, List.flatMap_append, List.flatMap_singleton]; exact hown10)
  have hS10 : w10.cell? ⟨g, 6, none⟩ = some (.slice As n cs) ∧ Blk w10 a 32 #[iI s.n, iI s.f, iI s.l, iI s.c] := ⟨by rw [← HN.out.2.2.1]; exact hbl10.cell 6, hS9.2.grown hg10' (fun e => HOF.out e.symm)⟩
  have hf10 := hbl10.frozen 6
  have HT10 := hide (show BT (w10.setCell ⟨g, 6, none⟩ (.slice A10 (n + 1) c10)) B g { b with stmts := b.stmts ++ [s], sv := .slice A10 (n + 1) c10 } from ⟨hbl10.set_ 6 _, hR10.setCell (hR10.off_blk hbl10) _, HT1.out.gB⟩)
  have HB10 := hide (show Below B w (w10.setCell ⟨g, 6, none⟩ (.slice A10 (n + 1) c10)) from ((HB1.out.trans (hb9.mono HX.out.2.2)).grown hg10' (Nat.le_trans HX.out.2.2 hb9.size) (fun k hk => (hT9.br.sm.lt k hk).1)).setCell (p := ⟨g, 6, none⟩) HT1.out.gB _)
  have HK10 := hide (show Kp g b.sv.ownBlock w (w10.setCell ⟨g, 6, none⟩ (.slice A10 (n + 1) c10)) from ((((Kp.of_below HB00.out).below hb9).grown hg10').set_ 6 _))
  refine hK.out _ _ (fun _ => hS10) ?_
  clear hK K
  clear hR10 hbl10 hg10' hT9 hat10 hg10 hown10 hbn hb9 hz9 hW9 hS9
  try simp only [Act.put, List.setIfInBounds_toArray, List.set_cons_zero, List.set_cons_succ]
  refine' wpTail_one (i := 8) (o := _) (by kernel_rfl) ?ho5009 ?hw5009 (fun K hK => ?_)
  case ho5009 => (simp only [List.getElem?_toArray, List.getElem?_cons_succ, List.getElem?_cons_zero]; exact rfl)
  case hw5009 => rfl
  go_simp
  refine hK.out _ _ (fun _ => hS10) ?_
  clear hK K
  try simp only [Act.put, List.setIfInBounds_toArray, List.set_cons_zero, List.set_cons_succ]
  refine' wpTail_one (i := 9) (o := _) (by kernel_rfl) ?ho5010 ?hw5010 (fun K hK => ?_)
  case ho5010 => (simp only [List.getElem?_toArray, List.getElem?_cons_succ, List.getElem?_cons_zero]; exact rfl)
  case hw5010 => rfl
  go_simp
  refine hK.out _ _ (fun _ => hS10) ?_
  clear hK K
  have t10 := hS10.1
  have q2 : IntKind.i64.wrap ((n : Int) + 1 - 1) = (n : Int) := by rw [show (n : Int) + 1 - 1 = (n : Int) by omega]; exact IntWalk.i64_in _ (by have := HN.out; omega)
  try simp only [Act.put, List.setIfInBounds_toArray, List.set_cons_zero, List.set_cons_succ]
  refine' wpTail_one (i := 10) (o := _) (by kernel_rfl) ?ho5011 ?hw5011 (fun K hK => ?_)
  case ho5011 => (simp only [List.getElem?_toArray, List.getElem?_cons_succ, List.getElem?_cons_zero]; exact rfl)
  case hw5011 => rfl
  go_simp
  refine hK.out _ _ (fun h => absurd rfl h) ?_
  clear hK K
  refine wpTail_done (by kernel_rfl) ?_ _
  try simp only [Act.put, List.setIfInBounds_toArray, List.set_cons_zero, List.set_cons_succ]
  clear hHeld hS10
  go_wp2_with fail
  go_ret
  refine ⟨_, ⟨?_, HT10.out, HB10.out.size, HB10.out⟩, HK10.out⟩
  rw [← HN.out.1]
  have hw2 : wrap64 (n : Int) = (n : Int) := by have := HN.out.2.1; have := HN.out.1; unfold wrap64; omega
  show Ending.returned (.int .i64 (wrap64 (n : Int))) = _
  rw [hw2]
set_option maxHeartbeats 8000000 in
theorem put_kp (B g : Nat) (b : Bd) (i : Ins) (av rv : Value) (w : World) (h : BT w B g b) (hi : ∀ W : World, KeepOff g w W → InsOk W i av rv) (hn : i.arms.length ≤ 100000 ∧ i.args.length ≤ 100000) (hl : b.code.length ≤ 100000) (hp : 0 ≤ b.put ∧ b.put ≤ 100000) (hlong : b.regs ≤ 65536 ∧ b.put + 1 ≤ 65536) :
    Calls Try.prog 13 #[.pointer (some ⟨g, 0, none⟩), i.val av rv] w fun e w' => e = .returned (.tuple #[]) ∧ ∃ av' rv' cv', BT w' B g (putB b i av' rv' cv') ∧ w.heap.size ≤ w'.heap.size ∧ Below B w w' ∧ Kp g b.cv.ownBlock w w' ∧ ∀ k, av'.ownBlock = some k → w.heap.size ≤ k := by
  obtain ⟨Aa, ca, rfl⟩ := (hi w (KeepOff.of_below (Below.refl _ _))).ar.form
  obtain ⟨Ar, cr, rfl⟩ := (hi w (KeepOff.of_below (Below.refl _ _))).rm.form
  obtain ⟨m, hm⟩ : ∃ m, m = i.arms.length := ⟨_, rfl⟩
  obtain ⟨ma, hma⟩ : ∃ ma, ma = i.args.length := ⟨_, rfl⟩
  rw [← hm, ← hma] at hi ⊢
  obtain ⟨a, ha⟩ : ∃ a, a = w.heap.size := ⟨_, rfl⟩
  obtain ⟨W1, hW1⟩ : ∃ W1, W1 = w.alloc (.cells (i.arr (.slice Aa ma ca) (.slice Ar m cr)) 39) := ⟨_, rfl⟩
  have hb1 : Below w.heap.size w W1 := by rw [hW1]; exact (Below.refl _ _).alloc (Nat.le_refl _) _
  have hba : Blk W1 a 39 (i.arr (.slice Aa ma ca) (.slice Ar m cr)) := by rw [hW1, ha]; exact Blk.new _ _ _
  have hT1 := h.below hb1
  have hga : g ≠ a := by have := h.bl.lt; omega
  have hoff : Off b a := h.br.off_new (by omega)
  have z1 : W1.cell? ⟨g, 1, none⟩ = some (.int .i64 b.put) := hT1.bl.cell 1
  have f1 := hT1.bl.frozen 1
  obtain ⟨p1, hp1⟩ : ∃ p1, p1 = b.put + 1 := ⟨_, rfl⟩
  have q1 : IntKind.i64.wrap (b.put + 1) = p1 := by rw [hp1]; exact IntWalk.i64_in _ (by omega)
  obtain ⟨W2, hW2⟩ : ∃ W2, W2 = W1.setCell ⟨g, 1, none⟩ (.int .i64 p1) := ⟨_, rfl⟩
  have hT2 : BT W2 B g { b with put := p1 } := by
    rw [hW2]
    exact ⟨hT1.bl.set_ 1 _, (hT1.br.setCell (hT1.br.off_blk hT1.bl) _ : BR _ B b) |> fun h => ⟨h.co, h.be, h.la, h.sm, h.el, h.ne, h.nb⟩, hT1.gB⟩
  have hBw : B ≤ w.heap.size := by have := h.bl.lt; have := h.gB; omega
  have hBB2 : Below B w W2 := by rw [hW2]; exact (hb1.mono hBw).setCell (p := ⟨g, 1, none⟩) h.gB _
  have HBw := hide (And.intro hBw (And.intro h.gB (show B ≤ a by omega)))
  have HBB2 := hide hBB2
  have HKP2 := hide (show Kp g b.cv.ownBlock w W2 by rw [hW2]; exact (Kp.of_below hb1).set_ 1 _)
  have HSA := hide (show w.heap.size ≤ a by omega)
  have hba2 : Blk W2 a 39 (i.arr (.slice Aa ma ca) (.slice Ar m cr)) := by rw [hW2]; exact hba.far (p := ⟨g, 1, none⟩) (by show a ≠ g; omega) _
  have hz2 : W2.heap.size = W1.heap.size := by rw [hW2]; simp
  obtain ⟨V, hV⟩ : ∃ V, V = i.val (.slice Aa ma ca) (.slice Ar m cr) := ⟨_, rfl⟩
  have hEN := ends_any i (.slice Aa ma ca) (.slice Ar m cr) W2
  rw [← hV] at hEN
  obtain ⟨eb, heb⟩ : ∃ eb, eb = endsB i.op := ⟨_, rfl⟩
  rw [← heb] at hEN
  have HEN := hide hEN
  have HEB := hide heb
  have HV := hide hV
  have HW1 := hide hW1
  have HA := hide ha
  have HW2 := hide hW2
  have HT2 := hide hT2
  have HBA2 := hide hba2
  have HB1 := hide hb1
  have HX := hide (show g ≠ a ∧ a < W2.heap.size ∧ W2.heap.size = W1.heap.size ∧ g < w.heap.size from ⟨hga, hba2.lt, hz2, h.bl.lt⟩)
  have HIN := hide hi
  have HOF := hide hoff
  have HM := hide (And.intro hm (And.intro hma hn))
  have HP := hide (And.intro hp1 (And.intro hl (And.intro hp hlong)))
  have HB0 := hide h
  clear hBw hBB2 h hi hm hma hn ha hW1 hb1 hba hT1 hga hoff hp1 hW2 hT2 hba2 hz2 hV hEN heb hl hp hlong
  go_enter Try.func13, Try.ntmps13
  go_upto_region 1 with (fail)
  rw [← HW1.out, ← HA.out]
  go_upto_region 2 with (fail)
  rw [← HW2.out]
  clear z1 f1 q1
  go_wp2_with (first
    | (refine wpList_load_blk (.tmp 3) HBA2.out HV.out Try.underlying39 rfl ins_size rfl rfl rfl ?_))
  refine HEN.out.mono ?_
  rintro e w3 ⟨rfl, hb3⟩
  have hT3 := HT2.out.below hb3
  have z3 : w3.cell? ⟨g, 3, none⟩ = some (.bool b.ends) := hT3.bl.cell 3
  have f3 := hT3.bl.frozen 3
  obtain ⟨W4, hW4⟩ : ∃ W4, W4 = w3.setCell ⟨g, 3, none⟩ (.bool eb) := ⟨_, rfl⟩
  have hT4 : BT W4 B g { b with put := p1, ends := eb } := by
    rw [hW4]
    exact ⟨hT3.bl.set_ 3 _, (hT3.br.setCell (hT3.br.off_blk hT3.bl) _ : BR _ B _) |> fun h => ⟨h.co, h.be, h.la, h.sm, h.el, h.ne, h.nb⟩, hT3.gB⟩
  have hba4 : Blk W4 a 39 (i.arr (.slice Aa ma ca) (.slice Ar m cr)) := by rw [hW4]; exact (HBA2.out.below hb3 HBA2.out.lt).far (p := ⟨g, 3, none⟩) (by show a ≠ g; have := HX.out.1; omega) _
  have hz4 : W4.heap.size = w3.heap.size := by rw [hW4]; simp
  have HBB4 := hide (show Below B w W4 by rw [hW4]; exact (HBB2.out.trans (hb3.mono (Nat.le_trans HBw.out.1 HBB2.out.size))).setCell (p := ⟨g, 3, none⟩) HBw.out.2.1 _)
  have HKP4 := hide (show Kp g b.cv.ownBlock w W4 by rw [hW4]; exact (HKP2.out.below hb3).set_ 3 _)
  have HW4 := hide hW4
  have HT4 := hide hT4
  have HBA4 := hide hba4
  have HZ4 := hide (show w.heap.size ≤ W4.heap.size by rw [hz4]; have := hb3.size; have := HX.out.2.2.1; have := HB1.out.size; omega)
  have HIN4 : Hid (InsOk W4 i (.slice Aa ma ca) (.slice Ar m cr)) := hide (HIN.out W4 (by
    rw [hW4]
    refine (((KeepOff.of_below HB1.out).trans ?_).trans (KeepOff.of_below hb3)).trans (KeepOff.set_ _ _ _ _)
    rw [HW2.out]
    exact KeepOff.set_ _ _ _ _))
  have HLG := hide (long_any g { b with put := p1, ends := eb } W4 hT4.bl)
  rw [show longB { b with put := p1, ends := eb } = false by unfold longB; rw [decide_eq_false (by show ¬ 65536 < b.regs; have := HP.out; omega), decide_eq_false (by show ¬ 65536 < p1; have := HP.out; omega)]; rfl] at HLG
  clear hb3 hT3 hW4 hT4 hba4 hz4
  go_upto_region 3 with (fail)
  rw [← HW4.out]
  clear z3 f3
  go_wp2_with fail
  refine HLG.out.mono ?_
  rintro e w' ⟨rfl, rfl⟩
  have HCL := hide (cloned_any i (.slice Aa ma ca) (.slice Ar m cr) W4 HIN4.out (by have := HM.out; omega))
  rw [← HV.out] at HCL
  go_wp2_with (first
    | (refine wpList_load_blk (.tmp 3) HBA4.out HV.out Try.underlying39 rfl ins_size rfl rfl rfl ?_))
  refine HCL.out.mono ?_
  rintro e w6 ⟨av', rv', rfl, ho6, hr6, hb6⟩
  have HT6 := hide (HT4.out.below hb6)
  obtain ⟨A6, c6, rfl⟩ := own_formT ho6
  obtain ⟨A7, c7, rfl⟩ := own_formT hr6
  rw [← HM.out.2.1] at ho6
  rw [← HM.out.1] at hr6
  rw [← HM.out.2.1, ← HM.out.1]
  obtain ⟨V6, hV6⟩ : ∃ V6, V6 = i.val (.slice A6 ma c6) (.slice A7 m c7) := ⟨_, rfl⟩
  rw [← hV6]
  have HV6 := hide hV6
  have HBA6 := hide (HBA4.out.below hb6 HBA4.out.lt)
  have HON := hide (show (i.arr (.slice A6 ma c6) (.slice A7 m c7)).all (·.oneCell') = true by simp [Value.oneCell'])
  obtain ⟨W7, hW7⟩ : ∃ W7, W7 = w6.setRow a (i.arr (.slice A6 ma c6) (.slice A7 m c7)) := ⟨_, rfl⟩
  obtain ⟨f1, f2, f3⟩ := setRow_facts (cells := i.arr (.slice A6 ma c6) (.slice A7 m c7)) HBA6.out
  rw [← hW7] at f1 f2 f3
  have hoff : Off { b with put := p1, ends := eb } a := ⟨HOF.out.oc, HOF.out.ob, HOF.out.ol, HOF.out.os, HOF.out.oe⟩
  have hT7 : BT W7 B g { b with put := p1, ends := eb } := ⟨HT6.out.bl.grown f2 (fun e => by injection e with e; exact HX.out.1 e), HT6.out.br.grown f2 hoff, HT6.out.gB⟩
  have ho7 : W7.ownsRow W4.heap.size 3 1 (.slice A6 ma c6) ma (i.args.map iI) := own_grT ho6 f2 (fun k hk e => own_blk_ne ho6 HBA6.out (by decide) (by rw [hk, e]))
  have hr7 : W7.ownsRow W4.heap.size 41 6 (.slice A7 m c7) m (i.arms.flatMap Arm.enc) := own_grT hr6 f2 (fun k hk e => own_blk_ne hr6 HBA6.out (by decide) (by rw [hk, e]))
  have u7 : W7.cell? ⟨g, 7, none⟩ = some (.int .i64 b.stmt) := hT7.bl.cell 7
  have u16 : W7.cell? ⟨a, 16, none⟩ = some (.int .i64 i.st) := f1.cell 16
  have uf16 := f1.frozen 16
  obtain ⟨W8, hW8⟩ : ∃ W8, W8 = W7.setCell ⟨a, 16, none⟩ (.int .i64 b.stmt) := ⟨_, rfl⟩
  have hBB6 : Below B w w6 := HBB4.out.trans (hb6.mono (Nat.le_trans HBw.out.1 HBB4.out.size))
  have HBB8 := hide (show Below B w W8 by rw [hW8]; exact (hBB6.grown f2 (Nat.le_trans HBw.out.1 hBB6.size) (fun k hk => by cases hk; exact HBw.out.2.2)).setCell (p := ⟨a, 16, none⟩) HBw.out.2.2 _)
  have HKP8 := hide (show Kp g b.cv.ownBlock w W8 by rw [hW8]; exact ((HKP4.out.below hb6).grownN HSA.out f2).setN HSA.out 16 _)
  clear hBB6
  have hba8 : Blk W8 a 39 (Ins.arr { i with st := b.stmt } (.slice A6 ma c6) (.slice A7 m c7)) := by rw [hW8]; exact f1.set_ 16 _
  have hoff8 : ∀ {x : Bd}, x.cv = b.cv → x.bv = b.bv → x.lv = b.lv → x.sv = b.sv → x.code = b.code → Off x a := fun h1 h2 h3 h4 h5 => ⟨by rw [h1]; exact HOF.out.oc, by rw [h2]; exact HOF.out.ob, by rw [h3]; exact HOF.out.ol, by rw [h4]; exact HOF.out.os, by rw [h5]; exact HOF.out.oe⟩
  have hT8 : BT W8 B g { b with put := p1, ends := eb } := by
    rw [hW8]
    exact ⟨hT7.bl.far (p := ⟨a, 16, none⟩) HX.out.1 _, hT7.br.setCell hoff _, hT7.gB⟩
  have ho8 : W8.ownsRow W4.heap.size 3 1 (.slice A6 ma c6) ma (i.args.map iI) := by rw [hW8]; exact ownsRow_setCell_other (a := ⟨a, 16, none⟩) ho7 (own_blk_ne ho7 f1 (by decide)) _
  have hr8 : W8.ownsRow W4.heap.size 41 6 (.slice A7 m c7) m (i.arms.flatMap Arm.enc) := by rw [hW8]; exact ownsRow_setCell_other (a := ⟨a, 16, none⟩) hr7 (own_blk_ne hr7 f1 (by decide)) _
  have hz8 : W4.heap.size ≤ W8.heap.size := by rw [hW8]; simp; rw [f3]; exact hb6.size
  obtain ⟨V8, hV8⟩ : ∃ V8, V8 = Ins.val { i with st := b.stmt } (.slice A6 ma c6) (.slice A7 m c7) := ⟨_, rfl⟩
  have HV8 := hide hV8
  have HW7 := hide hW7
  have HW8 := hide hW8
  have HT8 := hide hT8
  have HBA8 := hide hba8
  have HR8 := hide (And.intro ho8 (And.intro hr8 hz8))
  have HON8 := hide (show ((Ins.arr { i with st := b.stmt } (.slice A6 ma c6) (.slice A7 m c7)).toList).all (·.oneCell') = true by simp [Value.oneCell'])
  clear hV6 hW7 f1 f2 f3 hoff hT7 ho7 hr7 hba8 hT8 ho8 hr8 hz8 hV8 hW8 ho6 hr6 hb6 hoff8
  go_upto_region 6 with (first
    | (refine wpList_store_rowTo rfl 39 (.tmp 3) (.tmp 29) rfl rfl a (i.arr (.slice A6 ma c6) (.slice A7 m c7)) rfl HV6.out 39 _ HBA6.out ins_size rfl HON.out ?_))
  rw [← HW7.out]
  go_upto_region 7 with (fail)
  rw [← HW8.out]
  clear u7 u16 uf16
  obtain ⟨Ac, cc, hcv⟩ := own_formT HT8.out.br.co
  obtain ⟨cl, hcl⟩ : ∃ cl, cl = b.code.length := ⟨_, rfl⟩
  have hcv2 : b.cv = .slice Ac cl cc := by rw [hcl]; exact hcv
  have u0 : W8.cell? ⟨g, 0, none⟩ = some (.slice Ac cl cc) := by rw [← hcv2]; exact HT8.out.bl.cell 0
  obtain ⟨i0, hi0, hz0, hz1, hz2⟩ := info_parts insInfo
  have hco : W8.ownsRow B 39 22 (.slice Ac cl cc) cl (b.code.flatMap IV.enc) := by rw [← hcv2, hcl]; exact HT8.out.br.co
  have HCO := hide hco
  have HCV := hide (And.intro hcl hcv2)
  have hS0 : W8.cell? ⟨g, 0, none⟩ = some (.slice Ac cl cc) ∧ Blk W8 a 39 (Ins.arr { i with st := b.stmt } (.slice A6 ma c6) (.slice A7 m c7)) := ⟨u0, HBA8.out⟩
  clear hcv hcv2 hcl hco u0
  go_wp2_with fail
  refine wp_region_tail 10 (fun w' => w'.cell? ⟨g, 0, none⟩ = some (.slice Ac cl cc) ∧ Blk w' a 39 (Ins.arr { i with st := b.stmt } (.slice A6 ma c6) (.slice A7 m c7))) (by kernel_rfl) hS0 (fun hHeld => ?_)
  try simp only [Act.put, List.setIfInBounds_toArray, List.set_cons_zero, List.set_cons_succ]
  refine' wpTail_take (i := 0) (oi := _) ?hi5001 ?hs5001 ?hf5001 ?hr5001 ?hz5001 ?hQ5001 (v := _) (Or.inl ⟨?hw5001, ?hy5001⟩) (by assumption) ?_
  case hi5001 => (simp only [List.getElem?_toArray, List.getElem?_cons_zero]; exact rfl)
  case hs5001 => kernel_rfl
  case hf5001 => kernel_rfl
  case hr5001 => kernel_rfl
  case hz5001 => kernel_rfl
  case hQ5001 => exact fun _ _ _ h => h
  case hw5001 => rfl
  case hy5001 => (intro W0 hSw; (try dsimp only at hSw); go_simp; (try with_reducible rfl))
  try simp only [Act.put, List.setIfInBounds_toArray, List.set_cons_zero, List.set_cons_succ]
  refine' wpTail_take (i := 1) (oi := _) ?hi5002 ?hs5002 ?hf5002 ?hr5002 ?hz5002 ?hQ5002 (v := _) (Or.inl ⟨?hw5002, ?hy5002⟩) (by assumption) ?_
  case hi5002 => (simp only [List.getElem?_toArray, List.getElem?_cons_succ, List.getElem?_cons_zero]; exact rfl)
  case hs5002 => kernel_rfl
  case hf5002 => kernel_rfl
  case hr5002 => kernel_rfl
  case hz5002 => kernel_rfl
  case hQ5002 => exact fun _ _ _ h => h
  case hw5002 => rfl
  case hy5002 => (intro W0 hSw; (try dsimp only at hSw); go_simp; (try with_reducible rfl))
  try simp only [Act.put, List.setIfInBounds_toArray, List.set_cons_zero, List.set_cons_succ]
  refine' wpTail_take (i := 2) (oi := _) ?hi5003 ?hs5003 ?hf5003 ?hr5003 ?hz5003 ?hQ5003 (v := _) (Or.inl ⟨?hw5003, ?hy5003⟩) (by assumption) ?_
  case hi5003 => (simp only [List.getElem?_toArray, List.getElem?_cons_succ, List.getElem?_cons_zero]; exact rfl)
  case hs5003 => kernel_rfl
  case hf5003 => kernel_rfl
  case hr5003 => kernel_rfl
  case hz5003 => kernel_rfl
  case hQ5003 => exact fun _ _ _ h => h
  case hw5003 => rfl
  case hy5003 => (intro W0 hSw; (try dsimp only at hSw); go_simp; (try with_reducible rfl))
  try simp only [Act.put, List.setIfInBounds_toArray, List.set_cons_zero, List.set_cons_succ]
  refine' wpTail_take (i := 3) (oi := _) ?hi5004 ?hs5004 ?hf5004 ?hr5004 ?hz5004 ?hQ5004 (v := _) (Or.inl ⟨?hw5004, ?hy5004⟩) (by assumption) ?_
  case hi5004 => (simp only [List.getElem?_toArray, List.getElem?_cons_succ, List.getElem?_cons_zero]; exact rfl)
  case hs5004 => kernel_rfl
  case hf5004 => kernel_rfl
  case hr5004 => kernel_rfl
  case hz5004 => kernel_rfl
  case hQ5004 => exact fun _ _ _ h => h
  case hw5004 => rfl
  case hy5004 => (intro W0 hSw; (try dsimp only at hSw); go_simp; (try with_reducible rfl))
  try simp only [Act.put, List.setIfInBounds_toArray, List.set_cons_zero, List.set_cons_succ]
  refine' wpTail_take (i := 4) (oi := _) ?hi5005 ?hs5005 ?hf5005 ?hr5005 ?hz5005 ?hQ5005 (v := _) (Or.inl ⟨?hw5005, ?hy5005⟩) (by assumption) ?_
  case hi5005 => (simp only [List.getElem?_toArray, List.getElem?_cons_succ, List.getElem?_cons_zero]; exact rfl)
  case hs5005 => kernel_rfl
  case hf5005 => kernel_rfl
  case hr5005 => kernel_rfl
  case hz5005 => kernel_rfl
  case hQ5005 => exact fun _ _ _ h => h
  case hw5005 => rfl
  case hy5005 => (intro W0 hSw; (try dsimp only at hSw); have u0 : W0.cell? ⟨g, 0, none⟩ = some (.slice Ac cl cc) := hSw.1; go_simp; (try with_reducible rfl))
  try simp only [Act.put, List.setIfInBounds_toArray, List.set_cons_zero, List.set_cons_succ]
  refine' wpTail_take (i := 5) (oi := _) ?hi5006 ?hs5006 ?hf5006 ?hr5006 ?hz5006 ?hQ5006 (v := Ins.val { i with st := b.stmt } (.slice A6 ma c6) (.slice A7 m c7)) ?hy5006 (by assumption) ?_
  case hi5006 => (simp only [List.getElem?_toArray, List.getElem?_cons_succ, List.getElem?_cons_zero]; exact rfl)
  case hs5006 => kernel_rfl
  case hf5006 => kernel_rfl
  case hr5006 => kernel_rfl
  case hz5006 => kernel_rfl
  case hQ5006 => exact fun _ _ _ h => h
  case hy5006 => (exact yieldsIf_load_mid rfl 39 (.tmp 3) rfl a 0 rfl (Ins.arr { i with st := b.stmt } (.slice A6 ma c6) (.slice A7 m c7)).toList _ (fun W0 hSw j v hv => by rw [Nat.zero_add, Blk.cell hSw.2]; simpa using hv) Try.underlying39 rfl ins_size)
  try simp only [Act.put, List.setIfInBounds_toArray, List.set_cons_zero, List.set_cons_succ]
  refine' wpTail_one (i := 6) (o := _) (by kernel_rfl) ?ho5007 ?hw5007 (fun K hK => ?_)
  case ho5007 => (simp only [List.getElem?_toArray, List.getElem?_cons_succ, List.getElem?_cons_zero]; exact rfl)
  case hw5007 => rfl
  refine wp_buildSlice 43 39 1 #[(0, .tmp 40)] rfl (Ins.arr { i with st := b.stmt } (.slice A6 ma c6) (.slice A7 m c7)) i0 _ Try.underlying43 hi0 hz0 (by rw [hz1]; omega) (by rw [hz1]; omega) (by rw [hz1]; kernel_rfl) ?_
  obtain ⟨W9, hW9⟩ : ∃ W9, W9 = W8.drew.alloc (.cells (Ins.arr { i with st := b.stmt } (.slice A6 ma c6) (.slice A7 m c7)) 39) := ⟨_, rfl⟩
  have hb9 : Below W8.heap.size W8 W9 := by rw [hW9]; exact (Below.refl W8.heap.size W8).drew.alloc (Nat.le_refl _) _
  have hbn : Blk W9 W8.heap.size 39 (Ins.arr { i with st := b.stmt } (.slice A6 ma c6) (.slice A7 m c7)) := by rw [hW9]; exact Blk.new W8.drew _ _
  have hz9 : W9.heap.size = W8.heap.size + 1 := by rw [hW9]; simp
  have hS9 : W9.cell? ⟨g, 0, none⟩ = some (.slice Ac cl cc) ∧ Blk W9 a 39 (Ins.arr { i with st := b.stmt } (.slice A6 ma c6) (.slice A7 m c7)) := ⟨(hb9.cell (p := ⟨g, 0, none⟩) HT8.out.bl.lt).trans hS0.1, hS0.2.below hb9 HBA8.out.lt⟩
  rw [← hW9]
  refine hK.out _ _ (fun _ => hS9) ?_
  clear hK K
  try simp only [Act.put, List.setIfInBounds_toArray, List.set_cons_zero, List.set_cons_succ]
  refine' wpTail_one (i := 7) (o := _) (by kernel_rfl) ?ho5008 ?hw5008 (fun K hK => ?_)
  case ho5008 => (simp only [List.getElem?_toArray, List.getElem?_cons_succ, List.getElem?_cons_zero]; exact rfl)
  case hw5008 => rfl
  refine wp_append_any _ (.tmp 39) (.tmp 41) _ rfl B 39 i0 _ 22 224 Try.underlying43 hi0 hz0 hz1 hz2 rfl (by omega) (.slice Ac cl cc) cl _ rfl (own_belowT HCO.out hb9) (W8.heap.size + 1) (some ⟨W8.heap.size, 0, none⟩) 1 1 (Ins.arr { i with st := b.stmt } (.slice A6 ma c6) (.slice A7 m c7)).toList rfl ⟨rfl, fun _ => ⟨_, rfl, Nat.lt_succ_self _, fun q u hu => by rw [Addr.add_lit, Nat.zero_add, hbn.cell q]; simpa using hu⟩⟩ (fun u hu => List.all_eq_true.1 HON8.out u hu) (by have := HCV.out; have := HP.out; simp only [maxLen]; omega) (by have := HCV.out; have := HP.out; omega) (by have := HT8.out.gB; have := HT8.out.bl.lt; have := hb9.size; omega) ?_
  intro v10 w10 hown10 hg10 hat10
  obtain ⟨A10, c10, rfl⟩ := own_formT hown10
  have hT9 := HT8.out.below hb9
  have hg10' : W9.grownBy w10 b.cv.ownBlock := by rw [HCV.out.2]; exact hg10
  have hbl10 : Blk w10 g 63 (Bd.arr { b with put := p1, ends := eb }) := hT9.bl.grown hg10 (fun e => own_blk_ne (own_belowT HCO.out hb9) hT9.bl (by decide) e.symm)
  have hba10 : Blk w10 a 39 (Ins.arr { i with st := b.stmt } (.slice A6 ma c6) (.slice A7 m c7)) := hS9.2.grown hg10 (fun e => HOF.out.oc (by rw [HCV.out.2]; exact e.symm))
  have hS10 : w10.cell? ⟨g, 0, none⟩ = some (.slice Ac cl cc) ∧ Blk w10 a 39 (Ins.arr { i with st := b.stmt } (.slice A6 ma c6) (.slice A7 m c7)) := ⟨by rw [← HCV.out.2]; exact hbl10.cell 0, hba10⟩
  have hBW4 : B ≤ W4.heap.size := by have := HT8.out.gB; have := HX.out.2.2.2; have := HZ4.out; omega
  have hR10 : BR w10 B { b with put := p1, ends := eb, code := b.code ++ [⟨{ i with st := b.stmt }, .slice A6 ma c6, .slice A7 m c7⟩], cv := .slice A10 (cl + 1) c10 } :=
    BR.push (b := { b with put := p1, ends := eb }) (x := ⟨{ i with st := b.stmt }, .slice A6 ma c6, .slice A7 m c7⟩) hT9.br hg10' (by show w10.ownsRow B 39 22 (.slice A10 (cl + 1) c10) (b.code.length + 1) _; rw [← HCV.out.1]; exact hown10)
      (by have h := own_monoT (own_belowT HR8.out.1 hb9) hBW4; rw [HM.out.2.1] at h; rw [HM.out.2.1]; exact h) (by have h := own_monoT (own_belowT HR8.out.2.1 hb9) hBW4; rw [HM.out.1] at h; rw [HM.out.1]; exact h)
      (fun k hk e => by have h1 := (HR8.out.1.lt k e).1; have h2 := (HB0.out.br.la.lt k hk).2; have := HZ4.out; omega)
      (fun k hk e => by have h1 := (HR8.out.1.lt k e).1; have h2 := (HB0.out.br.be.lt k hk).2; have := HZ4.out; omega)
  have hf10 := hbl10.frozen 0
  have hT10 : BT (w10.setCell ⟨g, 0, none⟩ (.slice A10 (cl + 1) c10)) B g (putB b i (.slice A6 ma c6) (.slice A7 m c7) (.slice A10 (cl + 1) c10)) := by
    have h1 := hbl10.set_ 0 (.slice A10 (cl + 1) c10)
    have h2 := hR10.setCell (i := 0) (hR10.off_blk hbl10) (.slice A10 (cl + 1) c10)
    have e1 : p1 = b.put + 1 := HP.out.1
    have e2 : eb = endsB i.op := HEB.out
    subst e1 e2
    exact ⟨h1, h2, HT8.out.gB⟩
  have HT10 := hide hT10
  have HBB10 := hide (show Below B w (w10.setCell ⟨g, 0, none⟩ (.slice A10 (cl + 1) c10)) from ((HBB8.out.trans (hb9.mono (Nat.le_trans HBw.out.1 HBB8.out.size))).grown hg10 (Nat.le_trans HBw.out.1 (HBB8.out.trans (hb9.mono (Nat.le_trans HBw.out.1 HBB8.out.size))).size) (fun k hk => ((own_belowT HCO.out hb9).lt k hk).1)).setCell (p := ⟨g, 0, none⟩) HBw.out.2.1 _)
  have HKP10 := hide (show Kp g b.cv.ownBlock w (w10.setCell ⟨g, 0, none⟩ (.slice A10 (cl + 1) c10)) from ((HKP8.out.below hb9).grown hg10').set_ 0 _)
  have HFR10 := hide (show ∀ k, (Value.slice A6 ma c6).ownBlock = some k → w.heap.size ≤ k from fun k e => by have := (HR8.out.1.lt k e).1; have := HZ4.out; omega)
  have HSZ10 := hide (show w.heap.size ≤ (w10.setCell ⟨g, 0, none⟩ (.slice A10 (cl + 1) c10)).heap.size by simp; have := hg10.size; have := HR8.out.2.2; have := HZ4.out; omega)
  refine hK.out _ _ (fun _ => hS10) ?_
  clear hK K
  clear hR10 hT10 hBW4 hba10 hbl10 hg10' hT9 hat10 hg10 hown10 hbn hb9 hz9 hW9 hS9
  try simp only [Act.put, List.setIfInBounds_toArray, List.set_cons_zero, List.set_cons_succ]
  refine' wpTail_one (i := 8) (o := _) (by kernel_rfl) ?ho5009 ?hw5009 (fun K hK => ?_)
  case ho5009 => (simp only [List.getElem?_toArray, List.getElem?_cons_succ, List.getElem?_cons_zero]; exact rfl)
  case hw5009 => rfl
  go_simp
  refine hK.out _ _ (fun _ => hS10) ?_
  clear hK K
  try simp only [Act.put, List.setIfInBounds_toArray, List.set_cons_zero, List.set_cons_succ]
  refine' wpTail_one (i := 9) (o := _) (by kernel_rfl) ?ho5010 ?hw5010 (fun K hK => ?_)
  case ho5010 => (simp only [List.getElem?_toArray, List.getElem?_cons_succ, List.getElem?_cons_zero]; exact rfl)
  case hw5010 => rfl
  go_simp
  refine hK.out _ _ (fun _ => hS10) ?_
  clear hK K
  have t10 := hS10.1
  try simp only [Act.put, List.setIfInBounds_toArray, List.set_cons_zero, List.set_cons_succ]
  refine' wpTail_one (i := 10) (o := _) (by kernel_rfl) ?ho5011 ?hw5011 (fun K hK => ?_)
  case ho5011 => (simp only [List.getElem?_toArray, List.getElem?_cons_succ, List.getElem?_cons_zero]; exact rfl)
  case hw5011 => rfl
  go_simp
  refine hK.out _ _ (fun h => absurd rfl h) ?_
  clear hK K
  refine wpTail_done (by kernel_rfl) ?_ _
  try simp only [Act.put, List.setIfInBounds_toArray, List.set_cons_zero, List.set_cons_succ]
  clear hHeld hS10
  go_wp2_with fail
  go_end0
  exact ⟨rfl, _, _, _, HT10.out, HSZ10.out, HBB10.out, HKP10.out, HFR10.out⟩
theorem keepB {g k : Nat} {o : Option Nat} {w w' : World} {T : TypeId} {cs : Array Value} (h : Blk w k T cs) (hk : Kp g o w w') (h1 : k ≠ g) (h2 : o ≠ some k) : Blk w' k T cs :=
  (hk.2 k h.lt h1 h2).trans h
theorem keepO {g B e sz n : Nat} {o : Option Nat} {w w' : World} {v : Value} {xs : List Value} (h : w.ownsRow B e sz v n xs) (hk : Kp g o w w') (hne : ∀ k, v.ownBlock = some k → k ≠ g ∧ o ≠ some k) : w'.ownsRow B e sz v n xs := by
  refine ⟨h.1, ?_⟩
  rcases h.2 with h2 | ⟨q, cap, cur, hv, hB, hh, r⟩
  · exact .inl h2
  · have h3 := hne q (by rw [hv]; rfl)
    exact .inr ⟨q, cap, cur, hv, hB, (hk.2 q (Blk.lt (t := e) (cs := cur) hh) h3.1 h3.2).trans hh, r⟩
/-- A builder stays when a row that isn't its own grows. -/
theorem BT.grownW {w w' : World} {B g : Nat} {b : Bd} {o : Option Nat} (h : BT w B g b) (hg : w.grownBy w' o) (hne : ∀ k, o = some k → k ≠ g ∧ Off b k) : BT w' B g b := by
  cases o with
  | none => exact h.below ⟨hg.os, hg.tape, hg.output, hg.size, fun k hk => hg.block k hk (fun e => by cases e)⟩
  | some k =>
    obtain ⟨h1, h2⟩ := hne k rfl
    exact ⟨h.bl.grown hg (fun e => by injection e with e; exact h1 e.symm), h.br.grown hg h2, h.gB⟩
end Go.Proofs.Ytfdjomkkagommaa
