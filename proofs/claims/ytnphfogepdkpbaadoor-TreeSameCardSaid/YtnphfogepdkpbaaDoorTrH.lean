/- Node of package tree; conditions: the tree is in memory. -/
import Derived.Test.YtnphfogepdkpbaaDoorTrG
namespace Go.Proofs.YtnphfogepdkpbaaDoor
open Go.RowKit Go.WideShapes Go.ChangeShapes
set_option linter.unusedVariables false
set_option linter.unusedSimpArgs false
set_option maxRecDepth 100000

theorem node_size : (Tryd.prog.info? 34).map (·.size) = some 6 := by kernel_rfl
theorem node_und : ((Tryd.prog.underlying 34).map fun d => (match d with | .struct _ | .array _ _ => true | _ => false)) = some true := by kernel_rfl
theorem ret_node {fn : Func} {t : Tmp} (hf : fn.results = #[.cell t 34]) {R : Ending → World → Prop} {a : Act} {wf : World} {g : Nat} {n : Nd} {kv : Value} (hp : a.tmps.getD t undef = .pointer (some ⟨g, 0, none⟩)) (hd : a.defers = [])
    (hb : Blk wf g 34 (n.arr kv)) (h : R (.returned (n.val kv)) wf) : bodyPost Tryd.prog fn R .ret a wf := by
  have hu := node_und
  cases hq : Tryd.prog.underlying 34 with
  | none => rw [hq] at hu; cases hu
  | some d =>
    rw [hq] at hu
    exact bodyPost_ret (results_cell_row hf _ _ _ _ _ _ d hp hb hq (by cases d <;> simp_all) node_size) hd h
/-- No node has more parts than that. -/
def KB (L : List Nd) : Prop := ∀ n ∈ L, n.kids.length ≤ 65536
def zeroN : Nd := ⟨0, 0, 0, 0, ⟨#[]⟩, []⟩
/-- The node of a number; nothing. -/
def nodeOf (L : List Nd) (i : Int) : Nd := if hasB L i then (L[i.toNat - 1]?).getD zeroN else zeroN
def NodeP (w : World) (n : Nd) (e : Ending) (w' : World) : Prop := ∃ kv, e = .returned (n.val kv) ∧ IntsAt w' kv n.kids ∧ Below w.heap.size w w'
theorem zero_ints (w : World) : IntsAt w (.slice none 0 0) [] := ⟨none, 0, rfl, Nat.le_refl _, fun i b h => by simp at h⟩
set_option maxHeartbeats 1000000 in
theorem node_none (p : Option Addr) (i : Int) (w : World) (hh : ∀ W : World, Below w.heap.size w W → Calls Tryd.prog 24 #[.pointer p, .int .i64 i] W fun e w' => e = .returned (.bool false) ∧ W = w') :
    Calls Tryd.prog 12 #[.pointer p, .int .i64 i] w (NodeP w zeroN) := by
  have HH := hide hh
  clear hh
  obtain ⟨W1, hW1⟩ : ∃ W1, W1 = w.alloc (.cells #[.int .i64 0, .int .i64 0, .int .i64 0, .int .i64 0, .string ⟨#[]⟩, .slice none 0 0] 34) := ⟨_, rfl⟩
  have hb1 : Blk W1 w.heap.size 34 (zeroN.arr (.slice none 0 0)) := by rw [hW1]; exact Blk.new _ _ _
  have hbe : Below w.heap.size w W1 := by rw [hW1]; exact (Below.refl _ _).alloc (Nat.le_refl _) _
  have HW1 := hide hW1
  have HB1 := hide hb1
  have HBE := hide hbe
  have z0 := hb1.cell 0
  have z1 := hb1.cell 1
  have z2 := hb1.cell 2
  have z3 := hb1.cell 3
  have z4 := hb1.cell 4
  have z5 := hb1.cell 5
  simp [Nd.arr, zeroN] at z0 z1 z2 z3 z4 z5
  have f0 := hb1.frozen 0
  have f1 := hb1.frozen 1
  have f2 := hb1.frozen 2
  have f3 := hb1.frozen 3
  have f4 := hb1.frozen 4
  have f5 := hb1.frozen 5
  clear hW1 hb1 hbe
  go_enter Tryd.func12, Tryd.ntmps12
  go_wp2_with fail
  rw [← HW1.out]
  refine (HH.out W1 HBE.out).mono ?_
  rintro e w' ⟨rfl, rfl⟩
  go_wp2_with fail
  refine ret_node (n := zeroN) (kv := .slice none 0 0) rfl rfl rfl ?_ ⟨_, rfl, zero_ints _, ?_⟩
  · have h := (((((HB1.out.set_ 0 (.int .i64 0)).set_ 1 (.int .i64 0)).set_ 2 (.int .i64 0)).set_ 3 (.int .i64 0)).set_ 4 (.string ⟨#[]⟩)).set_ 5 (.slice none 0 0)
    exact h
  · exact (((((HBE.out.setCell (by simp) _).setCell (by simp) _).setCell (by simp) _).setCell (by simp) _).setCell (by simp) _).setCell (by simp) _
theorem node_nil (i : Int) (w : World) : Calls Tryd.prog 12 #[.pointer none, .int .i64 i] w (NodeP w zeroN) := node_none none i w fun W _ => has_nil i W
set_option maxHeartbeats 2000000 in
theorem node_any (tb : Nat) (L : List Nd) (i : Int) (w : World) (h : TR w tb L) (hkb : KB L) : Calls Tryd.prog 12 #[.pointer (some ⟨tb, 0, none⟩), .int .i64 i] w (NodeP w (nodeOf L i)) := by
  cases hb : hasB L i with
  | false =>
    rw [show nodeOf L i = zeroN by unfold nodeOf; rw [hb]; rfl]
    refine node_none _ i w fun W hW => ?_
    have := has_any tb L i W (h.below hW (Nat.le_refl _))
    rw [hb] at this
    exact this
  | true =>
    obtain ⟨k, n, rfl, hk, hn⟩ := hasB_true hb
    rw [show nodeOf L ((k + 1 : Nat) : Int) = n by unfold nodeOf; rw [hb, if_pos rfl, show ((k + 1 : Nat) : Int).toNat - 1 = k by omega, hn]; rfl]
    obtain ⟨W1, hW1⟩ : ∃ W1, W1 = w.alloc (.cells #[.int .i64 0, .int .i64 0, .int .i64 0, .int .i64 0, .string ⟨#[]⟩, .slice none 0 0] 34) := ⟨_, rfl⟩
    have hb1 : Blk W1 w.heap.size 34 (zeroN.arr (.slice none 0 0)) := by rw [hW1]; exact Blk.new _ _ _
    have hbe : Below w.heap.size w W1 := by rw [hW1]; exact (Below.refl _ _).alloc (Nat.le_refl _) _
    have h1 := h.below hbe (Nat.le_refl _)
    have HH := has_any tb L ((k + 1 : Nat) : Int) W1 h1
    rw [hb] at HH
    have HH := hide HH
    obtain ⟨blk, off, c, kv, tv, ht, hlt, h0, h2, h3, h4, h5, h6, h7, h8, h9, hki, hti⟩ := h1.at_ hn
    have q1 : IntKind.i64.wrap (((k + 1 : Nat) : Int) - 1) = (k : Int) := by rw [show ((k + 1 : Nat) : Int) - 1 = (k : Int) by omega]; exact IntWalk.i64_in _ (by have := h.le; omega)
    obtain ⟨i, hi⟩ : ∃ i : Int, i = ((k + 1 : Nat) : Int) := ⟨_, rfl⟩
    rw [← hi] at q1 HH ⊢
    obtain ⟨m, hm⟩ : ∃ m, m = L.length := ⟨_, rfl⟩
    rw [← hm] at ht
    have j1 : (k : Int) < (m : Int) := by omega
    have j2 : (0 : Int) ≤ (k : Int) := by omega
    obtain ⟨Ak, ck, rfl⟩ := hki.form
    have hkl : n.kids.length ≤ 1000000 := by have := hkb n (List.mem_of_getElem? hn); omega
    have HW1 := hide hW1
    have HB1 := hide hb1
    have HBE := hide hbe
    have hz1 : w.heap.size < W1.heap.size := hb1.lt
    obtain ⟨a, ha⟩ : ∃ a, a = w.heap.size := ⟨_, rfl⟩
    have HA := hide ha
    obtain ⟨b, hbq⟩ : ∃ b, b = W1.heap.size := ⟨_, rfl⟩
    have HBQ := hide hbq
    rw [← ha, ← hbq] at hz1
    obtain ⟨W2, hW2⟩ : ∃ W2, W2 = W1.alloc (.cells (n.arr (.slice Ak n.kids.length ck)) 34) := ⟨_, rfl⟩
    have hb2 : Blk W2 b 34 (n.arr (.slice Ak n.kids.length ck)) := by rw [hW2, hbq]; exact Blk.new _ _ _
    have hb21 : Blk W2 a 34 (zeroN.arr (.slice none 0 0)) := by rw [hW2, ha]; exact hb1.alloc _
    have hbe2 : Below w.heap.size w W2 := by rw [hW2]; exact hbe.alloc hbe.size _
    have HCI := hide (clone_ints _ n.kids W2 (by rw [hW2]; exact hki.below ((Below.refl _ _).alloc (Nat.le_refl _) _) (Nat.le_refl _)) hkl)
    have HB2 := hide hb2
    have HB21 := hide hb21
    have HBE2 := hide hbe2
    have HW2 := hide hW2
    have y5 := hb2.cell 5
    simp [Nd.arr] at y5
    clear hi hW1 hb1 hbe h1 h hkb hn hm hk hb h7 h8 h9 hki hti ha hbq hW2 hb2 hb21 hbe2 hkl
    go_enter Tryd.func12, Tryd.ntmps12
    go_wp2_with fail
    rw [← HW1.out, ← HA.out]
    refine HH.out.mono ?_
    rintro e w' ⟨rfl, rfl⟩
    go_wp2_with fail
    rw [← HW2.out, ← HBQ.out]
    refine HCI.out.mono ?_
    rintro e w3 ⟨kv3, rfl, hown3, hb3⟩
    obtain ⟨A3, c3, hk3⟩ := own_formT hown3
    subst hk3
    have B1 := HB21.out.below hb3 HB21.out.lt
    have B2 := HB2.out.below hb3 HB2.out.lt
    have hne : a ≠ b := by omega
    have B22 := B2.set_ 5 (.slice A3 n.kids.length c3)
    have B12 := B1.far (p := ⟨b, 5, none⟩) hne (.slice A3 n.kids.length c3)
    have hbz : Below w.heap.size w (w3.setCell ⟨b, 5, none⟩ (.slice A3 n.kids.length c3)) := (HBE2.out.trans (hb3.mono HBE2.out.size)).setCell (p := ⟨b, 5, none⟩) (by have := HA.out; show w.heap.size ≤ b; omega) (.slice A3 n.kids.length c3)
    have hoz : (w3.setCell ⟨b, 5, none⟩ (.slice A3 n.kids.length c3)).ownsRow W2.heap.size 3 1 (.slice A3 n.kids.length c3) n.kids.length (n.kids.map (Value.int .i64)) := ownsRow_setCell_other (a := ⟨b, 5, none⟩) hown3 (fun e => by have h1 : W2.heap.size ≤ b := (hown3.lt _ e).1; have := HB2.out.lt; omega) (.slice A3 n.kids.length c3)
    have z5 := B2.cell 5
    have f5 := B2.frozen 5
    simp [Nd.arr] at z5
    obtain ⟨W4, hW4⟩ : ∃ W4, W4 = w3.setCell ⟨b, 5, none⟩ (.slice A3 n.kids.length c3) := ⟨_, rfl⟩
    rw [← hW4] at B22 B12 hbz hoz
    have HW4 := hide hW4
    have HBZ := hide hbz
    have HOZ := hide hoz
    have HB22 := hide B22
    have HB12 := hide B12
    clear hown3 hb3 B1 B2 hbz hoz hW4 B22 B12 y5
    go_upto_region 5 with (fail)
    rw [← HW4.out]
    have y0 := HB22.out.cell 0
    have y1 := HB22.out.cell 1
    have y2 := HB22.out.cell 2
    have y3 := HB22.out.cell 3
    have y4 := HB22.out.cell 4
    have y5 := HB22.out.cell 5
    simp [Nd.arr] at y0 y1 y2 y3 y4 y5
    have z0 := HB12.out.cell 0
    have z1 := HB12.out.cell 1
    have z2 := HB12.out.cell 2
    have z3 := HB12.out.cell 3
    have z4 := HB12.out.cell 4
    have z5 := HB12.out.cell 5
    simp [Nd.arr, zeroN] at z0 z1 z2 z3 z4 z5
    have f0 := HB12.out.frozen 0
    have f1 := HB12.out.frozen 1
    have f2 := HB12.out.frozen 2
    have f3 := HB12.out.frozen 3
    have f4 := HB12.out.frozen 4
    have f5 := HB12.out.frozen 5
    go_wp2_with fail
    have hF := (((((HB12.out.set_ 0 (.int .i64 n.kind)).set_ 1 (.int .i64 n.f)).set_ 2 (.int .i64 n.l)).set_ 3 (.int .i64 n.c)).set_ 4 (.string n.text)).set_ 5 (.slice A3 n.kids.length c3)
    have hg : w.heap.size ≤ a := by have := HA.out; omega
    have hBF := (((((HBZ.out.setCell (p := ⟨a, 0, none⟩) hg (.int .i64 n.kind)).setCell (p := ⟨a, 1, none⟩) hg (.int .i64 n.f)).setCell (p := ⟨a, 2, none⟩) hg (.int .i64 n.l)).setCell (p := ⟨a, 3, none⟩) hg (.int .i64 n.c)).setCell (p := ⟨a, 4, none⟩) hg (.string n.text)).setCell (p := ⟨a, 5, none⟩) hg (.slice A3 n.kids.length c3)
    have hs : ∀ (W : World) (j : Nat) (u : Value), W.ownsRow W2.heap.size 3 1 (.slice A3 n.kids.length c3) n.kids.length (n.kids.map (Value.int .i64)) → (W.setCell ⟨a, j, none⟩ u).ownsRow W2.heap.size 3 1 (.slice A3 n.kids.length c3) n.kids.length (n.kids.map (Value.int .i64)) := fun W j u hW => ownsRow_setCell_other (a := ⟨a, j, none⟩) hW (fun e => by have h1 : W2.heap.size ≤ a := (hW.lt _ e).1; have := HB21.out.lt; omega) u
    have hOF := hs _ 5 (.slice A3 n.kids.length c3) (hs _ 4 (.string n.text) (hs _ 3 (.int .i64 n.c) (hs _ 2 (.int .i64 n.l) (hs _ 1 (.int .i64 n.f) (hs _ 0 (.int .i64 n.kind) HOZ.out)))))
    exact ret_node (n := n) (kv := .slice A3 n.kids.length c3) rfl rfl rfl hF ⟨_, rfl, IntsAt.own hOF, hBF⟩
end Go.Proofs.YtnphfogepdkpbaaDoor
