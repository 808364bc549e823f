/- Swap of package tree; conditions: those that each says. -/
import Derived.Test.YtnphfogepdkpbaaDoorTrT
import Derived.Test.YtnphfogepdkpbaaDoorTrQ
namespace Go.Proofs.YtnphfogepdkpbaaDoor
open Go.RowKit Go.WideShapes Go.ChangeShapes
set_option linter.unusedVariables false
set_option linter.unusedSimpArgs false
set_option maxRecDepth 100000

set_option maxHeartbeats 4000000 in
theorem swap_none (p : Option Addr) (i y : Int) (n0 : Nd) (w : World) (hh : ∀ W : World, Below w.heap.size w W → Calls Tryd.prog 24 #[.pointer p, .int .i64 i] W fun e w' => e = .returned (.bool false) ∧ W = w') :
    Calls Tryd.prog 20 #[.pointer p, .int .i64 i, .int .i64 y, n0.val (.slice none 0 0)] w fun e w' => e = .returned (.tuple #[.pointer none, .int .i64 0]) ∧ Below w.heap.size w w' := by
  obtain ⟨W1, hW1⟩ : ∃ W1, W1 = w.alloc (.cells (n0.arr (.slice none 0 0)) 34) := ⟨_, rfl⟩
  have hbe : Below w.heap.size w W1 := by rw [hW1]; exact (Below.refl _ _).alloc (Nat.le_refl _) _
  have HH := hide (hh W1 hbe)
  have HW1 := hide hW1
  have HBE := hide hbe
  clear hh hW1 hbe
  go_enter Tryd.func20, Tryd.ntmps20
  go_wp2_with fail
  rw [← HW1.out]
  refine HH.out.mono ?_
  rintro e w' ⟨rfl, rfl⟩
  go_wp2_with fail
  go_ret2
  exact ⟨rfl, HBE.out⟩
/-- What stands behind a Swap that gives a tree. -/
def SwP (w : World) (L : List Nd) (y : Nat) (lb : Lab) (i : Nat) (e : Ending) (w' : World) : Prop :=
  ∃ (ub : Nat) (v : Value) (rows : List It), e = .returned (.tuple #[.pointer (some ⟨ub, 0, none⟩), .int .i64 (rows.length : Nat)]) ∧ TO w' w.heap.size ub v rows ∧ Below w.heap.size w w' ∧ rows.length = (Wx L y i).length ∧ S (nds rows) rows.length = Sx L y lb i ∧ RB rows
set_option maxHeartbeats 4000000 in
theorem swap_some (tb : Nat) (L : List Nd) (i y : Nat) (n0 : Nd) (w : World) (hTR : TR w tb L) (hkb : KB L) (htx : TX L) (h1 : 1 ≤ i) (h2 : i ≤ L.length) (hn0 : n0.kids = []) (hnk : 1 ≤ n0.kind ∧ n0.kind ≤ 47) (hnt : n0.text.size ≤ 100000) (hsz : (Wx L y i).length ≤ 65536) :
    Calls Tryd.prog 20 #[.pointer (some ⟨tb, 0, none⟩), .int .i64 (i : Int), .int .i64 (y : Int), n0.val (.slice none 0 0)] w (SwP w L y (labN n0) i) := by
  obtain ⟨a, ha⟩ : ∃ a, a = w.heap.size := ⟨_, rfl⟩
  obtain ⟨W1, hW1⟩ : ∃ W1, W1 = w.alloc (.cells (n0.arr (.slice none 0 0)) 34) := ⟨_, rfl⟩
  have hb1 : Below w.heap.size w W1 := by rw [hW1]; exact (Below.refl _ _).alloc (Nat.le_refl _) _
  have hba : Blk W1 a 34 (n0.arr (.slice none 0 0)) := by rw [hW1, ha]; exact Blk.new _ _ _
  have hTR1 := hTR.below hb1 (Nat.le_refl _)
  have hhas := has_any tb L i W1 hTR1
  have hhb : hasB L (i : Int) = true := by unfold hasB; simp; omega
  rw [hhb] at hhas
  have hkd := is_kind n0.kind W1
  have hkk : (decide (1 ≤ n0.kind) && decide (n0.kind ≤ 47)) = true := by simp; omega
  rw [hkk] at hkd
  have hsw := swapped_any tb L i y W1 hTR1 hkb h1 h2
  obtain ⟨q, hq⟩ : ∃ q, q = min 65537 (Wx L y i).length := ⟨_, rfl⟩
  rw [← hq] at hsw
  have i5 : ((q : Int) == 65537) = false := by rw [beq_eq_false_iff_ne]; omega
  have HHAS := hide hhas
  have HKD := hide hkd
  have HSW := hide hsw
  have HW1 := hide hW1
  have HA := hide ha
  have HBA := hide hba
  have HB1 := hide hb1
  have HTR := hide hTR
  have HIN := hide (And.intro hkb (And.intro htx (And.intro hn0 (And.intro hnk (And.intro hnt (And.intro h1 (And.intro h2 hsz)))))))
  have z0 : W1.cell? ⟨a, 0, none⟩ = some (.int .i64 n0.kind) := hba.cell 0
  clear hTR hkb htx h1 h2 hn0 hnk hnt hsz ha hW1 hb1 hba hTR1 hhas hhb hkd hkk hsw hq
  go_enter Tryd.func20, Tryd.ntmps20
  go_wp2_with fail
  rw [← HW1.out, ← HA.out]
  refine HHAS.out.mono ?_
  rintro e w' ⟨rfl, rfl⟩
  go_wp2_with fail
  refine HKD.out.mono ?_
  rintro e w' ⟨rfl, rfl⟩
  go_wp2_with fail
  refine HSW.out.mono ?_
  rintro e w2 ⟨rfl, hb2⟩
  have hba2 := HBA.out.below hb2 HBA.out.lt
  have c5 : w2.cell? ⟨a, 5, none⟩ = some (.slice none 0 0) := hba2.cell 5
  have f5 := hba2.frozen 5
  have hba3 : Blk (w2.setCell ⟨a, 5, none⟩ (.slice none 0 0)) a 34 (n0.arr (.slice none 0 0)) := hba2.set_ 5 (.slice none 0 0)
  have hb3 : Below w.heap.size w (w2.setCell ⟨a, 5, none⟩ (.slice none 0 0)) := (HB1.out.trans (hb2.mono HB1.out.size)).setCell (p := ⟨a, 5, none⟩) (by show w.heap.size ≤ a; rw [HA.out]; exact Nat.le_refl _) _
  obtain ⟨W3, hW3⟩ : ∃ W3, W3 = w2.setCell ⟨a, 5, none⟩ (.slice none 0 0) := ⟨_, rfl⟩
  rw [← hW3] at hba3 hb3
  have HW3 := hide hW3
  have HNEW := hide (tree_new W3)
  have HBA3 := hide hba3
  have HB3 := hide hb3
  clear hba2 hba3 hb3 hb2 hW3
  go_upto_region 4 with (fail)
  rw [← HW3.out]
  go_wp2_with fail
  refine HNEW.out.mono ?_
  rintro e W4 ⟨rfl, hW4⟩
  have hb4 : Below W3.heap.size W3 W4 := by rw [hW4]; exact (Below.refl _ _).alloc (Nat.le_refl _) _
  have hba4 := HBA3.out.below hb4 HBA3.out.lt
  obtain ⟨ub, hub⟩ : ∃ ub, ub = W3.heap.size := ⟨_, rfl⟩
  rw [← hub]
  have hw3 := HB3.out.size
  have hTO : TO W4 w.heap.size ub (.slice none 0 0) [] := by
    refine ⟨by rw [hW4, hub]; exact Blk.new _ _ _, World.ownsRow_nil _ _ _ _, fun i r hr => by simp at hr, fun i n hn => by simp at hn, Nat.zero_le _, by rw [hub]; exact hw3⟩
  have hbw4 := HB3.out.trans (hb4.mono hw3)
  have HIN5 := hide (into_any tb L y n0 w w.heap.size ub HTR.out HIN.out.1 HIN.out.2.1 (Nat.le_refl _) HIN.out.2.2.1 HIN.out.2.2.2.1 HIN.out.2.2.2.2.1 i i (Nat.le_refl _) HIN.out.2.2.2.2.2.1 HIN.out.2.2.2.2.2.2.1 W4 (.slice none 0 0) [] hbw4 hTO (by simpa using HIN.out.2.2.2.2.2.2.2))
  have x0 : W4.cell? ⟨a, 0, none⟩ = some (.int .i64 n0.kind) := hba4.cell 0
  have x1 : W4.cell? ⟨a, 1, none⟩ = some (.int .i64 n0.f) := hba4.cell 1
  have x2 : W4.cell? ⟨a, 2, none⟩ = some (.int .i64 n0.l) := hba4.cell 2
  have x3 : W4.cell? ⟨a, 3, none⟩ = some (.int .i64 n0.c) := hba4.cell 3
  have x4 : W4.cell? ⟨a, 4, none⟩ = some (.string n0.text) := hba4.cell 4
  have x5 : W4.cell? ⟨a, 5, none⟩ = some (.slice none 0 0) := hba4.cell 5
  have HBW4 := hide hbw4
  clear hW4 hb4 hba4 hub hTO hbw4 c5 f5
  go_wp2_with fail
  refine HIN5.out.mono ?_
  rintro e w5 ⟨v5, new, rfl, hT5, hb5, ho5, hl5, hS5, hR5, hF5⟩
  have HF := hide (show SwP w L y (labN n0) i (.returned (.tuple #[.pointer (some ⟨ub, 0, none⟩), .int .i64 (([] ++ new).length : Nat)])) w5 from ⟨ub, v5, new, rfl, hT5, HBW4.out.trans hb5, hl5, hS5, hR5⟩)
  clear hT5 hb5 ho5 hl5 hS5 hR5 hF5
  go_wp2_with fail
  go_ret2
  exact HF.out
end Go.Proofs.YtnphfogepdkpbaaDoor
