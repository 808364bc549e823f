/- What WideExact's alike answers of an answer that is the document's; conditions: the digits' cells are in memory. -/
import Derived.Test.YthedfplafcfklaaDoorDigC
namespace Go.Proofs.YthedfplafcfklaaDoor
open Go.RowKit Go.WideShapes Go.ChangeShapes
set_option linter.unusedVariables false
set_option maxRecDepth 100000

set_option maxHeartbeats 8000000 in
theorem alike_true {w : World} {n c : Nat} {A : Option Addr} (z : Int) {p q er : Int} {s : Bool} (hz : ansW z = .tuple #[wv p q, .int .i64 er]) (hs : s = decide (z < 0)) (h : Dg w A n (dgs z.natAbs)) (hn : n ≤ 400) (hc : n ≤ c) :
    Calls Tryd.prog 16 #[wv p q, .int .i64 er, .agg #[.bool s, .slice A n c]] w fun e w' => e = .returned (.bool true) ∧ Below w.heap.size w w' := by
  have HAN := hide (fun (W : World) (hb : Below w.heap.size w W) => (show Calls Tryd.prog 40 #[.agg #[.bool s, .slice A n c]] W fun e w' => e = .returned (.tuple #[wv p q, .int .i64 er]) ∧ Below W.heap.size W w' from by rw [← hz, hs]; exact ref_answer z (h.below hb) hn hc))
  have HB := NB.add 28 #[.bool s, .slice A n c] (NB.add 24 #[.int .u64 p, .int .u64 q] (NB.nil w))
  clear h hs hz
  go_enter Tryd.func16, Tryd.ntmps16
  go_upto_region 1 with (fail)
  obtain ⟨W, hW⟩ : ∃ W : World, W = ((w.alloc (.cells #[.int .u64 p, .int .u64 q] 24)).alloc (.cells #[.bool s, .slice A n c] 28)) := ⟨_, rfl⟩
  obtain ⟨g0, hg0⟩ : ∃ g, g = w.heap.size := ⟨_, rfl⟩
  obtain ⟨g1, hg1⟩ : ∃ g, g = (w.alloc (.cells #[.int .u64 p, .int .u64 q] 24)).heap.size := ⟨_, rfl⟩
  have hg1' : w.heap.size + 1 = g1 := by rw [hg1]; simp
  rw [← hW] at HB ⊢
  rw [← hg1, ← hg0] at HB
  try rw [hg1']
  try rw [← hg0]
  obtain ⟨c0, c1, e0, e1⟩ := two_cellsN (NB.at_ HB (.head _))
  clear hW hg0 hg1 hg1'
  go_wp2_with fail
  refine (HAN.out _ HB.out.low).mono ?_
  rintro e w1 ⟨rfl, hb1⟩
  have HB1 := NB.next hb1 HB
  have HB2 := NB.add 24 #[.int .u64 p, .int .u64 q] HB1
  obtain ⟨d0, d1, f0, f1⟩ := two_cellsN (NB.at_ HB2 (.tail _ (.tail _ (.head _))))
  obtain ⟨z0, z1, y0, y1⟩ := two_cellsN (NB.at_ HB2 (.head _))
  clear hb1
  go_wp2_with fail
  go_ret
  exact ⟨rfl, HB2.out.low⟩
end Go.Proofs.YthedfplafcfklaaDoor
