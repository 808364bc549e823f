/- Package wide: Quo, Rem; conditions: none but that numbers are of 64 bits. -/
import Derived.Test.YtgleldpdelhhhaaDoorWide5
namespace Go.Proofs.YtgleldpdelhhhaaDoor
open Go.RowKit Go.WideShapes Go.ChangeShapes
set_option linter.unusedVariables false
set_option maxRecDepth 100000

theorem WB.argsM {w W : World} {gs : List (Nat × Int × Int)} {s k : Nat} {xh xl yh yl : Int} (h : Hid (WB w gs W)) (h1 : (s, xh, xl) ∈ gs) (h2 : (k, yh, yl) ∈ gs) :
    W.cell? ⟨s, 0, none⟩ = some (.int .u64 xh) ∧ W.cell? ⟨s, 1, none⟩ = some (.int .u64 xl) ∧ W.cell? ⟨k, 0, none⟩ = some (.int .u64 yh) ∧ W.cell? ⟨k, 1, none⟩ = some (.int .u64 yl) :=
  ⟨(WB.at_ h h1).cell 0, (WB.at_ h h1).cell 1, (WB.at_ h h2).cell 0, (WB.at_ h h2).cell 1⟩
theorem WB.drop2 {w W : World} {gs : List (Nat × Int × Int)} {p q : Nat × Int × Int} (h : Hid (WB w (p :: q :: gs) W)) : Hid (WB w (p :: gs) W) := by
  have h1 := List.pairwise_cons.1 h.out.ord
  have h2 := List.pairwise_cons.1 h1.2
  refine hide ⟨fun r hr => ?_, h.out.low, fun r hr => ?_, List.pairwise_cons.2 ⟨fun r hr => h1.1 r (List.mem_cons_of_mem _ hr), h2.2⟩⟩
  · rcases List.mem_cons.1 hr with rfl | hr
    · exact h.out.bl _ List.mem_cons_self
    · exact h.out.bl r (List.mem_cons_of_mem _ (List.mem_cons_of_mem _ hr))
  · rcases List.mem_cons.1 hr with rfl | hr
    · exact h.out.base _ List.mem_cons_self
    · exact h.out.base r (List.mem_cons_of_mem _ (List.mem_cons_of_mem _ hr))
theorem size_alloc1 (W : World) (o : Obj) : (W.alloc o).heap.size = W.heap.size + 1 := by simp
theorem size_drew1 (W : World) : W.drew.heap.size = W.heap.size := rfl
theorem WB.head2 {w W : World} {gs : List (Nat × Int × Int)} {g k : Nat} {a b c d : Int} (h : Hid (WB w ((g, a, b) :: (k, c, d) :: gs) W)) : W.cell? ⟨k, 0, none⟩ = some (.int .u64 c) ∧ W.cell? ⟨k, 1, none⟩ = some (.int .u64 d) ∧ W.frozen? ⟨k, 0, none⟩ = false ∧ W.frozen? ⟨k, 1, none⟩ = false :=
  two_cells (WB.at_ h (by simp))
theorem WB.lt1 {w W : World} {gs : List (Nat × Int × Int)} {g : Nat} {a b : Int} (h : Hid (WB w ((g, a, b) :: gs) W)) : g < W.heap.size := (WB.at_ h List.mem_cons_self).lt
theorem WB.lt12 {w W : World} {gs : List (Nat × Int × Int)} {g k : Nat} {a b c d : Int} (h : Hid (WB w ((g, a, b) :: (k, c, d) :: gs) W)) : k < g ∧ ¬ k = g ∧ ¬ g = k := by
  have := (List.pairwise_cons.1 h.out.ord).1 (k, c, d) List.mem_cons_self
  simp at this
  omega
theorem WB.lt2 {w W : World} {gs : List (Nat × Int × Int)} {g k : Nat} {a b c d : Int} (h : Hid (WB w ((g, a, b) :: (k, c, d) :: gs) W)) : k < W.heap.size := (WB.at_ h (g := k) (a := c) (b := d) (by simp)).lt
end Go.Proofs.YtgleldpdelhhhaaDoor
