/- One round of lattice.Join's loop keeps the relation. -/
import Derived.Test.YtoaajblkbbfikaaLatJoin
namespace Go.Proofs.Ytoaajblkbbfikaa
open Go.RowKit Go.WideShapes Go.ChangeShapes
set_option linter.unusedVariables false
set_option maxRecDepth 100000

theorem JoinRel.drewN {W4 wr : World} {o n : Nat} {zs : List Int} {i : Value} (h : JoinRel W4 o n zs i wr) (q : Nat) : JoinRel W4 o n zs i (wr.drewN q) := by
  obtain ⟨k, A, c, hk, hi, hb, hr, hl⟩ := h
  exact ⟨k, A, c, hk, hi, hb.drewN q, hr, ⟨hl.os, hl.tape, hl.output, hl.size, hl.block⟩⟩
theorem JoinRel.drew {W4 wr : World} {o n : Nat} {zs : List Int} {i : Value} (h : JoinRel W4 o n zs i wr) : JoinRel W4 o n zs i wr.drew := by
  obtain ⟨k, A, c, hk, hi, hb, hr, hl⟩ := h
  exact ⟨k, A, c, hk, hi, hb.drew, hr.drew, hl.drew⟩

theorem join_step {W4 wr wb w1 : World} {o n k c2 c1 : Nat} {A2 A1 : Option Addr} {z : Int} {zs : List Int} (hk : k < n) (hz : zs[k]? = some z)
    (hbl : Below o W4 wr) (hlw : o + 1 ≤ wr.heap.size) (hbe : Blk wb o 103 #[.bool true, .slice A2 k c2]) (hown : wr.ownsRow (o + 1) 3 1 (.slice A2 k c2) k ((zs.take k).map (Value.int .i64)))
    (hb : Below o wr wb) (hbs : wr.heap.size ≤ wb.heap.size) (hg : wb.grownBy w1 (Value.ownBlock (.slice A2 k c2)))
    (hown1 : w1.ownsRow (o + 1) 3 1 (.slice A1 (k + 1) c1) (k + 1) ((zs.take k).map (Value.int .i64) ++ [.int .i64 z])) (i : Value) (hi : i = .int .i64 (k + 1 : Nat)) :
    JoinRel W4 o n zs i (w1.setCell ⟨o, 1, none⟩ (.slice A1 (k + 1) c1)) := by
  have hne : Value.ownBlock (.slice A2 k c2) ≠ some o := fun e => by have := (hown.lt o e).1; omega
  have hne1 : Value.ownBlock (.slice A1 (k + 1) c1) ≠ some o := fun e => by have := (hown1.lt o e).1; omega
  refine ⟨k + 1, A1, c1, hk, hi, ?_, ?_, ?_⟩
  · have h := (hbe.grown hg (fun e => hne e.symm)).set_ 1 (.slice A1 (k + 1) c1)
    simpa using h
  · have h := ownsRow_setCell_other hown1 (a := ⟨o, 1, none⟩) hne1 (.slice A1 (k + 1) c1)
    have hl := List.getElem?_eq_some_iff.1 hz
    rw [List.take_succ_eq_append_getElem hl.1, hl.2, List.map_append]
    exact h
  · exact ((hbl.trans hb).grown hg (by omega) (fun g e => by have := (hown.lt g e).1; omega)).setCell (Nat.le_refl _) _

end Go.Proofs.Ytoaajblkbbfikaa
