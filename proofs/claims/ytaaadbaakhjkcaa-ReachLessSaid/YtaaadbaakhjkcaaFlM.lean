/- Whither blocks go, as mathematics; no conditions. -/
import Derived.Test.YtaaadbaakhjkcaaFlK
namespace Go.Proofs.Ytaaadbaakhjkcaa
open Go.RowKit Go.WideShapes Go.ChangeShapes
set_option linter.unusedVariables false
set_option linter.unusedSimpArgs false
set_option maxRecDepth 100000

/-- The blocks with which a block goes on: those of whither its last instruction goes on. -/
def nxB (code : List IV) (B : Nat → Bool) (k : Nat) : List Nat := match (bls B code.length)[k]? with
  | some x => (match code[x.2 - 1]? with
    | some y => (nextI y.i ((x.2 - 1 : Nat) : Int)).map (fun q => atB B q.toNat)
    | none => [])
  | none => []
theorem nxB_eq {code : List IV} {B : Nat → Bool} {k : Nat} {x : Nat × Nat} {y : IV} (hx : (bls B code.length)[k]? = some x) (hy : code[x.2 - 1]? = some y) : nxB code B k = (nextI y.i ((x.2 - 1 : Nat) : Int)).map (fun q => atB B q.toNat) := by
  unfold nxB
  rw [hx]
  show (match code[x.2 - 1]? with | some y => _ | none => _) = _
  rw [hy]
theorem nxB_lt {p : Pr} {hs : List Bool} {code : List IV} {ns : Nat} (hg : goodP p hs code ns = true) {B : Nat → Bool} (h0 : B 0 = true) (k : Nat) : ∀ y ∈ nxB code B k, y < (bls B code.length).length := by
  intro y hy
  unfold nxB at hy
  split at hy
  · rename_i x hx
    split at hy
    · rename_i z hz
      obtain ⟨q, hq, rfl⟩ := List.mem_map.1 hy
      have := edge_in hg hz q hq
      exact at_lt h0 (by omega)
    · cases hy
  · cases hy
theorem nxB_len {code : List IV} (hl : ∀ x ∈ code, x.i.arms.length ≤ 100 ∧ x.i.args.length ≤ 100) (B : Nat → Bool) (k : Nat) : (nxB code B k).length ≤ 102 := by
  unfold nxB
  split
  · rename_i x hx
    split
    · rename_i z hz
      rw [List.length_map]
      have := nextI_len z.i ((x.2 - 1 : Nat) : Int)
      have := (hl z (List.mem_of_getElem? hz)).1
      omega
    · simp
  · simp
end Go.Proofs.Ytaaadbaakhjkcaa
