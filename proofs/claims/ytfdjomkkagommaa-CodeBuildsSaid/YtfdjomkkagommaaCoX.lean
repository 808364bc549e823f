/- What the fixed instructions of awake read, and where they go on; no conditions. -/
import Derived.Test.YtfdjomkkagommaaCoW
namespace Go.Proofs.Ytfdjomkkagommaa
open Go.RowKit Go.WideShapes Go.ChangeShapes
set_option linter.unusedVariables false
set_option linter.unusedSimpArgs false
set_option maxRecDepth 100000

def iStore : Ins := { op := 12, d := 0, a := 1, b := 4, n := 2, m := 0, s := ⟨#[]⟩, vk := 0, vn := 0, vm := 0, vc := 0, vs := ⟨#[]⟩, args := [], t := 0, to_ := 0, arms := [], st := 0, f := 0, l := 0, c := 0, obj := 0, use := 0 }
def iIf : Ins := { op := 20, d := 0, a := 0, b := 0, n := 0, m := 0, s := ⟨#[]⟩, vk := 0, vn := 0, vm := 0, vc := 0, vs := ⟨#[]⟩, args := [], t := 0, to_ := 3, arms := [], st := 0, f := 0, l := 0, c := 0, obj := 0, use := 0 }
def iPut : Ins := { op := 1, d := 0, a := 0, b := 0, n := 0, m := 0, s := ⟨#[]⟩, vk := 0, vn := 0, vm := 0, vc := 0, vs := ⟨#[]⟩, args := [], t := 0, to_ := 0, arms := [], st := -1, f := 0, l := 0, c := 0, obj := 0, use := 0 }
def iRet : Ins := { op := 23, d := 0, a := 0, b := 0, n := 0, m := 0, s := ⟨#[]⟩, vk := 0, vn := 0, vm := 0, vc := 0, vs := ⟨#[]⟩, args := [0], t := 0, to_ := 0, arms := [], st := -1, f := 0, l := 0, c := 0, obj := 0, use := 0 }
def iRet0 : Ins := { op := 23, d := 0, a := 0, b := 0, n := 0, m := 0, s := ⟨#[]⟩, vk := 0, vn := 0, vm := 0, vc := 0, vs := ⟨#[]⟩, args := [], t := 0, to_ := 0, arms := [], st := 0, f := 0, l := 0, c := 0, obj := 0, use := 0 }
theorem reads_store : regsL (readS iStore) = [1, 4, 5] := by decide
theorem sort_sorted (l : List Int) (h : l.Pairwise (· ≤ ·)) : sortI l = l := by
  unfold sortI
  exact List.mergeSort_of_pairwise (by simpa using h)
theorem next_if : nextI iIf 7 = [3, 8] := by
  have h : dest iIf 7 = [3, 8] := by decide
  unfold nextI
  rw [h, sort_sorted _ (by simp)]
  rfl
theorem next_put : nextI iPut 0 = [1] := by
  have h : dest iPut 0 = [1] := by decide
  unfold nextI
  rw [h, sort_sorted _ (by simp)]
  rfl
theorem next_ret (pc : Int) : nextI iRet pc = [] := by
  have h : dest iRet pc = [] := by unfold dest; rfl
  unfold nextI
  rw [h, sort_sorted _ (by simp)]
  rfl
theorem ends_ret : endsB iRet.op = true := by decide
theorem ends_ret0 : endsB iRet0.op = true := by decide
theorem meant_ret0 : meantI iRet0 = [] := by decide
end Go.Proofs.Ytfdjomkkagommaa
