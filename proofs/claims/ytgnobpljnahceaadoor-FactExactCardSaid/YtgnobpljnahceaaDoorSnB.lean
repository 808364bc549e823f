/- IsWord and IsOp of package scan; conditions: none. -/
import Derived.Test.YtgnobpljnahceaaDoorSnA
namespace Go.Proofs.YtgnobpljnahceaaDoor
open Go.RowKit Go.WideShapes Go.ChangeShapes
set_option linter.unusedVariables false
set_option linter.unusedSimpArgs false
set_option maxRecDepth 100000

/-- The keywords, by their bytes. -/
def words02 : List (List UInt8) := [[98, 114, 101, 97, 107], [99, 97, 115, 101], [99, 104, 97, 110], [99, 111, 110, 115, 116], [99, 111, 110, 116, 105, 110, 117, 101], [100, 101, 102, 97, 117, 108, 116], [100, 101, 102, 101, 114], [101, 108, 115, 101], [102, 97, 108, 108, 116, 104, 114, 111, 117, 103, 104], [102, 111, 114], [102, 117, 110, 99], [103, 111], [103, 111, 116, 111], [105, 102], [105, 109, 112, 111, 114, 116], [112, 97, 99, 107, 97, 103, 101], [114, 97, 110, 103, 101], [114, 101, 116, 117, 114, 110], [115, 101, 108, 101, 99, 116], [115, 116, 114, 117, 99, 116], [115, 119, 105, 116, 99, 104], [116, 121, 112, 101], [118, 97, 114]]
/-- The operators, by their bytes. -/
def ops02 : List (List UInt8) := [[43], [45], [42], [47], [37], [38], [60], [62], [61], [33], [40], [41], [91], [93], [123], [125], [44], [59], [46], [58], [38, 38], [124, 124], [61, 61], [33, 61], [60, 61], [62, 61], [58, 61], [43, 61], [45, 61], [42, 61], [43, 43], [45, 45], [60, 45]]
def isIn (l : List (List UInt8)) (s : ByteArray) : Bool := l.any fun t => s.toList == t

set_option maxHeartbeats 1000000 in
theorem is_word (s : ByteArray) (w : World) : Calls Tryd.prog 86 #[.string s] w fun e w' => e = .returned (.bool (isIn words02 s)) ∧ w = w' := by
  obtain ⟨r, hr⟩ : ∃ r, r = isIn words02 s := ⟨_, rfl⟩
  rw [← hr]
  have HRB := hide hr
  clear hr
  go_enter Tryd.func86, Tryd.ntmps86
  go_wp2_with fail
  all_goals (try (exfalso; simp_all; done))
  all_goals go_ret
  all_goals exact ⟨ret_bS (by rw [HRB.out]; simp only [isIn, words02, List.any_cons, List.any_nil, *, Bool.true_or, Bool.or_true, Bool.or_false, Bool.false_or]), rfl⟩

set_option maxHeartbeats 1000000 in
theorem is_op (s : ByteArray) (w : World) : Calls Tryd.prog 89 #[.string s] w fun e w' => e = .returned (.bool (isIn ops02 s)) ∧ w = w' := by
  obtain ⟨r, hr⟩ : ∃ r, r = isIn ops02 s := ⟨_, rfl⟩
  rw [← hr]
  have HRB := hide hr
  clear hr
  go_enter Tryd.func89, Tryd.ntmps89
  go_wp2_with fail
  all_goals (try (exfalso; simp_all; done))
  all_goals go_ret
  all_goals exact ⟨ret_bS (by rw [HRB.out]; simp only [isIn, ops02, List.any_cons, List.any_nil, *, Bool.true_or, Bool.or_true, Bool.or_false, Bool.false_or]), rfl⟩
end Go.Proofs.YtgnobpljnahceaaDoor
