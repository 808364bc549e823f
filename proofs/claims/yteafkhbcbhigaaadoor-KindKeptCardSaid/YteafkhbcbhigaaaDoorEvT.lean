/- The evaluator's table of types; conditions: none. -/
import Derived.Test.YteafkhbcbhigaaaDoorEvD
import Derived.Test.YteafkhbcbhigaaaDoorChecked
import Derived.KernelRfl
namespace Go.Proofs.YteafkhbcbhigaaaDoor
open Go Go.Ev
set_option linter.unusedVariables false
set_option maxRecDepth 1000000
noncomputable def tb : Tab := ⟨mkTr Tryd.prog.types.toList Ev.P.e G.l, [7, 8, 35, 36, 45, 46, 48, 49, 55, 56, 67, 68], 0⟩
theorem tb_ok : TabOk Tryd.prog tb := tab_ok (P := Tryd.prog) (Nat.le_of_ble_eq_true (by kernel_rfl)) (by kernel_rfl) (Nat.le_of_ble_eq_true (by kernel_rfl))
theorem mixed : Tryd.prog.follows .mixedOrders = true := by kernel_rfl
end Go.Proofs.YteafkhbcbhigaaaDoor
