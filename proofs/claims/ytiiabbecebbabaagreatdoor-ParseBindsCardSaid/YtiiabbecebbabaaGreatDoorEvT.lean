/- The evaluator's table of types; conditions: none. -/
import Derived.Test.YtiiabbecebbabaaGreatDoorEvD
import Derived.Test.YtiiabbecebbabaaGreatDoorChecked
import Derived.KernelRfl
namespace Go.Proofs.YtiiabbecebbabaaGreatDoor
open Go Go.Ev
set_option linter.unusedVariables false
set_option maxRecDepth 1000000
noncomputable def tb : Tab := ⟨mkTr Tryz.prog.types.toList Ev.P.e G.l, [7, 8, 28, 29, 31, 32, 38, 39, 43, 44, 46, 47, 62, 63, 68, 69, 70, 71, 102, 103, 133, 134, 146, 147, 154, 155], 62⟩
theorem tb_ok : TabOk Tryz.prog tb := tab_ok (P := Tryz.prog) (Nat.le_of_ble_eq_true (by kernel_rfl)) (by kernel_rfl) (Nat.le_of_ble_eq_true (by kernel_rfl))
theorem mixed : Tryz.prog.follows .mixedOrders = true := by kernel_rfl
end Go.Proofs.YtiiabbecebbabaaGreatDoor
