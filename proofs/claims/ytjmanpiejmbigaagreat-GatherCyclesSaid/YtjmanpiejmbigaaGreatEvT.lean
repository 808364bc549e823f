/- The evaluator's table of types; conditions: none. -/
import Derived.Test.YtjmanpiejmbigaaGreatEvD
import Derived.Test.YtjmanpiejmbigaaGreatChecked
import Derived.KernelRfl
namespace Go.Proofs.YtjmanpiejmbigaaGreat
open Go Go.Ev
set_option linter.unusedVariables false
set_option maxRecDepth 1000000
noncomputable def tb : Tab := ⟨mkTr Tryz.prog.types.toList Ev.P.e G.l, [7, 8, 24, 25, 29, 30, 31, 32, 40, 41, 43, 44, 54, 55, 68, 69, 71, 72, 74, 75, 76, 77, 78, 79, 91, 92, 93, 94, 108, 109, 110, 111, 128, 129, 133, 134, 147, 148, 149, 150, 183, 184, 205, 206, 215, 216, 221, 222], 127⟩
theorem tb_ok : TabOk Tryz.prog tb := tab_ok (P := Tryz.prog) (Nat.le_of_ble_eq_true (by kernel_rfl)) (by kernel_rfl) (Nat.le_of_ble_eq_true (by kernel_rfl))
theorem mixed : Tryz.prog.follows .mixedOrders = true := by kernel_rfl
end Go.Proofs.YtjmanpiejmbigaaGreat
