/- Package wide: Quo, Rem of any numbers; conditions: none but that numbers are of 128 bits. -/
import Derived.Test.YtgleldpdelhhhaaDoorWideQ
import Derived.Test.YtgleldpdelhhhaaDoorWideR
import Derived.Test.YtgleldpdelhhhaaDoorWide8
namespace Go.Proofs.YtgleldpdelhhhaaDoor
open Go.RowKit Go.WideShapes Go.ChangeShapes
set_option linter.unusedVariables false
set_option maxRecDepth 100000

/-- What an answer's number is, and its error. -/
def valW (z : Int) : Int := if Fits z then z else 0
def errW (z : Int) : Int := if Fits z then 0 else 10
theorem ansW_val (z : Int) : ansW z = .tuple #[wv (hiW (valW z)) (loW (valW z)), .int .i64 (errW z)] := by
  unfold ansW valW errW; split <;> rfl
theorem valW_fits (z : Int) : Fits (valW z) := by unfold valW; split; assumption; exact fits_zero
theorem valW_yes {z : Int} (h : Fits z) : valW z = z ∧ errW z = 0 := by unfold valW errW; rw [if_pos h, if_pos h]; exact ⟨rfl, rfl⟩
theorem valW_no {z : Int} (h : ¬ Fits z) : valW z = 0 ∧ errW z = 10 := by unfold valW errW; rw [if_neg h, if_neg h]; exact ⟨rfl, rfl⟩

theorem quo_any {x y : Int} (hx : Fits x) (hy : Fits y) (h0 : y ≠ 0) (w : World) :
    Calls Tryd.prog 46 #[wv (hiW x) (loW x), wv (hiW y) (loW y)] w fun e w' => e = .returned (ansW (quoW x y)) ∧ Below w.heap.size w w' := by
  have hsg := fun W => signed_any (absW x / absW y) (xorB (decide (x < 0)) (decide (y < 0))) (quo_big hx h0) W
  have e : (if xorB (decide (x < 0)) (decide (y < 0)) = true then -(absW x / absW y) else absW x / absW y) = quoW x y := rfl
  rw [e, ansW_val] at hsg
  rw [ansW_val]
  exact quo_walk x y (hiW x) (loW x) (hiW y) (loW y) _ _ _ _ _ _ _ (decide (x < 0)) (decide (y < 0)) _ rfl (fun h => h0 ((zero_iff hy).1 h)) (hide (size_fit hx)) (hide (size_fit hy))
    (hide (fun W => parts_any (absW x) (absW y) (absW_big hx) (absW_big hy) (absW_pos h0) W)) (hide (below_fit hx)) (hide (below_fit hy)) (hide hsg) w
theorem rem_any {x y : Int} (hx : Fits x) (hy : Fits y) (h0 : y ≠ 0) (w : World) :
    Calls Tryd.prog 47 #[wv (hiW x) (loW x), wv (hiW y) (loW y)] w fun e w' => e = .returned (ansW (remW x y)) ∧ Below w.heap.size w w' := by
  have hsg := fun W => signed_any (absW x % absW y) (decide (x < 0)) (rem_big hy h0) W
  have e : (if decide (x < 0) = true then -(absW x % absW y) else absW x % absW y) = remW x y := rfl
  rw [e, ansW_val] at hsg
  rw [ansW_val]
  exact rem_walk x y (hiW x) (loW x) (hiW y) (loW y) _ _ _ _ _ _ _ (decide (x < 0)) (decide (y < 0)) _ rfl (fun h => h0 ((zero_iff hy).1 h)) (hide (size_fit hx)) (hide (size_fit hy))
    (hide (fun W => parts_any (absW x) (absW y) (absW_big hx) (absW_big hy) (absW_pos h0) W)) (hide (below_fit hx)) (hide (below_fit hy)) (hide hsg) w
theorem quo_zero (xh xl : Int) (w : World) :
    Calls Tryd.prog 46 #[wv xh xl, wv 0 0] w fun e w' => e = .returned (.tuple #[wv 0 0, .int .i64 10]) ∧ Below w.heap.size w w' := by
  go_enter Tryd.func46, Tryd.ntmps46
  go_wp2_with fail
  exact ret_wt (v := .int .i64 10) rfl rfl rfl rfl (blk_new3 _ _ _ _) ⟨rfl, below3 _ _ _ _⟩
theorem rem_zero (xh xl : Int) (w : World) :
    Calls Tryd.prog 47 #[wv xh xl, wv 0 0] w fun e w' => e = .returned (.tuple #[wv 0 0, .int .i64 10]) ∧ Below w.heap.size w w' := by
  go_enter Tryd.func47, Tryd.ntmps47
  go_wp2_with fail
  exact ret_wt (v := .int .i64 10) rfl rfl rfl rfl (blk_new3 _ _ _ _) ⟨rfl, below3 _ _ _ _⟩
end Go.Proofs.YtgleldpdelhhhaaDoor
