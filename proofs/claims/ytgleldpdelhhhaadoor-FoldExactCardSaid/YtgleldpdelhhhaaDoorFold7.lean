/- What layer 8's + makes of two texts, and of two truths; conditions: texts of at most 2^10 bytes. -/
import Derived.Test.YtgleldpdelhhhaaDoorFold6
namespace Go.Proofs.YtgleldpdelhhhaaDoor
open Go.RowKit Go.WideShapes Go.ChangeShapes
set_option linter.unusedVariables false
set_option maxRecDepth 100000

theorem texts_plus (a b : ByteArray) (ha : (a.size : Int) ≤ 1024) (hb : (b.size : Int) ≤ 1024) (w : World) :
    Calls Tryd.prog 30 #[.string ⟨#[43]⟩, .string a, .string b] w fun e w' => e = .returned (.tuple #[kon 3 0 0 false (a ++ b) , .int .i64 0]) ∧ Below w.heap.size w w' := by
  have HM := CB.add 26 kon0 (CB.nil w)
  have hl : ((a.size : Int) + (b.size : Int)) ≤ 65536 := by omega
  go_enter Tryd.func30, Tryd.ntmps30
  go_wp2_with fail
  refine (text_any _ _).mono ?_
  rintro e w1 ⟨rfl, hb1⟩
  have M1 := CB.next hb1 HM
  obtain ⟨d0, d1, d2, d3, d4, f0, f1, f2, f3, f4⟩ := five_cells (CB.at_ M1 (.head _))
  clear hb1
  go_wp2_with fail
  exact ret_kt (v := .int .i64 0) rfl rfl rfl rfl (set_five (CB.at_ M1 (.head _)) _ _ _ _ _) ⟨rfl, below_set5 M1.out.low (by omega) _ _ _ _ _⟩

theorem truths_plus (x y : Bool) (w : World) : Calls Tryd.prog 29 #[.string ⟨#[43]⟩, .bool x, .bool y] w fun e w' => e = .returned (.tuple #[kon 0 0 0 false ⟨#[]⟩, .int .i64 9]) ∧ Below w.heap.size w w' := by
  have HM := CB.add 26 kon0 (CB.nil w)
  go_enter Tryd.func29, Tryd.ntmps29
  go_wp2_with fail
  refine (none_any _ _).mono ?_
  rintro e w1 ⟨rfl, hb1⟩
  have M1 := CB.next hb1 HM
  obtain ⟨d0, d1, d2, d3, d4, f0, f1, f2, f3, f4⟩ := five_cells (CB.at_ M1 (.head _))
  clear hb1
  go_wp2_with fail
  exact ret_kt (v := .int .i64 9) rfl rfl rfl rfl (set_five (CB.at_ M1 (.head _)) _ _ _ _ _) ⟨rfl, below_set5 M1.out.low (by omega) _ _ _ _ _⟩
end Go.Proofs.YtgleldpdelhhhaaDoor
