/- What layer 8's Binary answers of any two kinds; no conditions. -/
import Derived.Test.YtgleldpdelhhhaaDoorFold4
namespace Go.Proofs.YtgleldpdelhhhaaDoor
open Go.RowKit Go.WideShapes Go.ChangeShapes
set_option linter.unusedVariables false
set_option maxRecDepth 100000

theorem binary_num_to (op : ByteArray) (x y : Bool) (h l h' l' k p q er : Int) (s s' : ByteArray) (c : Bool) (t : ByteArray) (HN : Hid (∀ W, Calls Tryd.prog 28 #[.string op, wv h l, wv h' l'] W fun e w' => e = .returned (.tuple #[kon k p q c t, .int .i64 er]) ∧ Below W.heap.size W w')) (w : World) :
    Calls Tryd.prog 11 #[.string op, kon 1 h l x s, kon 1 h' l' y s'] w fun e w' => e = .returned (.tuple #[kon k p q c t, .int .i64 er]) ∧ Below w.heap.size w w' := by
  have HM := cb3 w 26 26 26 (konA 1 h l x s) (konA 1 h' l' y s') kon0
  go_enter Tryd.func11, Tryd.ntmps11
  go_wp2_with fail
  refine (HN.out _).mono ?_
  rintro e w1 ⟨rfl, hb1⟩
  have M1 := CB.next hb1 HM
  obtain ⟨d0, d1, d2, d3, d4, f0, f1, f2, f3, f4⟩ := five_cells (CB.at_ M1 (.head _))
  clear hb1
  go_wp2_with fail
  exact ret_kt (v := .int .i64 er) rfl rfl rfl rfl (set_five (CB.at_ M1 (.head _)) _ _ _ _ _) ⟨rfl, below_set5 M1.out.low (by omega) _ _ _ _ _⟩

theorem binary_bool_to (op : ByteArray) (x y : Bool) (h l h' l' k p q er : Int) (s s' : ByteArray) (c : Bool) (t : ByteArray) (HN : Hid (∀ W, Calls Tryd.prog 29 #[.string op, .bool x, .bool y] W fun e w' => e = .returned (.tuple #[kon k p q c t, .int .i64 er]) ∧ Below W.heap.size W w')) (w : World) :
    Calls Tryd.prog 11 #[.string op, kon 2 h l x s, kon 2 h' l' y s'] w fun e w' => e = .returned (.tuple #[kon k p q c t, .int .i64 er]) ∧ Below w.heap.size w w' := by
  have HM := cb3 w 26 26 26 (konA 2 h l x s) (konA 2 h' l' y s') kon0
  go_enter Tryd.func11, Tryd.ntmps11
  go_wp2_with fail
  refine (HN.out _).mono ?_
  rintro e w1 ⟨rfl, hb1⟩
  have M1 := CB.next hb1 HM
  obtain ⟨d0, d1, d2, d3, d4, f0, f1, f2, f3, f4⟩ := five_cells (CB.at_ M1 (.head _))
  clear hb1
  go_wp2_with fail
  exact ret_kt (v := .int .i64 er) rfl rfl rfl rfl (set_five (CB.at_ M1 (.head _)) _ _ _ _ _) ⟨rfl, below_set5 M1.out.low (by omega) _ _ _ _ _⟩

theorem binary_text_to (op : ByteArray) (x y : Bool) (h l h' l' k p q er : Int) (s s' : ByteArray) (c : Bool) (t : ByteArray) (HN : Hid (∀ W, Calls Tryd.prog 30 #[.string op, .string s, .string s'] W fun e w' => e = .returned (.tuple #[kon k p q c t, .int .i64 er]) ∧ Below W.heap.size W w')) (w : World) :
    Calls Tryd.prog 11 #[.string op, kon 3 h l x s, kon 3 h' l' y s'] w fun e w' => e = .returned (.tuple #[kon k p q c t, .int .i64 er]) ∧ Below w.heap.size w w' := by
  have HM := cb3 w 26 26 26 (konA 3 h l x s) (konA 3 h' l' y s') kon0
  go_enter Tryd.func11, Tryd.ntmps11
  go_wp2_with fail
  refine (HN.out _).mono ?_
  rintro e w1 ⟨rfl, hb1⟩
  have M1 := CB.next hb1 HM
  obtain ⟨d0, d1, d2, d3, d4, f0, f1, f2, f3, f4⟩ := five_cells (CB.at_ M1 (.head _))
  clear hb1
  go_wp2_with fail
  exact ret_kt (v := .int .i64 er) rfl rfl rfl rfl (set_five (CB.at_ M1 (.head _)) _ _ _ _ _) ⟨rfl, below_set5 M1.out.low (by omega) _ _ _ _ _⟩

theorem binary_apart (op : ByteArray) (x y : Bool) (h l h' l' ka kb : Int) (s s' : ByteArray) (hne : ka ≠ kb) (w : World) :
    Calls Tryd.prog 11 #[.string op, kon ka h l x s, kon kb h' l' y s'] w fun e w' => e = .returned (.tuple #[kon 0 0 0 false ⟨#[]⟩, .int .i64 9]) ∧ Below w.heap.size w w' := by
  have HM := cb3 w 26 26 26 (konA ka h l x s) (konA kb h' l' y s') kon0
  go_enter Tryd.func11, Tryd.ntmps11
  go_wp2_with fail
  refine (none_any _ _).mono ?_
  rintro e w1 ⟨rfl, hb1⟩
  have M1 := CB.next hb1 HM
  obtain ⟨d0, d1, d2, d3, d4, f0, f1, f2, f3, f4⟩ := five_cells (CB.at_ M1 (.head _))
  clear hb1
  go_wp2_with fail
  exact ret_kt (v := .int .i64 9) rfl rfl rfl rfl (set_five (CB.at_ M1 (.head _)) _ _ _ _ _) ⟨rfl, below_set5 M1.out.low (by omega) _ _ _ _ _⟩

theorem binary_odd (op : ByteArray) (x y : Bool) (h l h' l' ka : Int) (s s' : ByteArray) (h1 : ka ≠ 1) (h2 : ka ≠ 2) (h3 : ka ≠ 3) (w : World) :
    Calls Tryd.prog 11 #[.string op, kon ka h l x s, kon ka h' l' y s'] w fun e w' => e = .returned (.tuple #[kon 0 0 0 false ⟨#[]⟩, .int .i64 9]) ∧ Below w.heap.size w w' := by
  have HM := cb3 w 26 26 26 (konA ka h l x s) (konA ka h' l' y s') kon0
  go_enter Tryd.func11, Tryd.ntmps11
  go_wp2_with fail
  refine (none_any _ _).mono ?_
  rintro e w1 ⟨rfl, hb1⟩
  have M1 := CB.next hb1 HM
  obtain ⟨d0, d1, d2, d3, d4, f0, f1, f2, f3, f4⟩ := five_cells (CB.at_ M1 (.head _))
  clear hb1
  go_wp2_with fail
  exact ret_kt (v := .int .i64 9) rfl rfl rfl rfl (set_five (CB.at_ M1 (.head _)) _ _ _ _ _) ⟨rfl, below_set5 M1.out.low (by omega) _ _ _ _ _⟩
end Go.Proofs.YtgleldpdelhhhaaDoor
