/- What layer 8's signs + and - answer of any two constants; conditions: texts of at most 2^10 bytes for +. -/
import Derived.Test.YtgleldpdelhhhaaDoorFold4
namespace Go.Proofs.YtgleldpdelhhhaaDoor
open Go.RowKit Go.WideShapes Go.ChangeShapes
set_option linter.unusedVariables false
set_option maxRecDepth 100000

def kindW (z : Int) : Int := if Fits z then 1 else 0

theorem checked_no (h l : Int) (w : World) : Calls Tryd.prog 20 #[wv h l, .int .i64 10] w fun e w' => e = .returned (.tuple #[kon 0 0 0 false ⟨#[]⟩, .int .i64 10]) ∧ Below w.heap.size w w' := by
  go_enter Tryd.func20, Tryd.ntmps20
  go_wp2_with fail
  exact ret_kt (v := .int .i64 10) rfl rfl rfl rfl (blk_at1 _ _ _) ⟨rfl, below2 _ _ _⟩

theorem checked_w (z : Int) (w : World) : Calls Tryd.prog 20 #[wv (hiW (valW z)) (loW (valW z)), .int .i64 (errW z)] w fun e w' => e = .returned (.tuple #[kon (kindW z) (hiW (valW z)) (loW (valW z)) false ⟨#[]⟩, .int .i64 (errW z)]) ∧ Below w.heap.size w w' := by
  by_cases hf : Fits z
  · obtain ⟨hv, he⟩ := valW_yes hf
    rw [hv, he, show kindW z = 1 from if_pos hf]
    exact checked_ok _ _ w
  · have hv : valW z = 0 := if_neg hf
    have he : errW z = 10 := if_neg hf
    rw [hv, he, show kindW z = 0 from if_neg hf, show hiW 0 = 0 from rfl, show loW 0 = 0 from rfl]
    exact checked_no _ _ w

theorem numbers_add_to (a b c d h l k er : Int) (HA : Hid (∀ W, Calls Tryd.prog 44 #[wv a b, wv c d] W fun e w' => e = .returned (.tuple #[wv h l, .int .i64 er]) ∧ Below W.heap.size W w'))
    (HC : Hid (∀ W, Calls Tryd.prog 20 #[wv h l, .int .i64 er] W fun e w' => e = .returned (.tuple #[kon k h l false ⟨#[]⟩, .int .i64 er]) ∧ Below W.heap.size W w')) (w : World) :
    Calls Tryd.prog 28 #[.string ⟨#[43]⟩, wv a b, wv c d] w fun e w' => e = .returned (.tuple #[kon k h l false ⟨#[]⟩, .int .i64 er]) ∧ Below w.heap.size w w' := by
  have HM := cb3 w 24 24 26 #[.int .u64 a, .int .u64 b] #[.int .u64 c, .int .u64 d] kon0
  go_enter Tryd.func28, Tryd.ntmps28
  go_wp2_with fail
  refine (HA.out _).mono ?_
  rintro e w1 ⟨rfl, hb1⟩
  have M1 := CB.next hb1 HM
  clear hb1
  go_wp2_with fail
  refine (HC.out _).mono ?_
  rintro e w2 ⟨rfl, hb2⟩
  have M2 := CB.next hb2 M1
  obtain ⟨d0, d1, d2, d3, d4, f0, f1, f2, f3, f4⟩ := five_cells (CB.at_ M2 (.head _))
  clear hb2
  go_wp2_with fail
  exact ret_kt (v := .int .i64 er) rfl rfl rfl rfl (set_five (CB.at_ M2 (.head _)) _ _ _ _ _) ⟨rfl, below_set5 M2.out.low (by omega) _ _ _ _ _⟩
theorem numbers_plus {x y : Int} (hx : Fits x) (hy : Fits y) (w : World) : Calls Tryd.prog 28 #[.string ⟨#[43]⟩, wv (hiW x) (loW x), wv (hiW y) (loW y)] w fun e w' => e = .returned (.tuple #[kon (kindW (x + y)) (hiW (valW (x + y))) (loW (valW (x + y))) false ⟨#[]⟩, .int .i64 (errW (x + y))]) ∧ Below w.heap.size w w' :=
  numbers_add_to _ _ _ _ _ _ _ _ (hide (fun W => by have h := add_any hx hy W; rw [ansW_val] at h; exact h)) (hide (fun W => checked_w _ W)) w

theorem numbers_sub_to (a b c d h l k er : Int) (HA : Hid (∀ W, Calls Tryd.prog 41 #[wv a b, wv c d] W fun e w' => e = .returned (.tuple #[wv h l, .int .i64 er]) ∧ Below W.heap.size W w'))
    (HC : Hid (∀ W, Calls Tryd.prog 20 #[wv h l, .int .i64 er] W fun e w' => e = .returned (.tuple #[kon k h l false ⟨#[]⟩, .int .i64 er]) ∧ Below W.heap.size W w')) (w : World) :
    Calls Tryd.prog 28 #[.string ⟨#[45]⟩, wv a b, wv c d] w fun e w' => e = .returned (.tuple #[kon k h l false ⟨#[]⟩, .int .i64 er]) ∧ Below w.heap.size w w' := by
  have HM := cb3 w 24 24 26 #[.int .u64 a, .int .u64 b] #[.int .u64 c, .int .u64 d] kon0
  go_enter Tryd.func28, Tryd.ntmps28
  go_wp2_with fail
  refine (HA.out _).mono ?_
  rintro e w1 ⟨rfl, hb1⟩
  have M1 := CB.next hb1 HM
  clear hb1
  go_wp2_with fail
  refine (HC.out _).mono ?_
  rintro e w2 ⟨rfl, hb2⟩
  have M2 := CB.next hb2 M1
  obtain ⟨d0, d1, d2, d3, d4, f0, f1, f2, f3, f4⟩ := five_cells (CB.at_ M2 (.head _))
  clear hb2
  go_wp2_with fail
  exact ret_kt (v := .int .i64 er) rfl rfl rfl rfl (set_five (CB.at_ M2 (.head _)) _ _ _ _ _) ⟨rfl, below_set5 M2.out.low (by omega) _ _ _ _ _⟩
theorem numbers_minus {x y : Int} (hx : Fits x) (hy : Fits y) (w : World) : Calls Tryd.prog 28 #[.string ⟨#[45]⟩, wv (hiW x) (loW x), wv (hiW y) (loW y)] w fun e w' => e = .returned (.tuple #[kon (kindW (x - y)) (hiW (valW (x - y))) (loW (valW (x - y))) false ⟨#[]⟩, .int .i64 (errW (x - y))]) ∧ Below w.heap.size w w' :=
  numbers_sub_to _ _ _ _ _ _ _ _ (hide (fun W => by have h := sub_any hx hy W; rw [ansW_val] at h; exact h)) (hide (fun W => checked_w _ W)) w

theorem unary_neg_to (x : Bool) (s : ByteArray) (a b h l k er : Int) (HA : Hid (∀ W, Calls Tryd.prog 21 #[wv a b] W fun e w' => e = .returned (.tuple #[wv h l, .int .i64 er]) ∧ Below W.heap.size W w'))
    (HC : Hid (∀ W, Calls Tryd.prog 20 #[wv h l, .int .i64 er] W fun e w' => e = .returned (.tuple #[kon k h l false ⟨#[]⟩, .int .i64 er]) ∧ Below W.heap.size W w')) (w : World) :
    Calls Tryd.prog 9 #[.string ⟨#[45]⟩, kon 1 a b x s] w fun e w' => e = .returned (.tuple #[kon k h l false ⟨#[]⟩, .int .i64 er]) ∧ Below w.heap.size w w' := by
  have HM := CB.add 26 kon0 (CB.add 26 (konA 1 a b x s) (CB.nil w))
  rw [size_alloc1] at HM
  go_enter Tryd.func9, Tryd.ntmps9
  go_wp2_with fail
  refine (HA.out _).mono ?_
  rintro e w1 ⟨rfl, hb1⟩
  have M1 := CB.next hb1 HM
  clear hb1
  go_wp2_with fail
  refine (HC.out _).mono ?_
  rintro e w2 ⟨rfl, hb2⟩
  have M2 := CB.next hb2 M1
  obtain ⟨d0, d1, d2, d3, d4, f0, f1, f2, f3, f4⟩ := five_cells (CB.at_ M2 (.head _))
  clear hb2
  go_wp2_with fail
  exact ret_kt (v := .int .i64 er) rfl rfl rfl rfl (set_five (CB.at_ M2 (.head _)) _ _ _ _ _) ⟨rfl, below_set5 M2.out.low (by omega) _ _ _ _ _⟩
theorem unary_neg {z : Int} (hz : Fits z) (x : Bool) (s : ByteArray) (w : World) : Calls Tryd.prog 9 #[.string ⟨#[45]⟩, kon 1 (hiW z) (loW z) x s] w fun e w' => e = .returned (.tuple #[kon (kindW (-z)) (hiW (valW (-z))) (loW (valW (-z))) false ⟨#[]⟩, .int .i64 (errW (-z))]) ∧ Below w.heap.size w w' :=
  unary_neg_to _ _ _ _ _ _ _ _ (hide (fun W => by have h := neg_any hz W; rw [ansW_val] at h; exact h)) (hide (fun W => checked_w _ W)) w
end Go.Proofs.YtgleldpdelhhhaaDoor
