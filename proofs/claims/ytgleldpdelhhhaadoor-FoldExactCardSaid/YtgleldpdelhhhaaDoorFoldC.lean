/- What layer 8's orders answer of two numbers and of two texts; no conditions. -/
import Derived.Test.YtgleldpdelhhhaaDoorFoldB
import Derived.Laws.Cover1
namespace Go.Proofs.YtgleldpdelhhhaaDoor
open Go.RowKit Go.WideShapes Go.ChangeShapes
set_option linter.unusedVariables false
set_option maxRecDepth 100000

theorem bl_three : ∀ (x y : List UInt8), (Op.bytesLess x y = true ∧ Op.bytesLess y x = false ∧ x ≠ y) ∨ (Op.bytesLess x y = false ∧ Op.bytesLess y x = false ∧ x = y) ∨ (Op.bytesLess x y = false ∧ Op.bytesLess y x = true ∧ x ≠ y)
  | [], [] => by simp [Op.bytesLess]
  | [], _ :: _ => by simp [Op.bytesLess]
  | _ :: _, [] => by simp [Op.bytesLess]
  | a :: x, b :: y => by
    have h := bl_three x y
    rcases Nat.lt_trichotomy a.toNat b.toNat with g | g | g
    · have h1 : a < b := UInt8.lt_iff_toNat_lt.2 g
      have h2 : ¬ b < a := fun e => by have := UInt8.lt_iff_toNat_lt.1 e; omega
      have h3 : a ≠ b := fun e => by subst e; omega
      exact Or.inl (by simp [Op.bytesLess, h1, h2, h3, Ne.symm h3])
    · obtain rfl := UInt8.toNat_inj.1 g
      have h2 : ¬ a < a := fun e => by have := UInt8.lt_iff_toNat_lt.1 e; omega
      simpa [Op.bytesLess, h2] using h
    · have h1 : b < a := UInt8.lt_iff_toNat_lt.2 g
      have h2 : ¬ a < b := fun e => by have := UInt8.lt_iff_toNat_lt.1 e; omega
      have h3 : a ≠ b := fun e => by subst e; omega
      exact Or.inr (Or.inr (by simp [Op.bytesLess, h1, h2, h3]))

def cmpS (s t : ByteArray) : Int := if Op.bytesLess s.toList t.toList = true then -1 else if (s.toList == t.toList) = true then 0 else 1
theorem cmpS_three (s t : ByteArray) : cmpS s t = -1 ∧ cmpS t s = 1 ∨ cmpS s t = 0 ∧ cmpS t s = 0 ∨ cmpS s t = 1 ∧ cmpS t s = -1 := by
  unfold cmpS
  rcases bl_three s.toList t.toList with ⟨h1, h2, h3⟩ | ⟨h1, h2, h3⟩ | ⟨h1, h2, h3⟩
  · simp [h1, h2, Ne.symm h3]
  · rw [h3] at h1 ⊢; simp [h1]
  · simp [h1, h2, h3]
theorem cmpI_three (x y : Int) : cmpI x y = -1 ∧ cmpI y x = 1 ∨ cmpI x y = 0 ∧ cmpI y x = 0 ∨ cmpI x y = 1 ∧ cmpI y x = -1 := by
  unfold cmpI; (repeat' split) <;> omega

theorem nan_str (s : ByteArray) (w : World) : Calls Tryd.prog 70 #[.string s] w fun e w' => e = .returned (.bool false) ∧ w = w' := by
  go_enter Tryd.func70, Tryd.ntmps70
  go_wp2_with fail
  go_ret
  exact ⟨by simp, rfl⟩
theorem compare_str (s t : ByteArray) (w : World) : Calls Tryd.prog 50 #[.string s, .string t] w fun e w' => e = .returned (.int .i64 (cmpS s t)) ∧ w = w' := by
  obtain ⟨c, hc⟩ : ∃ c, c = cmpS s t := ⟨_, rfl⟩
  rw [← hc]
  have HC := hide hc
  clear hc
  go_enter Tryd.func50, Tryd.ntmps50
  go_wp2_with (go_at_call 70; refine (nan_str _ _).mono ?_; rintro e w' ⟨rfl, rfl⟩)
  all_goals go_ret
  all_goals exact ⟨ret_i (by rw [HC.out]; unfold cmpS; simp_all), rfl⟩

theorem ordered_lt_m (w : World) : Calls Tryd.prog 48 #[.string ⟨#[60]⟩, .int .i64 (-1)] w fun e w' => e = .returned (.tuple #[kon 2 0 0 true ⟨#[]⟩, .int .i64 0]) ∧ Below w.heap.size w w' := by
  have HM := CB.add 26 kon0 (CB.nil w)
  have HT := hide (fun b W => truth_any b W)
  go_enter Tryd.func48, Tryd.ntmps48
  go_wp2_with fail
  refine (HT.out _ _).mono ?_
  rintro e w1 ⟨rfl, hb1⟩
  have M1 := CB.next hb1 HM
  obtain ⟨d0, d1, d2, d3, d4, f0, f1, f2, f3, f4⟩ := five_cells (CB.at_ M1 (.head _))
  clear hb1
  go_wp2_with fail
  exact ret_kt (v := .int .i64 0) rfl rfl rfl rfl (set_five (CB.at_ M1 (.head _)) _ _ _ _ _) ⟨rfl, below_set5 M1.out.low (by omega) _ _ _ _ _⟩

theorem ordered_lt_z (w : World) : Calls Tryd.prog 48 #[.string ⟨#[60]⟩, .int .i64 (0)] w fun e w' => e = .returned (.tuple #[kon 2 0 0 false ⟨#[]⟩, .int .i64 0]) ∧ Below w.heap.size w w' := by
  have HM := CB.add 26 kon0 (CB.nil w)
  have HT := hide (fun b W => truth_any b W)
  go_enter Tryd.func48, Tryd.ntmps48
  go_wp2_with fail
  refine (HT.out _ _).mono ?_
  rintro e w1 ⟨rfl, hb1⟩
  have M1 := CB.next hb1 HM
  obtain ⟨d0, d1, d2, d3, d4, f0, f1, f2, f3, f4⟩ := five_cells (CB.at_ M1 (.head _))
  clear hb1
  go_wp2_with fail
  exact ret_kt (v := .int .i64 0) rfl rfl rfl rfl (set_five (CB.at_ M1 (.head _)) _ _ _ _ _) ⟨rfl, below_set5 M1.out.low (by omega) _ _ _ _ _⟩

theorem ordered_lt_p (w : World) : Calls Tryd.prog 48 #[.string ⟨#[60]⟩, .int .i64 (1)] w fun e w' => e = .returned (.tuple #[kon 2 0 0 false ⟨#[]⟩, .int .i64 0]) ∧ Below w.heap.size w w' := by
  have HM := CB.add 26 kon0 (CB.nil w)
  have HT := hide (fun b W => truth_any b W)
  go_enter Tryd.func48, Tryd.ntmps48
  go_wp2_with fail
  refine (HT.out _ _).mono ?_
  rintro e w1 ⟨rfl, hb1⟩
  have M1 := CB.next hb1 HM
  obtain ⟨d0, d1, d2, d3, d4, f0, f1, f2, f3, f4⟩ := five_cells (CB.at_ M1 (.head _))
  clear hb1
  go_wp2_with fail
  exact ret_kt (v := .int .i64 0) rfl rfl rfl rfl (set_five (CB.at_ M1 (.head _)) _ _ _ _ _) ⟨rfl, below_set5 M1.out.low (by omega) _ _ _ _ _⟩

theorem numbers_lt (a b c d o : Int) (r : Bool) (HA : Hid (∀ W, Calls Tryd.prog 49 #[wv a b, wv c d] W fun e w' => e = .returned (.int .i64 o) ∧ Below W.heap.size W w'))
    (HC : Hid (∀ W, Calls Tryd.prog 48 #[.string ⟨#[60]⟩, .int .i64 o] W fun e w' => e = .returned (.tuple #[kon 2 0 0 r ⟨#[]⟩, .int .i64 0]) ∧ Below W.heap.size W w')) (w : World) :
    Calls Tryd.prog 28 #[.string ⟨#[60]⟩, wv a b, wv c d] w fun e w' => e = .returned (.tuple #[kon 2 0 0 r ⟨#[]⟩, .int .i64 0]) ∧ Below w.heap.size w w' := by
  have HM := cb3 w 24 24 26 #[.int .u64 a, .int .u64 b] #[.int .u64 c, .int .u64 d] kon0
  go_enter Tryd.func28, Tryd.ntmps28
  go_wp2_with fail
  refine (HA.out _).mono ?_
  rintro e w1 ⟨rfl, hb1⟩
  have M1 := CB.next hb1 HM
  clear hb1
  go_wp2_with fail
  refine (HC.out _).mono ?_
  rintro e w2 ⟨rfl, hb2⟩
  have M2 := CB.next hb2 M1
  obtain ⟨d0, d1, d2, d3, d4, f0, f1, f2, f3, f4⟩ := five_cells (CB.at_ M2 (.head _))
  clear hb2
  go_wp2_with fail
  exact ret_kt (v := .int .i64 0) rfl rfl rfl rfl (set_five (CB.at_ M2 (.head _)) _ _ _ _ _) ⟨rfl, below_set5 M2.out.low (by omega) _ _ _ _ _⟩
theorem texts_lt (s t : ByteArray) (o : Int) (r : Bool) (HA : Hid (∀ W, Calls Tryd.prog 50 #[.string s, .string t] W fun e w' => e = .returned (.int .i64 o) ∧ W = w'))
    (HC : Hid (∀ W, Calls Tryd.prog 48 #[.string ⟨#[60]⟩, .int .i64 o] W fun e w' => e = .returned (.tuple #[kon 2 0 0 r ⟨#[]⟩, .int .i64 0]) ∧ Below W.heap.size W w')) (w : World) :
    Calls Tryd.prog 30 #[.string ⟨#[60]⟩, .string s, .string t] w fun e w' => e = .returned (.tuple #[kon 2 0 0 r ⟨#[]⟩, .int .i64 0]) ∧ Below w.heap.size w w' := by
  have HM := CB.add 26 kon0 (CB.nil w)
  go_enter Tryd.func30, Tryd.ntmps30
  go_wp2_with fail
  refine (HA.out _).mono ?_
  rintro e w1 ⟨rfl, rfl⟩
  go_wp2_with fail
  refine (HC.out _).mono ?_
  rintro e w2 ⟨rfl, hb2⟩
  have M2 := CB.next hb2 HM
  obtain ⟨d0, d1, d2, d3, d4, f0, f1, f2, f3, f4⟩ := five_cells (CB.at_ M2 (.head _))
  clear hb2
  go_wp2_with fail
  exact ret_kt (v := .int .i64 0) rfl rfl rfl rfl (set_five (CB.at_ M2 (.head _)) _ _ _ _ _) ⟨rfl, below_set5 M2.out.low (by omega) _ _ _ _ _⟩

theorem ordered_gt_m (w : World) : Calls Tryd.prog 48 #[.string ⟨#[62]⟩, .int .i64 (-1)] w fun e w' => e = .returned (.tuple #[kon 2 0 0 false ⟨#[]⟩, .int .i64 0]) ∧ Below w.heap.size w w' := by
  have HM := CB.add 26 kon0 (CB.nil w)
  have HT := hide (fun b W => truth_any b W)
  go_enter Tryd.func48, Tryd.ntmps48
  go_wp2_with fail
  refine (HT.out _ _).mono ?_
  rintro e w1 ⟨rfl, hb1⟩
  have M1 := CB.next hb1 HM
  obtain ⟨d0, d1, d2, d3, d4, f0, f1, f2, f3, f4⟩ := five_cells (CB.at_ M1 (.head _))
  clear hb1
  go_wp2_with fail
  exact ret_kt (v := .int .i64 0) rfl rfl rfl rfl (set_five (CB.at_ M1 (.head _)) _ _ _ _ _) ⟨rfl, below_set5 M1.out.low (by omega) _ _ _ _ _⟩

theorem ordered_gt_z (w : World) : Calls Tryd.prog 48 #[.string ⟨#[62]⟩, .int .i64 (0)] w fun e w' => e = .returned (.tuple #[kon 2 0 0 false ⟨#[]⟩, .int .i64 0]) ∧ Below w.heap.size w w' := by
  have HM := CB.add 26 kon0 (CB.nil w)
  have HT := hide (fun b W => truth_any b W)
  go_enter Tryd.func48, Tryd.ntmps48
  go_wp2_with fail
  refine (HT.out _ _).mono ?_
  rintro e w1 ⟨rfl, hb1⟩
  have M1 := CB.next hb1 HM
  obtain ⟨d0, d1, d2, d3, d4, f0, f1, f2, f3, f4⟩ := five_cells (CB.at_ M1 (.head _))
  clear hb1
  go_wp2_with fail
  exact ret_kt (v := .int .i64 0) rfl rfl rfl rfl (set_five (CB.at_ M1 (.head _)) _ _ _ _ _) ⟨rfl, below_set5 M1.out.low (by omega) _ _ _ _ _⟩

theorem ordered_gt_p (w : World) : Calls Tryd.prog 48 #[.string ⟨#[62]⟩, .int .i64 (1)] w fun e w' => e = .returned (.tuple #[kon 2 0 0 true ⟨#[]⟩, .int .i64 0]) ∧ Below w.heap.size w w' := by
  have HM := CB.add 26 kon0 (CB.nil w)
  have HT := hide (fun b W => truth_any b W)
  go_enter Tryd.func48, Tryd.ntmps48
  go_wp2_with fail
  refine (HT.out _ _).mono ?_
  rintro e w1 ⟨rfl, hb1⟩
  have M1 := CB.next hb1 HM
  obtain ⟨d0, d1, d2, d3, d4, f0, f1, f2, f3, f4⟩ := five_cells (CB.at_ M1 (.head _))
  clear hb1
  go_wp2_with fail
  exact ret_kt (v := .int .i64 0) rfl rfl rfl rfl (set_five (CB.at_ M1 (.head _)) _ _ _ _ _) ⟨rfl, below_set5 M1.out.low (by omega) _ _ _ _ _⟩

theorem numbers_gt (a b c d o : Int) (r : Bool) (HA : Hid (∀ W, Calls Tryd.prog 49 #[wv a b, wv c d] W fun e w' => e = .returned (.int .i64 o) ∧ Below W.heap.size W w'))
    (HC : Hid (∀ W, Calls Tryd.prog 48 #[.string ⟨#[62]⟩, .int .i64 o] W fun e w' => e = .returned (.tuple #[kon 2 0 0 r ⟨#[]⟩, .int .i64 0]) ∧ Below W.heap.size W w')) (w : World) :
    Calls Tryd.prog 28 #[.string ⟨#[62]⟩, wv a b, wv c d] w fun e w' => e = .returned (.tuple #[kon 2 0 0 r ⟨#[]⟩, .int .i64 0]) ∧ Below w.heap.size w w' := by
  have HM := cb3 w 24 24 26 #[.int .u64 a, .int .u64 b] #[.int .u64 c, .int .u64 d] kon0
  go_enter Tryd.func28, Tryd.ntmps28
  go_wp2_with fail
  refine (HA.out _).mono ?_
  rintro e w1 ⟨rfl, hb1⟩
  have M1 := CB.next hb1 HM
  clear hb1
  go_wp2_with fail
  refine (HC.out _).mono ?_
  rintro e w2 ⟨rfl, hb2⟩
  have M2 := CB.next hb2 M1
  obtain ⟨d0, d1, d2, d3, d4, f0, f1, f2, f3, f4⟩ := five_cells (CB.at_ M2 (.head _))
  clear hb2
  go_wp2_with fail
  exact ret_kt (v := .int .i64 0) rfl rfl rfl rfl (set_five (CB.at_ M2 (.head _)) _ _ _ _ _) ⟨rfl, below_set5 M2.out.low (by omega) _ _ _ _ _⟩
theorem texts_gt (s t : ByteArray) (o : Int) (r : Bool) (HA : Hid (∀ W, Calls Tryd.prog 50 #[.string s, .string t] W fun e w' => e = .returned (.int .i64 o) ∧ W = w'))
    (HC : Hid (∀ W, Calls Tryd.prog 48 #[.string ⟨#[62]⟩, .int .i64 o] W fun e w' => e = .returned (.tuple #[kon 2 0 0 r ⟨#[]⟩, .int .i64 0]) ∧ Below W.heap.size W w')) (w : World) :
    Calls Tryd.prog 30 #[.string ⟨#[62]⟩, .string s, .string t] w fun e w' => e = .returned (.tuple #[kon 2 0 0 r ⟨#[]⟩, .int .i64 0]) ∧ Below w.heap.size w w' := by
  have HM := CB.add 26 kon0 (CB.nil w)
  go_enter Tryd.func30, Tryd.ntmps30
  go_wp2_with fail
  refine (HA.out _).mono ?_
  rintro e w1 ⟨rfl, rfl⟩
  go_wp2_with fail
  refine (HC.out _).mono ?_
  rintro e w2 ⟨rfl, hb2⟩
  have M2 := CB.next hb2 HM
  obtain ⟨d0, d1, d2, d3, d4, f0, f1, f2, f3, f4⟩ := five_cells (CB.at_ M2 (.head _))
  clear hb2
  go_wp2_with fail
  exact ret_kt (v := .int .i64 0) rfl rfl rfl rfl (set_five (CB.at_ M2 (.head _)) _ _ _ _ _) ⟨rfl, below_set5 M2.out.low (by omega) _ _ _ _ _⟩

theorem ordered_eq_m (w : World) : Calls Tryd.prog 48 #[.string ⟨#[61, 61]⟩, .int .i64 (-1)] w fun e w' => e = .returned (.tuple #[kon 2 0 0 false ⟨#[]⟩, .int .i64 0]) ∧ Below w.heap.size w w' := by
  have HM := CB.add 26 kon0 (CB.nil w)
  have HT := hide (fun b W => truth_any b W)
  go_enter Tryd.func48, Tryd.ntmps48
  go_wp2_with fail
  refine (HT.out _ _).mono ?_
  rintro e w1 ⟨rfl, hb1⟩
  have M1 := CB.next hb1 HM
  obtain ⟨d0, d1, d2, d3, d4, f0, f1, f2, f3, f4⟩ := five_cells (CB.at_ M1 (.head _))
  clear hb1
  go_wp2_with fail
  exact ret_kt (v := .int .i64 0) rfl rfl rfl rfl (set_five (CB.at_ M1 (.head _)) _ _ _ _ _) ⟨rfl, below_set5 M1.out.low (by omega) _ _ _ _ _⟩

theorem ordered_eq_z (w : World) : Calls Tryd.prog 48 #[.string ⟨#[61, 61]⟩, .int .i64 (0)] w fun e w' => e = .returned (.tuple #[kon 2 0 0 true ⟨#[]⟩, .int .i64 0]) ∧ Below w.heap.size w w' := by
  have HM := CB.add 26 kon0 (CB.nil w)
  have HT := hide (fun b W => truth_any b W)
  go_enter Tryd.func48, Tryd.ntmps48
  go_wp2_with fail
  refine (HT.out _ _).mono ?_
  rintro e w1 ⟨rfl, hb1⟩
  have M1 := CB.next hb1 HM
  obtain ⟨d0, d1, d2, d3, d4, f0, f1, f2, f3, f4⟩ := five_cells (CB.at_ M1 (.head _))
  clear hb1
  go_wp2_with fail
  exact ret_kt (v := .int .i64 0) rfl rfl rfl rfl (set_five (CB.at_ M1 (.head _)) _ _ _ _ _) ⟨rfl, below_set5 M1.out.low (by omega) _ _ _ _ _⟩

theorem ordered_eq_p (w : World) : Calls Tryd.prog 48 #[.string ⟨#[61, 61]⟩, .int .i64 (1)] w fun e w' => e = .returned (.tuple #[kon 2 0 0 false ⟨#[]⟩, .int .i64 0]) ∧ Below w.heap.size w w' := by
  have HM := CB.add 26 kon0 (CB.nil w)
  have HT := hide (fun b W => truth_any b W)
  go_enter Tryd.func48, Tryd.ntmps48
  go_wp2_with fail
  refine (HT.out _ _).mono ?_
  rintro e w1 ⟨rfl, hb1⟩
  have M1 := CB.next hb1 HM
  obtain ⟨d0, d1, d2, d3, d4, f0, f1, f2, f3, f4⟩ := five_cells (CB.at_ M1 (.head _))
  clear hb1
  go_wp2_with fail
  exact ret_kt (v := .int .i64 0) rfl rfl rfl rfl (set_five (CB.at_ M1 (.head _)) _ _ _ _ _) ⟨rfl, below_set5 M1.out.low (by omega) _ _ _ _ _⟩

theorem numbers_eq (a b c d o : Int) (r : Bool) (HA : Hid (∀ W, Calls Tryd.prog 49 #[wv a b, wv c d] W fun e w' => e = .returned (.int .i64 o) ∧ Below W.heap.size W w'))
    (HC : Hid (∀ W, Calls Tryd.prog 48 #[.string ⟨#[61, 61]⟩, .int .i64 o] W fun e w' => e = .returned (.tuple #[kon 2 0 0 r ⟨#[]⟩, .int .i64 0]) ∧ Below W.heap.size W w')) (w : World) :
    Calls Tryd.prog 28 #[.string ⟨#[61, 61]⟩, wv a b, wv c d] w fun e w' => e = .returned (.tuple #[kon 2 0 0 r ⟨#[]⟩, .int .i64 0]) ∧ Below w.heap.size w w' := by
  have HM := cb3 w 24 24 26 #[.int .u64 a, .int .u64 b] #[.int .u64 c, .int .u64 d] kon0
  go_enter Tryd.func28, Tryd.ntmps28
  go_wp2_with fail
  refine (HA.out _).mono ?_
  rintro e w1 ⟨rfl, hb1⟩
  have M1 := CB.next hb1 HM
  clear hb1
  go_wp2_with fail
  refine (HC.out _).mono ?_
  rintro e w2 ⟨rfl, hb2⟩
  have M2 := CB.next hb2 M1
  obtain ⟨d0, d1, d2, d3, d4, f0, f1, f2, f3, f4⟩ := five_cells (CB.at_ M2 (.head _))
  clear hb2
  go_wp2_with fail
  exact ret_kt (v := .int .i64 0) rfl rfl rfl rfl (set_five (CB.at_ M2 (.head _)) _ _ _ _ _) ⟨rfl, below_set5 M2.out.low (by omega) _ _ _ _ _⟩
theorem texts_eq (s t : ByteArray) (o : Int) (r : Bool) (HA : Hid (∀ W, Calls Tryd.prog 50 #[.string s, .string t] W fun e w' => e = .returned (.int .i64 o) ∧ W = w'))
    (HC : Hid (∀ W, Calls Tryd.prog 48 #[.string ⟨#[61, 61]⟩, .int .i64 o] W fun e w' => e = .returned (.tuple #[kon 2 0 0 r ⟨#[]⟩, .int .i64 0]) ∧ Below W.heap.size W w')) (w : World) :
    Calls Tryd.prog 30 #[.string ⟨#[61, 61]⟩, .string s, .string t] w fun e w' => e = .returned (.tuple #[kon 2 0 0 r ⟨#[]⟩, .int .i64 0]) ∧ Below w.heap.size w w' := by
  have HM := CB.add 26 kon0 (CB.nil w)
  go_enter Tryd.func30, Tryd.ntmps30
  go_wp2_with fail
  refine (HA.out _).mono ?_
  rintro e w1 ⟨rfl, rfl⟩
  go_wp2_with fail
  refine (HC.out _).mono ?_
  rintro e w2 ⟨rfl, hb2⟩
  have M2 := CB.next hb2 HM
  obtain ⟨d0, d1, d2, d3, d4, f0, f1, f2, f3, f4⟩ := five_cells (CB.at_ M2 (.head _))
  clear hb2
  go_wp2_with fail
  exact ret_kt (v := .int .i64 0) rfl rfl rfl rfl (set_five (CB.at_ M2 (.head _)) _ _ _ _ _) ⟨rfl, below_set5 M2.out.low (by omega) _ _ _ _ _⟩

theorem ordered_le_m (w : World) : Calls Tryd.prog 48 #[.string ⟨#[60, 61]⟩, .int .i64 (-1)] w fun e w' => e = .returned (.tuple #[kon 2 0 0 true ⟨#[]⟩, .int .i64 0]) ∧ Below w.heap.size w w' := by
  have HM := CB.add 26 kon0 (CB.nil w)
  have HT := hide (fun b W => truth_any b W)
  go_enter Tryd.func48, Tryd.ntmps48
  go_wp2_with fail
  refine (HT.out _ _).mono ?_
  rintro e w1 ⟨rfl, hb1⟩
  have M1 := CB.next hb1 HM
  obtain ⟨d0, d1, d2, d3, d4, f0, f1, f2, f3, f4⟩ := five_cells (CB.at_ M1 (.head _))
  clear hb1
  go_wp2_with fail
  exact ret_kt (v := .int .i64 0) rfl rfl rfl rfl (set_five (CB.at_ M1 (.head _)) _ _ _ _ _) ⟨rfl, below_set5 M1.out.low (by omega) _ _ _ _ _⟩

theorem ordered_le_z (w : World) : Calls Tryd.prog 48 #[.string ⟨#[60, 61]⟩, .int .i64 (0)] w fun e w' => e = .returned (.tuple #[kon 2 0 0 true ⟨#[]⟩, .int .i64 0]) ∧ Below w.heap.size w w' := by
  have HM := CB.add 26 kon0 (CB.nil w)
  have HT := hide (fun b W => truth_any b W)
  go_enter Tryd.func48, Tryd.ntmps48
  go_wp2_with fail
  refine (HT.out _ _).mono ?_
  rintro e w1 ⟨rfl, hb1⟩
  have M1 := CB.next hb1 HM
  obtain ⟨d0, d1, d2, d3, d4, f0, f1, f2, f3, f4⟩ := five_cells (CB.at_ M1 (.head _))
  clear hb1
  go_wp2_with fail
  exact ret_kt (v := .int .i64 0) rfl rfl rfl rfl (set_five (CB.at_ M1 (.head _)) _ _ _ _ _) ⟨rfl, below_set5 M1.out.low (by omega) _ _ _ _ _⟩

theorem ordered_le_p (w : World) : Calls Tryd.prog 48 #[.string ⟨#[60, 61]⟩, .int .i64 (1)] w fun e w' => e = .returned (.tuple #[kon 2 0 0 false ⟨#[]⟩, .int .i64 0]) ∧ Below w.heap.size w w' := by
  have HM := CB.add 26 kon0 (CB.nil w)
  have HT := hide (fun b W => truth_any b W)
  go_enter Tryd.func48, Tryd.ntmps48
  go_wp2_with fail
  refine (HT.out _ _).mono ?_
  rintro e w1 ⟨rfl, hb1⟩
  have M1 := CB.next hb1 HM
  obtain ⟨d0, d1, d2, d3, d4, f0, f1, f2, f3, f4⟩ := five_cells (CB.at_ M1 (.head _))
  clear hb1
  go_wp2_with fail
  exact ret_kt (v := .int .i64 0) rfl rfl rfl rfl (set_five (CB.at_ M1 (.head _)) _ _ _ _ _) ⟨rfl, below_set5 M1.out.low (by omega) _ _ _ _ _⟩

theorem numbers_le (a b c d o : Int) (r : Bool) (HA : Hid (∀ W, Calls Tryd.prog 49 #[wv a b, wv c d] W fun e w' => e = .returned (.int .i64 o) ∧ Below W.heap.size W w'))
    (HC : Hid (∀ W, Calls Tryd.prog 48 #[.string ⟨#[60, 61]⟩, .int .i64 o] W fun e w' => e = .returned (.tuple #[kon 2 0 0 r ⟨#[]⟩, .int .i64 0]) ∧ Below W.heap.size W w')) (w : World) :
    Calls Tryd.prog 28 #[.string ⟨#[60, 61]⟩, wv a b, wv c d] w fun e w' => e = .returned (.tuple #[kon 2 0 0 r ⟨#[]⟩, .int .i64 0]) ∧ Below w.heap.size w w' := by
  have HM := cb3 w 24 24 26 #[.int .u64 a, .int .u64 b] #[.int .u64 c, .int .u64 d] kon0
  go_enter Tryd.func28, Tryd.ntmps28
  go_wp2_with fail
  refine (HA.out _).mono ?_
  rintro e w1 ⟨rfl, hb1⟩
  have M1 := CB.next hb1 HM
  clear hb1
  go_wp2_with fail
  refine (HC.out _).mono ?_
  rintro e w2 ⟨rfl, hb2⟩
  have M2 := CB.next hb2 M1
  obtain ⟨d0, d1, d2, d3, d4, f0, f1, f2, f3, f4⟩ := five_cells (CB.at_ M2 (.head _))
  clear hb2
  go_wp2_with fail
  exact ret_kt (v := .int .i64 0) rfl rfl rfl rfl (set_five (CB.at_ M2 (.head _)) _ _ _ _ _) ⟨rfl, below_set5 M2.out.low (by omega) _ _ _ _ _⟩
theorem texts_le (s t : ByteArray) (o : Int) (r : Bool) (HA : Hid (∀ W, Calls Tryd.prog 50 #[.string s, .string t] W fun e w' => e = .returned (.int .i64 o) ∧ W = w'))
    (HC : Hid (∀ W, Calls Tryd.prog 48 #[.string ⟨#[60, 61]⟩, .int .i64 o] W fun e w' => e = .returned (.tuple #[kon 2 0 0 r ⟨#[]⟩, .int .i64 0]) ∧ Below W.heap.size W w')) (w : World) :
    Calls Tryd.prog 30 #[.string ⟨#[60, 61]⟩, .string s, .string t] w fun e w' => e = .returned (.tuple #[kon 2 0 0 r ⟨#[]⟩, .int .i64 0]) ∧ Below w.heap.size w w' := by
  have HM := CB.add 26 kon0 (CB.nil w)
  go_enter Tryd.func30, Tryd.ntmps30
  go_wp2_with fail
  refine (HA.out _).mono ?_
  rintro e w1 ⟨rfl, rfl⟩
  go_wp2_with fail
  refine (HC.out _).mono ?_
  rintro e w2 ⟨rfl, hb2⟩
  have M2 := CB.next hb2 HM
  obtain ⟨d0, d1, d2, d3, d4, f0, f1, f2, f3, f4⟩ := five_cells (CB.at_ M2 (.head _))
  clear hb2
  go_wp2_with fail
  exact ret_kt (v := .int .i64 0) rfl rfl rfl rfl (set_five (CB.at_ M2 (.head _)) _ _ _ _ _) ⟨rfl, below_set5 M2.out.low (by omega) _ _ _ _ _⟩

theorem ordered_ge_m (w : World) : Calls Tryd.prog 48 #[.string ⟨#[62, 61]⟩, .int .i64 (-1)] w fun e w' => e = .returned (.tuple #[kon 2 0 0 false ⟨#[]⟩, .int .i64 0]) ∧ Below w.heap.size w w' := by
  have HM := CB.add 26 kon0 (CB.nil w)
  have HT := hide (fun b W => truth_any b W)
  go_enter Tryd.func48, Tryd.ntmps48
  go_wp2_with fail
  refine (HT.out _ _).mono ?_
  rintro e w1 ⟨rfl, hb1⟩
  have M1 := CB.next hb1 HM
  obtain ⟨d0, d1, d2, d3, d4, f0, f1, f2, f3, f4⟩ := five_cells (CB.at_ M1 (.head _))
  clear hb1
  go_wp2_with fail
  exact ret_kt (v := .int .i64 0) rfl rfl rfl rfl (set_five (CB.at_ M1 (.head _)) _ _ _ _ _) ⟨rfl, below_set5 M1.out.low (by omega) _ _ _ _ _⟩

theorem ordered_ge_z (w : World) : Calls Tryd.prog 48 #[.string ⟨#[62, 61]⟩, .int .i64 (0)] w fun e w' => e = .returned (.tuple #[kon 2 0 0 true ⟨#[]⟩, .int .i64 0]) ∧ Below w.heap.size w w' := by
  have HM := CB.add 26 kon0 (CB.nil w)
  have HT := hide (fun b W => truth_any b W)
  go_enter Tryd.func48, Tryd.ntmps48
  go_wp2_with fail
  refine (HT.out _ _).mono ?_
  rintro e w1 ⟨rfl, hb1⟩
  have M1 := CB.next hb1 HM
  obtain ⟨d0, d1, d2, d3, d4, f0, f1, f2, f3, f4⟩ := five_cells (CB.at_ M1 (.head _))
  clear hb1
  go_wp2_with fail
  exact ret_kt (v := .int .i64 0) rfl rfl rfl rfl (set_five (CB.at_ M1 (.head _)) _ _ _ _ _) ⟨rfl, below_set5 M1.out.low (by omega) _ _ _ _ _⟩

theorem ordered_ge_p (w : World) : Calls Tryd.prog 48 #[.string ⟨#[62, 61]⟩, .int .i64 (1)] w fun e w' => e = .returned (.tuple #[kon 2 0 0 true ⟨#[]⟩, .int .i64 0]) ∧ Below w.heap.size w w' := by
  have HM := CB.add 26 kon0 (CB.nil w)
  have HT := hide (fun b W => truth_any b W)
  go_enter Tryd.func48, Tryd.ntmps48
  go_wp2_with fail
  refine (HT.out _ _).mono ?_
  rintro e w1 ⟨rfl, hb1⟩
  have M1 := CB.next hb1 HM
  obtain ⟨d0, d1, d2, d3, d4, f0, f1, f2, f3, f4⟩ := five_cells (CB.at_ M1 (.head _))
  clear hb1
  go_wp2_with fail
  exact ret_kt (v := .int .i64 0) rfl rfl rfl rfl (set_five (CB.at_ M1 (.head _)) _ _ _ _ _) ⟨rfl, below_set5 M1.out.low (by omega) _ _ _ _ _⟩

theorem numbers_ge (a b c d o : Int) (r : Bool) (HA : Hid (∀ W, Calls Tryd.prog 49 #[wv a b, wv c d] W fun e w' => e = .returned (.int .i64 o) ∧ Below W.heap.size W w'))
    (HC : Hid (∀ W, Calls Tryd.prog 48 #[.string ⟨#[62, 61]⟩, .int .i64 o] W fun e w' => e = .returned (.tuple #[kon 2 0 0 r ⟨#[]⟩, .int .i64 0]) ∧ Below W.heap.size W w')) (w : World) :
    Calls Tryd.prog 28 #[.string ⟨#[62, 61]⟩, wv a b, wv c d] w fun e w' => e = .returned (.tuple #[kon 2 0 0 r ⟨#[]⟩, .int .i64 0]) ∧ Below w.heap.size w w' := by
  have HM := cb3 w 24 24 26 #[.int .u64 a, .int .u64 b] #[.int .u64 c, .int .u64 d] kon0
  go_enter Tryd.func28, Tryd.ntmps28
  go_wp2_with fail
  refine (HA.out _).mono ?_
  rintro e w1 ⟨rfl, hb1⟩
  have M1 := CB.next hb1 HM
  clear hb1
  go_wp2_with fail
  refine (HC.out _).mono ?_
  rintro e w2 ⟨rfl, hb2⟩
  have M2 := CB.next hb2 M1
  obtain ⟨d0, d1, d2, d3, d4, f0, f1, f2, f3, f4⟩ := five_cells (CB.at_ M2 (.head _))
  clear hb2
  go_wp2_with fail
  exact ret_kt (v := .int .i64 0) rfl rfl rfl rfl (set_five (CB.at_ M2 (.head _)) _ _ _ _ _) ⟨rfl, below_set5 M2.out.low (by omega) _ _ _ _ _⟩
theorem texts_ge (s t : ByteArray) (o : Int) (r : Bool) (HA : Hid (∀ W, Calls Tryd.prog 50 #[.string s, .string t] W fun e w' => e = .returned (.int .i64 o) ∧ W = w'))
    (HC : Hid (∀ W, Calls Tryd.prog 48 #[.string ⟨#[62, 61]⟩, .int .i64 o] W fun e w' => e = .returned (.tuple #[kon 2 0 0 r ⟨#[]⟩, .int .i64 0]) ∧ Below W.heap.size W w')) (w : World) :
    Calls Tryd.prog 30 #[.string ⟨#[62, 61]⟩, .string s, .string t] w fun e w' => e = .returned (.tuple #[kon 2 0 0 r ⟨#[]⟩, .int .i64 0]) ∧ Below w.heap.size w w' := by
  have HM := CB.add 26 kon0 (CB.nil w)
  go_enter Tryd.func30, Tryd.ntmps30
  go_wp2_with fail
  refine (HA.out _).mono ?_
  rintro e w1 ⟨rfl, rfl⟩
  go_wp2_with fail
  refine (HC.out _).mono ?_
  rintro e w2 ⟨rfl, hb2⟩
  have M2 := CB.next hb2 HM
  obtain ⟨d0, d1, d2, d3, d4, f0, f1, f2, f3, f4⟩ := five_cells (CB.at_ M2 (.head _))
  clear hb2
  go_wp2_with fail
  exact ret_kt (v := .int .i64 0) rfl rfl rfl rfl (set_five (CB.at_ M2 (.head _)) _ _ _ _ _) ⟨rfl, below_set5 M2.out.low (by omega) _ _ _ _ _⟩

theorem ordered_ne_m (w : World) : Calls Tryd.prog 48 #[.string ⟨#[33, 61]⟩, .int .i64 (-1)] w fun e w' => e = .returned (.tuple #[kon 2 0 0 true ⟨#[]⟩, .int .i64 0]) ∧ Below w.heap.size w w' := by
  have HM := CB.add 26 kon0 (CB.nil w)
  have HT := hide (fun b W => truth_any b W)
  go_enter Tryd.func48, Tryd.ntmps48
  go_wp2_with fail
  refine (HT.out _ _).mono ?_
  rintro e w1 ⟨rfl, hb1⟩
  have M1 := CB.next hb1 HM
  obtain ⟨d0, d1, d2, d3, d4, f0, f1, f2, f3, f4⟩ := five_cells (CB.at_ M1 (.head _))
  clear hb1
  go_wp2_with fail
  exact ret_kt (v := .int .i64 0) rfl rfl rfl rfl (set_five (CB.at_ M1 (.head _)) _ _ _ _ _) ⟨rfl, below_set5 M1.out.low (by omega) _ _ _ _ _⟩

theorem ordered_ne_z (w : World) : Calls Tryd.prog 48 #[.string ⟨#[33, 61]⟩, .int .i64 (0)] w fun e w' => e = .returned (.tuple #[kon 2 0 0 false ⟨#[]⟩, .int .i64 0]) ∧ Below w.heap.size w w' := by
  have HM := CB.add 26 kon0 (CB.nil w)
  have HT := hide (fun b W => truth_any b W)
  go_enter Tryd.func48, Tryd.ntmps48
  go_wp2_with fail
  refine (HT.out _ _).mono ?_
  rintro e w1 ⟨rfl, hb1⟩
  have M1 := CB.next hb1 HM
  obtain ⟨d0, d1, d2, d3, d4, f0, f1, f2, f3, f4⟩ := five_cells (CB.at_ M1 (.head _))
  clear hb1
  go_wp2_with fail
  exact ret_kt (v := .int .i64 0) rfl rfl rfl rfl (set_five (CB.at_ M1 (.head _)) _ _ _ _ _) ⟨rfl, below_set5 M1.out.low (by omega) _ _ _ _ _⟩

theorem ordered_ne_p (w : World) : Calls Tryd.prog 48 #[.string ⟨#[33, 61]⟩, .int .i64 (1)] w fun e w' => e = .returned (.tuple #[kon 2 0 0 true ⟨#[]⟩, .int .i64 0]) ∧ Below w.heap.size w w' := by
  have HM := CB.add 26 kon0 (CB.nil w)
  have HT := hide (fun b W => truth_any b W)
  go_enter Tryd.func48, Tryd.ntmps48
  go_wp2_with fail
  refine (HT.out _ _).mono ?_
  rintro e w1 ⟨rfl, hb1⟩
  have M1 := CB.next hb1 HM
  obtain ⟨d0, d1, d2, d3, d4, f0, f1, f2, f3, f4⟩ := five_cells (CB.at_ M1 (.head _))
  clear hb1
  go_wp2_with fail
  exact ret_kt (v := .int .i64 0) rfl rfl rfl rfl (set_five (CB.at_ M1 (.head _)) _ _ _ _ _) ⟨rfl, below_set5 M1.out.low (by omega) _ _ _ _ _⟩

theorem numbers_ne (a b c d o : Int) (r : Bool) (HA : Hid (∀ W, Calls Tryd.prog 49 #[wv a b, wv c d] W fun e w' => e = .returned (.int .i64 o) ∧ Below W.heap.size W w'))
    (HC : Hid (∀ W, Calls Tryd.prog 48 #[.string ⟨#[33, 61]⟩, .int .i64 o] W fun e w' => e = .returned (.tuple #[kon 2 0 0 r ⟨#[]⟩, .int .i64 0]) ∧ Below W.heap.size W w')) (w : World) :
    Calls Tryd.prog 28 #[.string ⟨#[33, 61]⟩, wv a b, wv c d] w fun e w' => e = .returned (.tuple #[kon 2 0 0 r ⟨#[]⟩, .int .i64 0]) ∧ Below w.heap.size w w' := by
  have HM := cb3 w 24 24 26 #[.int .u64 a, .int .u64 b] #[.int .u64 c, .int .u64 d] kon0
  go_enter Tryd.func28, Tryd.ntmps28
  go_wp2_with fail
  refine (HA.out _).mono ?_
  rintro e w1 ⟨rfl, hb1⟩
  have M1 := CB.next hb1 HM
  clear hb1
  go_wp2_with fail
  refine (HC.out _).mono ?_
  rintro e w2 ⟨rfl, hb2⟩
  have M2 := CB.next hb2 M1
  obtain ⟨d0, d1, d2, d3, d4, f0, f1, f2, f3, f4⟩ := five_cells (CB.at_ M2 (.head _))
  clear hb2
  go_wp2_with fail
  exact ret_kt (v := .int .i64 0) rfl rfl rfl rfl (set_five (CB.at_ M2 (.head _)) _ _ _ _ _) ⟨rfl, below_set5 M2.out.low (by omega) _ _ _ _ _⟩
theorem texts_ne (s t : ByteArray) (o : Int) (r : Bool) (HA : Hid (∀ W, Calls Tryd.prog 50 #[.string s, .string t] W fun e w' => e = .returned (.int .i64 o) ∧ W = w'))
    (HC : Hid (∀ W, Calls Tryd.prog 48 #[.string ⟨#[33, 61]⟩, .int .i64 o] W fun e w' => e = .returned (.tuple #[kon 2 0 0 r ⟨#[]⟩, .int .i64 0]) ∧ Below W.heap.size W w')) (w : World) :
    Calls Tryd.prog 30 #[.string ⟨#[33, 61]⟩, .string s, .string t] w fun e w' => e = .returned (.tuple #[kon 2 0 0 r ⟨#[]⟩, .int .i64 0]) ∧ Below w.heap.size w w' := by
  have HM := CB.add 26 kon0 (CB.nil w)
  go_enter Tryd.func30, Tryd.ntmps30
  go_wp2_with fail
  refine (HA.out _).mono ?_
  rintro e w1 ⟨rfl, rfl⟩
  go_wp2_with fail
  refine (HC.out _).mono ?_
  rintro e w2 ⟨rfl, hb2⟩
  have M2 := CB.next hb2 HM
  obtain ⟨d0, d1, d2, d3, d4, f0, f1, f2, f3, f4⟩ := five_cells (CB.at_ M2 (.head _))
  clear hb2
  go_wp2_with fail
  exact ret_kt (v := .int .i64 0) rfl rfl rfl rfl (set_five (CB.at_ M2 (.head _)) _ _ _ _ _) ⟨rfl, below_set5 M2.out.low (by omega) _ _ _ _ _⟩
end Go.Proofs.YtgleldpdelhhhaaDoor
