/- The reference's numbers, texts and folds as the program's, and FoldExact's law for texts within the limit and beyond it; conditions: texts of less than 2^61 bytes. -/
import Derived.Test.YtgleldpdelhhhaaDoorFoldC
import Derived.Test.YtgleldpdelhhhaaDoorFoldE
import Derived.Test.YtgleldpdelhhhaaDoorDigF
import Derived.Test.YtgleldpdelhhhaaDoorDig7
import Derived.Test.YtgleldpdelhhhaaDoorDig8
import Derived.Test.YtgleldpdelhhhaaDoorDigC
import Derived.Test.YtgleldpdelhhhaaDoorDigE
import Derived.Test.YtgleldpdelhhhaaDoorWideA
import Derived.Test.YtgleldpdelhhhaaDoorFold6
import Derived.Test.YtgleldpdelhhhaaDoorFold3
namespace Go.Proofs.YtgleldpdelhhhaaDoor
open Go.RowKit Go.WideShapes Go.ChangeShapes
set_option linter.unusedVariables false
set_option maxRecDepth 100000

theorem strF_ne {a b : ByteArray} (h : a ≠ b) : (a.toList == b.toList) = false := by
  rw [beq_eq_false_iff_ne]
  intro e
  apply h
  rw [ByteArray.toList_eq, ByteArray.toList_eq] at e
  exact ByteArray.ext (Array.ext' e)
/-- What an operator says of -1, 0, 1; none: it is none. -/
def ordP (op : ByteArray) (c : Int) : Option Bool :=
  if op = ⟨#[61, 61]⟩ then some (c == 0) else
  if op = ⟨#[33, 61]⟩ then some (c != 0) else
  if op = ⟨#[60]⟩ then some (decide (c < 0)) else
  if op = ⟨#[60, 61]⟩ then some (decide (c ≤ 0)) else
  if op = ⟨#[62]⟩ then some (decide (0 < c)) else
  if op = ⟨#[62, 61]⟩ then some (decide (0 ≤ c)) else
  none
theorem ordP_eq (c : Int) : ordP ⟨#[61, 61]⟩ c = some (c == 0) := by unfold ordP; simp (decide := true)
theorem ordP_ne (c : Int) : ordP ⟨#[33, 61]⟩ c = some (c != 0) := by unfold ordP; simp (decide := true)
theorem ordP_lt (c : Int) : ordP ⟨#[60]⟩ c = some (decide (c < 0)) := by unfold ordP; simp (decide := true)
theorem ordP_le (c : Int) : ordP ⟨#[60, 61]⟩ c = some (decide (c ≤ 0)) := by unfold ordP; simp (decide := true)
theorem ordP_gt (c : Int) : ordP ⟨#[62]⟩ c = some (decide (0 < c)) := by unfold ordP; simp (decide := true)
theorem ordP_ge (c : Int) : ordP ⟨#[62, 61]⟩ c = some (decide (0 ≤ c)) := by unfold ordP; simp (decide := true)
theorem ordP_odd {op : ByteArray} (c : Int) (heq : op ≠ ⟨#[61, 61]⟩) (hne : op ≠ ⟨#[33, 61]⟩) (hlt : op ≠ ⟨#[60]⟩) (hle : op ≠ ⟨#[60, 61]⟩) (hgt : op ≠ ⟨#[62]⟩) (hge : op ≠ ⟨#[62, 61]⟩) : ordP op c = none := by
  unfold ordP
  rw [if_neg heq, if_neg hne, if_neg hlt, if_neg hle, if_neg hgt, if_neg hge]
theorem lits : (⟨#[61, 61]⟩ : ByteArray).toList = [61, 61] ∧ (⟨#[33, 61]⟩ : ByteArray).toList = [33, 61] ∧ (⟨#[60]⟩ : ByteArray).toList = [60] ∧ (⟨#[60, 61]⟩ : ByteArray).toList = [60, 61] ∧ (⟨#[62]⟩ : ByteArray).toList = [62] ∧ (⟨#[62, 61]⟩ : ByteArray).toList = [62, 61] := by
  refine ⟨?_, ?_, ?_, ?_, ?_, ?_⟩ <;> (rw [ByteArray.toList_eq])
def ordR (o : Option Bool) : Value := .tuple #[.bool (o.getD false), .bool o.isSome]
theorem order_any (op : ByteArray) (c : Int) (w : World) : Calls Tryd.prog 32 #[.string op, .int .i64 c] w fun e w' => e = .returned (ordR (ordP op c)) ∧ w = w' := by
  by_cases heq : op = ⟨#[61, 61]⟩
  · subst heq
    have HE := hide (ordP_eq c)
    go_enter Tryd.func32, Tryd.ntmps32
    go_wp2_with fail
    go_ret2
    exact ⟨by rw [HE.out]; rfl, rfl⟩
  by_cases hne : op = ⟨#[33, 61]⟩
  · subst hne
    have HE := hide (ordP_ne c)
    go_enter Tryd.func32, Tryd.ntmps32
    go_wp2_with fail
    go_ret2
    exact ⟨by rw [HE.out]; rfl, rfl⟩
  by_cases hlt : op = ⟨#[60]⟩
  · subst hlt
    have HE := hide (ordP_lt c)
    go_enter Tryd.func32, Tryd.ntmps32
    go_wp2_with fail
    go_ret2
    exact ⟨by rw [HE.out]; rfl, rfl⟩
  by_cases hle : op = ⟨#[60, 61]⟩
  · subst hle
    have HE := hide (ordP_le c)
    go_enter Tryd.func32, Tryd.ntmps32
    go_wp2_with fail
    go_ret2
    exact ⟨by rw [HE.out]; rfl, rfl⟩
  by_cases hgt : op = ⟨#[62]⟩
  · subst hgt
    have HE := hide (ordP_gt c)
    go_enter Tryd.func32, Tryd.ntmps32
    go_wp2_with fail
    go_ret2
    exact ⟨by rw [HE.out]; rfl, rfl⟩
  by_cases hge : op = ⟨#[62, 61]⟩
  · subst hge
    have HE := hide (ordP_ge c)
    go_enter Tryd.func32, Tryd.ntmps32
    go_wp2_with fail
    go_ret2
    exact ⟨by rw [HE.out]; rfl, rfl⟩
  have HE := hide (ordP_odd c heq hne hlt hle hgt hge)
  have eeq := strF_ne heq
  have ene := strF_ne hne
  have elt := strF_ne hlt
  have ele := strF_ne hle
  have egt := strF_ne hgt
  have ege := strF_ne hge
  obtain ⟨leq, lne, llt, lle, lgt, lge⟩ := lits
  rw [leq] at eeq
  rw [lne] at ene
  rw [llt] at elt
  rw [lle] at ele
  rw [lgt] at egt
  rw [lge] at ege
  clear heq leq hne lne hlt llt hle lle hgt lgt hge lge
  go_enter Tryd.func32, Tryd.ntmps32
  go_wp2_with fail
  go_ret2
  exact ⟨by rw [HE.out]; rfl, rfl⟩
end Go.Proofs.YtgleldpdelhhhaaDoor

namespace Go.Proofs.YtgleldpdelhhhaaDoor
open Go.RowKit Go.WideShapes Go.ChangeShapes
set_option linter.unusedVariables false
set_option maxRecDepth 100000

/-- An order's answer, as a constant and an error. -/
def orK (o : Option Bool) : Value := match o with | some b => .tuple #[kon 2 0 0 b ⟨#[]⟩, .int .i64 0] | none => .tuple #[kon 0 0 0 false ⟨#[]⟩, .int .i64 9]
theorem ordered_any (op : ByteArray) (c : Int) (w : World) : Calls Tryd.prog 48 #[.string op, .int .i64 c] w fun e w' => e = .returned (orK (ordP op c)) ∧ Below w.heap.size w w' := by
  have HM := CB.add 26 kon0 (CB.nil w)
  by_cases heq : op = ⟨#[61, 61]⟩
  · subst heq
    have HE := hide (ordP_eq c)
    go_enter Tryd.func48, Tryd.ntmps48
    go_wp2_with fail
    refine (truth_any _ _).mono ?_
    rintro e w1 ⟨rfl, hb1⟩
    have M1 := CB.next hb1 HM
    obtain ⟨d0, d1, d2, d3, d4, f0, f1, f2, f3, f4⟩ := five_cells (CB.at_ M1 (.head _))
    clear hb1
    go_wp2_with fail
    exact ret_kt (v := .int .i64 0) rfl rfl rfl rfl (set_five (CB.at_ M1 (.head _)) _ _ _ _ _) ⟨by rw [HE.out]; rfl, below_set5 M1.out.low (by omega) _ _ _ _ _⟩
  by_cases hne : op = ⟨#[33, 61]⟩
  · subst hne
    have HE := hide (ordP_ne c)
    go_enter Tryd.func48, Tryd.ntmps48
    go_wp2_with fail
    refine (truth_any _ _).mono ?_
    rintro e w1 ⟨rfl, hb1⟩
    have M1 := CB.next hb1 HM
    obtain ⟨d0, d1, d2, d3, d4, f0, f1, f2, f3, f4⟩ := five_cells (CB.at_ M1 (.head _))
    clear hb1
    go_wp2_with fail
    exact ret_kt (v := .int .i64 0) rfl rfl rfl rfl (set_five (CB.at_ M1 (.head _)) _ _ _ _ _) ⟨by rw [HE.out]; rfl, below_set5 M1.out.low (by omega) _ _ _ _ _⟩
  by_cases hlt : op = ⟨#[60]⟩
  · subst hlt
    have HE := hide (ordP_lt c)
    go_enter Tryd.func48, Tryd.ntmps48
    go_wp2_with fail
    refine (truth_any _ _).mono ?_
    rintro e w1 ⟨rfl, hb1⟩
    have M1 := CB.next hb1 HM
    obtain ⟨d0, d1, d2, d3, d4, f0, f1, f2, f3, f4⟩ := five_cells (CB.at_ M1 (.head _))
    clear hb1
    go_wp2_with fail
    exact ret_kt (v := .int .i64 0) rfl rfl rfl rfl (set_five (CB.at_ M1 (.head _)) _ _ _ _ _) ⟨by rw [HE.out]; rfl, below_set5 M1.out.low (by omega) _ _ _ _ _⟩
  by_cases hle : op = ⟨#[60, 61]⟩
  · subst hle
    have HE := hide (ordP_le c)
    go_enter Tryd.func48, Tryd.ntmps48
    go_wp2_with fail
    refine (truth_any _ _).mono ?_
    rintro e w1 ⟨rfl, hb1⟩
    have M1 := CB.next hb1 HM
    obtain ⟨d0, d1, d2, d3, d4, f0, f1, f2, f3, f4⟩ := five_cells (CB.at_ M1 (.head _))
    clear hb1
    go_wp2_with fail
    exact ret_kt (v := .int .i64 0) rfl rfl rfl rfl (set_five (CB.at_ M1 (.head _)) _ _ _ _ _) ⟨by rw [HE.out]; rfl, below_set5 M1.out.low (by omega) _ _ _ _ _⟩
  by_cases hgt : op = ⟨#[62]⟩
  · subst hgt
    have HE := hide (ordP_gt c)
    go_enter Tryd.func48, Tryd.ntmps48
    go_wp2_with fail
    refine (truth_any _ _).mono ?_
    rintro e w1 ⟨rfl, hb1⟩
    have M1 := CB.next hb1 HM
    obtain ⟨d0, d1, d2, d3, d4, f0, f1, f2, f3, f4⟩ := five_cells (CB.at_ M1 (.head _))
    clear hb1
    go_wp2_with fail
    exact ret_kt (v := .int .i64 0) rfl rfl rfl rfl (set_five (CB.at_ M1 (.head _)) _ _ _ _ _) ⟨by rw [HE.out]; rfl, below_set5 M1.out.low (by omega) _ _ _ _ _⟩
  by_cases hge : op = ⟨#[62, 61]⟩
  · subst hge
    have HE := hide (ordP_ge c)
    go_enter Tryd.func48, Tryd.ntmps48
    go_wp2_with fail
    refine (truth_any _ _).mono ?_
    rintro e w1 ⟨rfl, hb1⟩
    have M1 := CB.next hb1 HM
    obtain ⟨d0, d1, d2, d3, d4, f0, f1, f2, f3, f4⟩ := five_cells (CB.at_ M1 (.head _))
    clear hb1
    go_wp2_with fail
    exact ret_kt (v := .int .i64 0) rfl rfl rfl rfl (set_five (CB.at_ M1 (.head _)) _ _ _ _ _) ⟨by rw [HE.out]; rfl, below_set5 M1.out.low (by omega) _ _ _ _ _⟩
  have HE := hide (ordP_odd c heq hne hlt hle hgt hge)
  have eeq := strF_ne heq
  rw [show (⟨#[61, 61]⟩ : ByteArray).toList = [61, 61] by rw [ByteArray.toList_eq]] at eeq
  have ene := strF_ne hne
  rw [show (⟨#[33, 61]⟩ : ByteArray).toList = [33, 61] by rw [ByteArray.toList_eq]] at ene
  have elt := strF_ne hlt
  rw [show (⟨#[60]⟩ : ByteArray).toList = [60] by rw [ByteArray.toList_eq]] at elt
  have ele := strF_ne hle
  rw [show (⟨#[60, 61]⟩ : ByteArray).toList = [60, 61] by rw [ByteArray.toList_eq]] at ele
  have egt := strF_ne hgt
  rw [show (⟨#[62]⟩ : ByteArray).toList = [62] by rw [ByteArray.toList_eq]] at egt
  have ege := strF_ne hge
  rw [show (⟨#[62, 61]⟩ : ByteArray).toList = [62, 61] by rw [ByteArray.toList_eq]] at ege
  clear heq hne hlt hle hgt hge
  go_enter Tryd.func48, Tryd.ntmps48
  go_wp2_with fail
  refine (none_any _ _).mono ?_
  rintro e w1 ⟨rfl, hb1⟩
  have M1 := CB.next hb1 HM
  obtain ⟨d0, d1, d2, d3, d4, f0, f1, f2, f3, f4⟩ := five_cells (CB.at_ M1 (.head _))
  clear hb1
  go_wp2_with fail
  exact ret_kt (v := .int .i64 9) rfl rfl rfl rfl (set_five (CB.at_ M1 (.head _)) _ _ _ _ _) ⟨by rw [HE.out]; rfl, below_set5 M1.out.low (by omega) _ _ _ _ _⟩

theorem numbers_mul_to (a b c d h l k er : Int) (HA : Hid (∀ W, Calls Tryd.prog 45 #[wv a b, wv c d] W fun e w' => e = .returned (.tuple #[wv h l, .int .i64 er]) ∧ Below W.heap.size W w'))
    (HC : Hid (∀ W, Calls Tryd.prog 20 #[wv h l, .int .i64 er] W fun e w' => e = .returned (.tuple #[kon k h l false ⟨#[]⟩, .int .i64 er]) ∧ Below W.heap.size W w')) (w : World) :
    Calls Tryd.prog 28 #[.string ⟨#[42]⟩, wv a b, wv c d] w fun e w' => e = .returned (.tuple #[kon k h l false ⟨#[]⟩, .int .i64 er]) ∧ Below w.heap.size w w' := by
  have HM := cb3 w 24 24 26 #[.int .u64 a, .int .u64 b] #[.int .u64 c, .int .u64 d] kon0
  go_enter Tryd.func28, Tryd.ntmps28
  go_wp2_with fail
  refine (HA.out _).mono ?_
  rintro e w1 ⟨rfl, hb1⟩
  have M1 := CB.next hb1 HM
  clear hb1
  go_wp2_with fail
  refine (HC.out _).mono ?_
  rintro e w1 ⟨rfl, hb1⟩
  have M2 := CB.next hb1 M1
  obtain ⟨d0, d1, d2, d3, d4, f0, f1, f2, f3, f4⟩ := five_cells (CB.at_ M2 (.head _))
  clear hb1
  go_wp2_with fail
  exact ret_kt (v := .int .i64 er) rfl rfl rfl rfl (set_five (CB.at_ M2 (.head _)) _ _ _ _ _) ⟨rfl, below_set5 M2.out.low (by omega) _ _ _ _ _⟩

theorem numbers_quo_to (a b c d h l k er : Int) (HA : Hid (∀ W, Calls Tryd.prog 46 #[wv a b, wv c d] W fun e w' => e = .returned (.tuple #[wv h l, .int .i64 er]) ∧ Below W.heap.size W w'))
    (HC : Hid (∀ W, Calls Tryd.prog 20 #[wv h l, .int .i64 er] W fun e w' => e = .returned (.tuple #[kon k h l false ⟨#[]⟩, .int .i64 er]) ∧ Below W.heap.size W w')) (w : World) :
    Calls Tryd.prog 28 #[.string ⟨#[47]⟩, wv a b, wv c d] w fun e w' => e = .returned (.tuple #[kon k h l false ⟨#[]⟩, .int .i64 er]) ∧ Below w.heap.size w w' := by
  have HM := cb3 w 24 24 26 #[.int .u64 a, .int .u64 b] #[.int .u64 c, .int .u64 d] kon0
  go_enter Tryd.func28, Tryd.ntmps28
  go_wp2_with fail
  refine (HA.out _).mono ?_
  rintro e w1 ⟨rfl, hb1⟩
  have M1 := CB.next hb1 HM
  clear hb1
  go_wp2_with fail
  refine (HC.out _).mono ?_
  rintro e w1 ⟨rfl, hb1⟩
  have M2 := CB.next hb1 M1
  obtain ⟨d0, d1, d2, d3, d4, f0, f1, f2, f3, f4⟩ := five_cells (CB.at_ M2 (.head _))
  clear hb1
  go_wp2_with fail
  exact ret_kt (v := .int .i64 er) rfl rfl rfl rfl (set_five (CB.at_ M2 (.head _)) _ _ _ _ _) ⟨rfl, below_set5 M2.out.low (by omega) _ _ _ _ _⟩

theorem numbers_rem_to (a b c d h l k er : Int) (HA : Hid (∀ W, Calls Tryd.prog 47 #[wv a b, wv c d] W fun e w' => e = .returned (.tuple #[wv h l, .int .i64 er]) ∧ Below W.heap.size W w'))
    (HC : Hid (∀ W, Calls Tryd.prog 20 #[wv h l, .int .i64 er] W fun e w' => e = .returned (.tuple #[kon k h l false ⟨#[]⟩, .int .i64 er]) ∧ Below W.heap.size W w')) (w : World) :
    Calls Tryd.prog 28 #[.string ⟨#[37]⟩, wv a b, wv c d] w fun e w' => e = .returned (.tuple #[kon k h l false ⟨#[]⟩, .int .i64 er]) ∧ Below w.heap.size w w' := by
  have HM := cb3 w 24 24 26 #[.int .u64 a, .int .u64 b] #[.int .u64 c, .int .u64 d] kon0
  go_enter Tryd.func28, Tryd.ntmps28
  go_wp2_with fail
  refine (HA.out _).mono ?_
  rintro e w1 ⟨rfl, hb1⟩
  have M1 := CB.next hb1 HM
  clear hb1
  go_wp2_with fail
  refine (HC.out _).mono ?_
  rintro e w1 ⟨rfl, hb1⟩
  have M2 := CB.next hb1 M1
  obtain ⟨d0, d1, d2, d3, d4, f0, f1, f2, f3, f4⟩ := five_cells (CB.at_ M2 (.head _))
  clear hb1
  go_wp2_with fail
  exact ret_kt (v := .int .i64 er) rfl rfl rfl rfl (set_five (CB.at_ M2 (.head _)) _ _ _ _ _) ⟨rfl, below_set5 M2.out.low (by omega) _ _ _ _ _⟩

theorem numbers_ord_to (op : ByteArray) (hadd : op ≠ ⟨#[43]⟩) (hsub : op ≠ ⟨#[45]⟩) (hmul : op ≠ ⟨#[42]⟩) (hquo : op ≠ ⟨#[47]⟩) (hrem : op ≠ ⟨#[37]⟩) (a b c d o k er : Int) (r : Bool) (HA : Hid (∀ W, Calls Tryd.prog 49 #[wv a b, wv c d] W fun e w' => e = .returned (.int .i64 o) ∧ Below W.heap.size W w'))
    (HC : Hid (∀ W, Calls Tryd.prog 48 #[.string op, .int .i64 o] W fun e w' => e = .returned (.tuple #[kon k 0 0 r ⟨#[]⟩, .int .i64 er]) ∧ Below W.heap.size W w')) (w : World) :
    Calls Tryd.prog 28 #[.string op, wv a b, wv c d] w fun e w' => e = .returned (.tuple #[kon k 0 0 r ⟨#[]⟩, .int .i64 er]) ∧ Below w.heap.size w w' := by
  have HM := cb3 w 24 24 26 #[.int .u64 a, .int .u64 b] #[.int .u64 c, .int .u64 d] kon0
  have eadd := strF_ne hadd
  rw [show (⟨#[43]⟩ : ByteArray).toList = [43] by rw [ByteArray.toList_eq]] at eadd
  have esub := strF_ne hsub
  rw [show (⟨#[45]⟩ : ByteArray).toList = [45] by rw [ByteArray.toList_eq]] at esub
  have emul := strF_ne hmul
  rw [show (⟨#[42]⟩ : ByteArray).toList = [42] by rw [ByteArray.toList_eq]] at emul
  have equo := strF_ne hquo
  rw [show (⟨#[47]⟩ : ByteArray).toList = [47] by rw [ByteArray.toList_eq]] at equo
  have erem := strF_ne hrem
  rw [show (⟨#[37]⟩ : ByteArray).toList = [37] by rw [ByteArray.toList_eq]] at erem
  clear hadd hsub hmul hquo hrem
  go_enter Tryd.func28, Tryd.ntmps28
  go_wp2_with fail
  refine (HA.out _).mono ?_
  rintro e w1 ⟨rfl, hb1⟩
  have M1 := CB.next hb1 HM
  clear hb1
  go_wp2_with fail
  refine (HC.out _).mono ?_
  rintro e w1 ⟨rfl, hb1⟩
  have M2 := CB.next hb1 M1
  obtain ⟨d0, d1, d2, d3, d4, f0, f1, f2, f3, f4⟩ := five_cells (CB.at_ M2 (.head _))
  clear hb1
  go_wp2_with fail
  exact ret_kt (v := .int .i64 er) rfl rfl rfl rfl (set_five (CB.at_ M2 (.head _)) _ _ _ _ _) ⟨rfl, below_set5 M2.out.low (by omega) _ _ _ _ _⟩

theorem truths_odd (op : ByteArray) (hand : op ≠ ⟨#[38, 38]⟩) (hor : op ≠ ⟨#[124, 124]⟩) (heq : op ≠ ⟨#[61, 61]⟩) (hne : op ≠ ⟨#[33, 61]⟩) (x y : Bool) (w : World) : Calls Tryd.prog 29 #[.string op, .bool x, .bool y] w fun e w' => e = .returned (.tuple #[kon 0 0 0 false ⟨#[]⟩, .int .i64 9]) ∧ Below w.heap.size w w' := by
  have HM := CB.add 26 kon0 (CB.nil w)
  have eand := strF_ne hand
  rw [show (⟨#[38, 38]⟩ : ByteArray).toList = [38, 38] by rw [ByteArray.toList_eq]] at eand
  have eor := strF_ne hor
  rw [show (⟨#[124, 124]⟩ : ByteArray).toList = [124, 124] by rw [ByteArray.toList_eq]] at eor
  have eeq := strF_ne heq
  rw [show (⟨#[61, 61]⟩ : ByteArray).toList = [61, 61] by rw [ByteArray.toList_eq]] at eeq
  have ene := strF_ne hne
  rw [show (⟨#[33, 61]⟩ : ByteArray).toList = [33, 61] by rw [ByteArray.toList_eq]] at ene
  clear hand hor heq hne
  go_enter Tryd.func29, Tryd.ntmps29
  go_wp2_with fail
  refine (none_any _ _).mono ?_
  rintro e w1 ⟨rfl, hb1⟩
  have M1 := CB.next hb1 HM
  obtain ⟨d0, d1, d2, d3, d4, f0, f1, f2, f3, f4⟩ := five_cells (CB.at_ M1 (.head _))
  clear hb1
  go_wp2_with fail
  exact ret_kt (v := .int .i64 9) rfl rfl rfl rfl (set_five (CB.at_ M1 (.head _)) _ _ _ _ _) ⟨rfl, below_set5 M1.out.low (by omega) _ _ _ _ _⟩

theorem texts_ord_to (op : ByteArray) (hadd : op ≠ ⟨#[43]⟩) (s t : ByteArray) (o k er : Int) (r : Bool) (HA : Hid (∀ W, Calls Tryd.prog 50 #[.string s, .string t] W fun e w' => e = .returned (.int .i64 o) ∧ W = w'))
    (HC : Hid (∀ W, Calls Tryd.prog 48 #[.string op, .int .i64 o] W fun e w' => e = .returned (.tuple #[kon k 0 0 r ⟨#[]⟩, .int .i64 er]) ∧ Below W.heap.size W w')) (w : World) :
    Calls Tryd.prog 30 #[.string op, .string s, .string t] w fun e w' => e = .returned (.tuple #[kon k 0 0 r ⟨#[]⟩, .int .i64 er]) ∧ Below w.heap.size w w' := by
  have HM := CB.add 26 kon0 (CB.nil w)
  have eadd := strF_ne hadd
  rw [show (⟨#[43]⟩ : ByteArray).toList = [43] by rw [ByteArray.toList_eq]] at eadd
  clear hadd
  go_enter Tryd.func30, Tryd.ntmps30
  go_wp2_with fail
  refine (HA.out _).mono ?_
  rintro e w1 ⟨rfl, rfl⟩
  go_wp2_with fail
  refine (HC.out _).mono ?_
  rintro e w1 ⟨rfl, hb1⟩
  have M2 := CB.next hb1 HM
  obtain ⟨d0, d1, d2, d3, d4, f0, f1, f2, f3, f4⟩ := five_cells (CB.at_ M2 (.head _))
  clear hb1
  go_wp2_with fail
  exact ret_kt (v := .int .i64 er) rfl rfl rfl rfl (set_five (CB.at_ M2 (.head _)) _ _ _ _ _) ⟨rfl, below_set5 M2.out.low (by omega) _ _ _ _ _⟩

theorem unary_odd_op (op : ByteArray) (ka : Int) (hsub : op ≠ ⟨#[45]⟩) (hnot : op ≠ ⟨#[33]⟩) (h l : Int) (x : Bool) (s : ByteArray) (w : World) : Calls Tryd.prog 9 #[.string op, kon ka h l x s] w fun e w' => e = .returned (.tuple #[kon 0 0 0 false ⟨#[]⟩, .int .i64 9]) ∧ Below w.heap.size w w' := by
  have HM := CB.add 26 kon0 (CB.add 26 (konA ka h l x s) (CB.nil w))
  simp only [World.size_alloc] at HM
  have esub := strF_ne hsub
  rw [show (⟨#[45]⟩ : ByteArray).toList = [45] by rw [ByteArray.toList_eq]] at esub
  have enot := strF_ne hnot
  rw [show (⟨#[33]⟩ : ByteArray).toList = [33] by rw [ByteArray.toList_eq]] at enot
  clear hsub hnot
  go_enter Tryd.func9, Tryd.ntmps9
  go_wp2_with fail
  refine (none_any _ _).mono ?_
  rintro e w1 ⟨rfl, hb1⟩
  have M1 := CB.next hb1 HM
  obtain ⟨d0, d1, d2, d3, d4, f0, f1, f2, f3, f4⟩ := five_cells (CB.at_ M1 (.head _))
  clear hb1
  go_wp2_with fail
  exact ret_kt (v := .int .i64 9) rfl rfl rfl rfl (set_five (CB.at_ M1 (.head _)) _ _ _ _ _) ⟨rfl, below_set5 M1.out.low (by omega) _ _ _ _ _⟩

theorem unary_sub_odd (ka : Int) (hk : ka ≠ 1) (h l : Int) (x : Bool) (s : ByteArray) (w : World) : Calls Tryd.prog 9 #[.string ⟨#[45]⟩, kon ka h l x s] w fun e w' => e = .returned (.tuple #[kon 0 0 0 false ⟨#[]⟩, .int .i64 9]) ∧ Below w.heap.size w w' := by
  have HM := CB.add 26 kon0 (CB.add 26 (konA ka h l x s) (CB.nil w))
  simp only [World.size_alloc] at HM
  have hk1 : (ka == 1) = false := by rw [beq_eq_false_iff_ne]; exact hk
  go_enter Tryd.func9, Tryd.ntmps9
  go_wp2_with fail
  refine (none_any _ _).mono ?_
  rintro e w1 ⟨rfl, hb1⟩
  have M1 := CB.next hb1 HM
  obtain ⟨d0, d1, d2, d3, d4, f0, f1, f2, f3, f4⟩ := five_cells (CB.at_ M1 (.head _))
  clear hb1
  go_wp2_with fail
  exact ret_kt (v := .int .i64 9) rfl rfl rfl rfl (set_five (CB.at_ M1 (.head _)) _ _ _ _ _) ⟨rfl, below_set5 M1.out.low (by omega) _ _ _ _ _⟩

theorem unary_not_odd (ka : Int) (hk : ka ≠ 2) (h l : Int) (x : Bool) (s : ByteArray) (w : World) : Calls Tryd.prog 9 #[.string ⟨#[33]⟩, kon ka h l x s] w fun e w' => e = .returned (.tuple #[kon 0 0 0 false ⟨#[]⟩, .int .i64 9]) ∧ Below w.heap.size w w' := by
  have HM := CB.add 26 kon0 (CB.add 26 (konA ka h l x s) (CB.nil w))
  simp only [World.size_alloc] at HM
  have hk1 : (ka == 2) = false := by rw [beq_eq_false_iff_ne]; exact hk
  go_enter Tryd.func9, Tryd.ntmps9
  go_wp2_with fail
  refine (none_any _ _).mono ?_
  rintro e w1 ⟨rfl, hb1⟩
  have M1 := CB.next hb1 HM
  obtain ⟨d0, d1, d2, d3, d4, f0, f1, f2, f3, f4⟩ := five_cells (CB.at_ M1 (.head _))
  clear hb1
  go_wp2_with fail
  exact ret_kt (v := .int .i64 9) rfl rfl rfl rfl (set_five (CB.at_ M1 (.head _)) _ _ _ _ _) ⟨rfl, below_set5 M1.out.low (by omega) _ _ _ _ _⟩
end Go.Proofs.YtgleldpdelhhhaaDoor

namespace Go.Proofs.YtgleldpdelhhhaaDoor
open Go.RowKit Go.WideShapes Go.ChangeShapes
set_option linter.unusedVariables false
set_option maxRecDepth 100000

/-- A number as a constant and an error. -/
def ansK (z : Int) : Value := .tuple #[kon (kindW z) (hiW (valW z)) (loW (valW z)) false ⟨#[]⟩, .int .i64 (errW z)]
theorem rtruth_any (b : Bool) (w : World) : Calls Tryd.prog 27 #[.bool b] w fun e w' => e = .returned (.tuple #[kon 2 0 0 b ⟨#[]⟩, .int .i64 0]) ∧ Below w.heap.size w w' := by
  go_enter Tryd.func27, Tryd.ntmps27
  go_wp2_with fail
  exact ret_kt (v := .int .i64 0) rfl rfl rfl rfl (Blk.new _ _ _) ⟨rfl, (Below.refl _ _).alloc (Nat.le_refl _) _⟩
theorem NB.ofC {w W : World} {gs : List (Nat × TypeId × Array Value)} (h : Hid (NB w gs W)) : Hid (CB w gs W) := hide ⟨h.out.bl, h.out.low⟩
theorem rnumber_any {w : World} {n c : Nat} {A : Option Addr} (z : Int) {s : Bool} (hs : s = decide (z < 0)) (h : Dg w A n (dgs z.natAbs)) (hn : n ≤ 400) (hc : n ≤ c) :
    Calls Tryd.prog 24 #[.agg #[.bool s, .slice A n c]] w fun e w' => e = .returned (ansK z) ∧ Below w.heap.size w w' := by
  obtain ⟨p, hp⟩ : ∃ p, p = hiW (valW z) := ⟨_, rfl⟩
  obtain ⟨q, hq⟩ : ∃ p, p = loW (valW z) := ⟨_, rfl⟩
  obtain ⟨er, her⟩ : ∃ p, p = errW z := ⟨_, rfl⟩
  have HAN := hide (fun (W : World) (hb : Below w.heap.size w W) => (show Calls Tryd.prog 17 #[.agg #[.bool s, .slice A n c]] W fun e w' => e = .returned (.tuple #[wv p q, .int .i64 er]) ∧ Below W.heap.size W w' from by rw [hp, hq, her, ← ansW_val, hs]; exact ref_answer z (h.below hb) (by omega) hc))
  have hk : ansK z = .tuple #[kon (kindW z) p q false ⟨#[]⟩, .int .i64 er] := by unfold ansK; rw [hp, hq, her]
  have hcs : (er = 0 ∧ kindW z = 1) ∨ (er = 10 ∧ kindW z = 0 ∧ p = 0 ∧ q = 0) := by
    by_cases hf : Fits z
    · have h1 := valW_yes hf
      exact .inl ⟨by rw [her, h1.2], by unfold kindW; rw [if_pos hf]⟩
    · have h1 := valW_no hf
      exact .inr ⟨by rw [her, h1.2], by unfold kindW; rw [if_neg hf], by rw [hp, h1.1]; rfl, by rw [hq, h1.1]; rfl⟩
  have HK := hide hk
  have HB := NB.add 26 kon0 (NB.add 43 #[.bool s, .slice A n c] (NB.nil w))
  clear h hs hp hq her hk
  go_enter Tryd.func24, Tryd.ntmps24
  go_upto_region 1 with (fail)
  obtain ⟨W, hW⟩ : ∃ W : World, W = ((w.alloc (.cells #[.bool s, .slice A n c] 43)).alloc (.cells kon0 26)) := ⟨_, rfl⟩
  obtain ⟨g0, hg0⟩ : ∃ g, g = w.heap.size := ⟨_, rfl⟩
  obtain ⟨g1, hg1⟩ : ∃ g, g = (w.alloc (.cells #[.bool s, .slice A n c] 43)).heap.size := ⟨_, rfl⟩
  have hg1' : w.heap.size + 1 = g1 := by rw [hg1]; simp
  rw [← hW] at HB ⊢
  rw [← hg1, ← hg0] at HB
  try rw [hg1']
  try rw [← hg0]
  obtain ⟨c0, c1, e0, e1⟩ := two_cellsN (NB.at_ HB (.tail _ (.head _)))
  clear hW hg0 hg1 hg1'
  go_wp2_with fail
  refine (HAN.out _ HB.out.low).mono ?_
  rintro e w1 ⟨rfl, hb1⟩
  have HB1 := NB.next hb1 HB
  have HB2 := NB.add 24 #[.int .u64 p, .int .u64 q] HB1
  obtain ⟨z0, z1, y0, y1⟩ := two_cellsN (NB.at_ HB2 (.head _))
  have HB3 := NB.ofC HB2
  obtain ⟨d0, d1, d2, d3, d4, f0, f1, f2, f3, f4⟩ := five_cells (CB.at_ HB3 (.tail _ (.head _)))
  have e1 := HB2.out.ge _ (List.Mem.tail _ (List.Mem.head _))
  clear hb1
  rcases hcs with ⟨rfl, hkw⟩ | ⟨rfl, hkw, rfl, rfl⟩
  · have hkk := HK.out
    rw [hkw] at hkk
    have HE := hide hkk
    clear hkk hkw HK
    go_wp2_with fail
    exact ret_kt (v := .int .i64 0) rfl rfl rfl rfl (set_five (CB.at_ HB3 (.tail _ (.head _))) _ _ _ _ _) ⟨by rw [HE.out], below_set5 HB3.out.low e1 _ _ _ _ _⟩
  · have hkk := HK.out
    rw [hkw] at hkk
    have HE := hide hkk
    clear hkk hkw HK
    go_wp2_with fail
    exact ret_kt (v := .int .i64 10) rfl rfl rfl rfl (set_five (CB.at_ HB3 (.tail _ (.head _))) _ _ _ _ _) ⟨by rw [HE.out], below_set5 HB3.out.low e1 _ _ _ _ _⟩
end Go.Proofs.YtgleldpdelhhhaaDoor

namespace Go.Proofs.YtgleldpdelhhhaaDoor
open Go.RowKit Go.WideShapes Go.ChangeShapes
set_option linter.unusedVariables false
set_option maxRecDepth 100000

def cmpL (x y : List UInt8) : Int := if Op.bytesLess x y = true then -1 else if (x == y) = true then 0 else 1
theorem cmpL_s (s t : ByteArray) : cmpS s t = cmpL s.data.toList t.data.toList := by unfold cmpS cmpL; rw [ByteArray.toList_eq, ByteArray.toList_eq]
theorem cmpL_nil : cmpL [] [] = 0 := rfl
theorem cmpL_left (b : UInt8) (y : List UInt8) : cmpL [] (b :: y) = -1 := rfl
theorem cmpL_right (a : UInt8) (x : List UInt8) : cmpL (a :: x) [] = 1 := rfl
theorem cmpL_lt {a b : UInt8} (x y : List UInt8) (h : a.toNat < b.toNat) : cmpL (a :: x) (b :: y) = -1 := by
  have h1 : a < b := UInt8.lt_iff_toNat_lt.2 h
  unfold cmpL; simp [Op.bytesLess, h1]
theorem cmpL_gt {a b : UInt8} (x y : List UInt8) (h : b.toNat < a.toNat) : cmpL (a :: x) (b :: y) = 1 := by
  have h1 : b < a := UInt8.lt_iff_toNat_lt.2 h
  have h2 : ¬ a < b := fun e => by have := UInt8.lt_iff_toNat_lt.1 e; omega
  have h3 : a ≠ b := fun e => by subst e; omega
  unfold cmpL; simp [Op.bytesLess, h2, h3]
theorem cmpL_eq {a b : UInt8} (x y : List UInt8) (h : a.toNat = b.toNat) : cmpL (a :: x) (b :: y) = cmpL x y := by
  obtain rfl := UInt8.toNat_inj.1 h
  have h2 : ¬ a < a := fun e => by have := UInt8.lt_iff_toNat_lt.1 e; omega
  unfold cmpL; simp [Op.bytesLess, h2]
theorem drop_str (s : ByteArray) (k : Nat) (h : k < s.size) : s.data.toList.drop k = s[k] :: s.data.toList.drop (k + 1) := by
  rw [List.drop_eq_getElem_cons (by simpa using h)]
  rfl
theorem drop_out (s : ByteArray) (k : Nat) (h : ¬ k < s.size) : s.data.toList.drop k = [] := List.drop_of_length_le (by simpa using Nat.le_of_not_lt h)

/-- How far the comparison of texts has come. -/
def RTextsRel (w : World) (s t : ByteArray) (i : Value) (wr : World) : Prop :=
  ∃ k : Nat, i = .int .i64 (k : Int) ∧ k ≤ s.size ∧ k ≤ t.size ∧ cmpS s t = cmpL (s.data.toList.drop k) (t.data.toList.drop k) ∧ Below w.heap.size w wr

set_option maxHeartbeats 4000000 in
theorem rtexts_any (s t : ByteArray) (hs : s.size ≤ 4611686018427387904) (ht : t.size ≤ 4611686018427387904) (w : World) :
    Calls Tryd.prog 33 #[.string s, .string t] w fun e w' => e = .returned (.int .i64 (cmpS s t)) ∧ Below w.heap.size w w' := by
  obtain ⟨c, hc⟩ : ∃ c, c = cmpS s t := ⟨_, rfl⟩
  rw [← hc]
  have HC := hide hc
  have HS := hide (And.intro hs ht)
  have hz : s.size ≤ 9223372036854775807 := by omega
  have hz2 : t.size ≤ 9223372036854775807 := by omega
  clear hc
  go_enter Tryd.func33, Tryd.ntmps33
  go_wp2_with fail
  go_loopw [5] (fun i wr => RTextsRel w s t i wr) (fun i _ => (((s.size : Int) - intOf i).toNat))
  case atStart => exact ⟨0, rfl, Nat.zero_le _, Nat.zero_le _, by rw [cmpL_s]; rfl, Below.refl _ _⟩
  case round =>
    obtain ⟨k, rfl, hks, hkt, hcm, hlow⟩ := hrel
    have HCM := hide hcm
    have HLW := hide hlow
    clear hcm hlow
    by_cases h1 : k < s.size
    · by_cases h2 : k < t.size
      · have e1 := drop_str s k h1
        have e2 := drop_str t k h2
        have hcm := HCM.out
        rw [e1, e2] at hcm
        have i1 : (k : Int) < (s.size : Int) := by omega
        have i2 : (k : Int) < (t.size : Int) := by omega
        obtain ⟨a, ha⟩ : ∃ a : Nat, a = (s[k]'h1).toNat := ⟨_, rfl⟩
        obtain ⟨b, hb⟩ : ∃ b : Nat, b = (t[k]'h2).toNat := ⟨_, rfl⟩
        have haI : ((s[k]'h1).toNat : Int) = (a : Int) := by rw [ha]
        have hbI : ((t[k]'h2).toNat : Int) = (b : Int) := by rw [hb]
        rcases Nat.lt_trichotomy a b with g | g | g
        · rw [cmpL_lt _ _ (by omega)] at hcm
          have HE := hide (HC.out.trans hcm)
          clear hcm e1 e2 ha hb
          have g1 : (a : Int) < (b : Int) := by omega
          go_wp2_with fail
          go_still_tail 6, (by kernel_rfl)
          go_wp2_with fail
          go_ret
          exact ⟨by rw [HE.out]; rfl, by first | exact HLW.out | exact HLW.out.drew⟩
        · rw [cmpL_eq _ _ (by omega)] at hcm
          have HE := hide hcm
          clear hcm e1 e2 ha hb
          have g1 : ¬ (a : Int) < (b : Int) := by omega
          have g2 : ¬ (b : Int) < (a : Int) := by omega
          subst g
          go_wp2_with fail
          go_still_tail 6, (by kernel_rfl)
          go_wp2_with fail
          go_still_tail 6, (by kernel_rfl)
          go_wp2_with fail
          exact ⟨⟨k + 1, by simp, by omega, by omega, HE.out, by first | exact HLW.out | exact HLW.out.drew | exact HLW.out.drew.drew⟩, by simp [intOf]; omega⟩
        · rw [cmpL_gt _ _ (by omega)] at hcm
          have HE := hide (HC.out.trans hcm)
          clear hcm e1 e2 ha hb
          have g1 : ¬ (a : Int) < (b : Int) := by omega
          have g2 : (b : Int) < (a : Int) := by omega
          go_wp2_with fail
          go_still_tail 6, (by kernel_rfl)
          go_wp2_with fail
          go_still_tail 6, (by kernel_rfl)
          go_wp2_with fail
          go_ret
          exact ⟨by rw [HE.out]; rfl, by first | exact HLW.out | exact HLW.out.drew | exact HLW.out.drew.drew⟩
      · have e2 := drop_out t k h2
        have hcm := HCM.out
        rw [drop_str s k h1, e2, cmpL_right] at hcm
        have HE := hide (HC.out.trans hcm)
        have hkk : k = t.size := by omega
        subst hkk
        clear hcm e2 HCM
        have i1 : (t.size : Int) < (s.size : Int) := by omega
        have i2 : ¬ (s.size : Int) < (t.size : Int) := by omega
        go_wp2_with fail
        go_ret
        exact ⟨by rw [HE.out]; rfl, HLW.out⟩
    · have e1 := drop_out s k h1
      have hcm := HCM.out
      have hkk : k = s.size := by omega
      subst hkk
      by_cases h2 : s.size < t.size
      · rw [e1, drop_str t _ h2, cmpL_left] at hcm
        have HE := hide (HC.out.trans hcm)
        clear hcm e1 HCM
        have i1 : (s.size : Int) < (t.size : Int) := by omega
        go_wp2_with fail
        go_ret
        exact ⟨by rw [HE.out]; rfl, HLW.out⟩
      · rw [e1, drop_out t _ h2, cmpL_nil] at hcm
        have HE := hide (HC.out.trans hcm)
        clear hcm e1 HCM
        have hst : t.size = s.size := by omega
        have i1 : ¬ (s.size : Int) < (t.size : Int) := by omega
        have i2 : ¬ (t.size : Int) < (s.size : Int) := by omega
        go_wp2_with fail
        go_ret
        exact ⟨by rw [HE.out]; rfl, HLW.out⟩
end Go.Proofs.YtgleldpdelhhhaaDoor

namespace Go.Proofs.YtgleldpdelhhhaaDoor
open Go.RowKit Go.WideShapes Go.ChangeShapes
set_option linter.unusedVariables false
set_option maxRecDepth 100000

theorem len39 {x : Int} (hx : Fits x) {w : World} {A : Option Addr} {k : Nat} (h : Dg w A k (dgs x.natAbs)) : k ≤ 39 := by have := fits_len hx; have := h.1; omega
theorem len80 {z : Int} (hz : z.natAbs < 10 ^ 80) {w : World} {A : Option Addr} {k : Nat} (h : Dg w A k (dgs z.natAbs)) : k ≤ 400 := by have := dgs_len _ 80 hz; have := h.1; omega
/-- number's contract in variables. -/
def NumK (z : Int) (s : Bool) (v : Nat) (kd p q er : Int) : Prop :=
  ∀ (W : World) (n c : Nat) (A : Option Addr), Dg W A n (dgs v) → n ≤ c → Calls Tryd.prog 24 #[.agg #[.bool s, .slice A n c]] W fun e w' => e = .returned (.tuple #[kon kd p q false ⟨#[]⟩, .int .i64 er]) ∧ Below W.heap.size W w'
theorem numK (z : Int) (hz : z.natAbs < 10 ^ 80) : ∃ s v kd p q er, s = decide (z < 0) ∧ v = z.natAbs ∧ ansK z = .tuple #[kon kd p q false ⟨#[]⟩, .int .i64 er] ∧ Hid (NumK z s v kd p q er) :=
  ⟨_, _, _, _, _, _, rfl, rfl, rfl, hide fun W n c A h hc => rnumber_any z rfl h (len80 hz h) hc⟩

set_option maxHeartbeats 8000000 in
theorem ints_add {x y : Int} (hx : Fits x) (hy : Fits y) (w : World) : Calls Tryd.prog 31 #[.string ⟨#[43]⟩, wv (hiW x) (loW x), wv (hiW y) (loW y)] w fun e w' => e = .returned (ansK (x + y)) ∧ Below w.heap.size w w' := by
  have hor : ordP ⟨#[43]⟩ (cmpI x y) = none := by unfold ordP; simp (decide := true)
  obtain ⟨s, hs⟩ : ∃ s, s = decide (x < 0) := ⟨_, rfl⟩
  obtain ⟨s', hs'⟩ : ∃ s, s = decide (y < 0) := ⟨_, rfl⟩
  obtain ⟨o, ho⟩ : ∃ o, o = cmpI x y := ⟨_, rfl⟩
  obtain ⟨p, hp⟩ : ∃ o, o = hiW x := ⟨_, rfl⟩
  obtain ⟨q, hq⟩ : ∃ o, o = loW x := ⟨_, rfl⟩
  obtain ⟨p', hp'⟩ : ∃ o, o = hiW y := ⟨_, rfl⟩
  obtain ⟨q', hq'⟩ : ∃ o, o = loW y := ⟨_, rfl⟩
  have HX := hide (fun W => (show Calls Tryd.prog 26 #[wv p q] W (NumS W s x.natAbs) from by rw [hp, hq, hs]; exact ref_of hx W))
  have HY := hide (fun W => (show Calls Tryd.prog 26 #[wv p' q'] W (NumS W s' y.natAbs) from by rw [hp', hq', hs']; exact ref_of hy W))
  have HCM := hide (fun (W : World) (A A' : Option Addr) (k k' c c' : Nat) (h : Dg W A k (dgs x.natAbs)) (h' : Dg W A' k' (dgs y.natAbs)) (hc : k ≤ c) (hc' : k' ≤ c') => (show Calls Tryd.prog 51 #[.agg #[.bool s, .slice A k c], .agg #[.bool s', .slice A' k' c']] W fun e w' => e = .returned (.int .i64 o) ∧ Below W.heap.size W w' from by rw [hs, hs', ho]; exact ref_cmp x y h h' (by have := len39 hx h; omega) (by have := len39 hy h'; omega) hc hc'))
  rw [← hp, ← hq, ← hp', ← hq']
  rw [← ho] at hor
  have HOR := hide (fun W => (show Calls Tryd.prog 32 #[.string ⟨#[43]⟩, .int .i64 o] W fun e w' => e = .returned (.tuple #[.bool false, .bool false]) ∧ W = w' from by have := order_any ⟨#[43]⟩ o W; rw [hor] at this; exact this))
  have HB := NB.add 26 kon0 (NB.add 24 #[.int .u64 p', .int .u64 q'] (NB.add 24 #[.int .u64 p, .int .u64 q] (NB.nil w)))
  obtain ⟨sz, vz, kd, zp, zq, er, hsz, hvz, hk, HNU⟩ := numK (x + y) (by unfold Fits at hx hy; omega)
  have HAD := hide (fun (W : World) (A A' : Option Addr) (k k' c c' : Nat) (h : Dg W A k (dgs x.natAbs)) (h' : Dg W A' k' (dgs y.natAbs)) (hc : k ≤ c) (hc' : k' ≤ c') => (show Calls Tryd.prog 52 #[.agg #[.bool s, .slice A k c], .agg #[.bool s', .slice A' k' c']] W (NumS W sz vz) from by rw [hs, hs', hsz, hvz]; exact ref_add x y h h' (by have := len39 hx h; omega) (by have := len39 hy h'; omega) hc hc'))
  have HK := hide hk
  clear hsz hvz hk
  clear hp hq hp' hq' ho hor
  go_enter Tryd.func31, Tryd.ntmps31
  go_upto_region 1 with (fail)
  obtain ⟨W, hW⟩ : ∃ W : World, W = (((w.alloc (.cells #[.int .u64 p, .int .u64 q] 24)).alloc (.cells #[.int .u64 p', .int .u64 q'] 24)).alloc (.cells kon0 26)) := ⟨_, rfl⟩
  obtain ⟨g0, hg0⟩ : ∃ g, g = w.heap.size := ⟨_, rfl⟩
  obtain ⟨g1, hg1⟩ : ∃ g, g = (w.alloc (.cells #[.int .u64 p, .int .u64 q] 24)).heap.size := ⟨_, rfl⟩
  obtain ⟨g2, hg2⟩ : ∃ g, g = ((w.alloc (.cells #[.int .u64 p, .int .u64 q] 24)).alloc (.cells #[.int .u64 p', .int .u64 q'] 24)).heap.size := ⟨_, rfl⟩
  have hg1' : w.heap.size + 1 = g1 := by rw [hg1]; simp
  have hg2' : g1 + 1 = g2 := by rw [hg2, hg1]; simp
  rw [← hW] at HB ⊢
  rw [← hg2, ← hg1, ← hg0] at HB
  try rw [hg1']
  try rw [hg2']
  try rw [← hg0]
  obtain ⟨c0, c1, e0, e1⟩ := two_cellsN (NB.at_ HB (.tail _ (.tail _ (.head _))))
  clear hW hg0 hg1 hg1' hg2 hg2'
  go_wp2_with fail
  refine (HX.out _).mono ?_
  rintro e w1 ⟨A1, k1, t1, rfl, hd1, ht1, hb1⟩
  have HB1 := NB.next hb1 HB
  have HB2 := NB.add NumT #[.bool s, .slice A1 k1 t1] HB1
  obtain ⟨j0, j1, z0, z1⟩ := two_cellsN (NB.at_ HB2 (.tail _ (.tail _ (.head _))))
  obtain ⟨g3, hg3⟩ : ∃ g, g = w1.heap.size := ⟨_, rfl⟩
  have HDA := hide (hd1.alloc (.cells #[.bool s, .slice A1 k1 t1] NumT))
  clear hb1 hd1 hs hs'
  go_wp2_with fail
  refine (HY.out _).mono ?_
  rintro e w2 ⟨A2, k2, t2, rfl, hd2, ht2, hb2⟩
  have hd1 := ((HDA.out.below hb2).alloc (.cells #[.bool s', .slice A2 k2 t2] NumT))
  have hd2 := hd2.alloc (.cells #[.bool s', .slice A2 k2 t2] NumT)
  have HB3 := NB.add NumT #[.bool s', .slice A2 k2 t2] (NB.next hb2 HB2)
  rw [← hg3] at HB3
  try rw [← hg3]
  clear hb2 hg3 j0 j1 z0 z1
  obtain ⟨g4, hg4⟩ : ∃ g, g = w2.heap.size := ⟨_, rfl⟩
  obtain ⟨W3, hW3⟩ : ∃ W, W = w2.alloc (.cells #[.bool s', .slice A2 k2 t2] NumT) := ⟨_, rfl⟩
  rw [← hW3, ← hg4] at HB3
  rw [← hW3] at hd1 hd2
  obtain ⟨m0, m1, n0, n1⟩ := two_cellsN (NB.at_ HB3 (.tail _ (.head _)))
  obtain ⟨m2, m3, n2, n3⟩ := two_cellsN (NB.at_ HB3 (.head _))
  have HDA := hide hd1
  have HDB := hide hd2
  clear hd1 hd2
  go_upto_region 3 with (fail)
  rw [← hW3, ← hg4]
  clear hW3 hg4
  go_wp2_with fail
  refine (HCM.out _ _ _ _ _ _ _ HDA.out HDB.out ht1 ht2).mono ?_
  rintro e w4 ⟨rfl, hb4⟩
  have HB4 := NB.next hb4 HB3
  have HDA4 := hide (HDA.out.below hb4)
  have HDB4 := hide (HDB.out.below hb4)
  clear hb4 m0 m1 m2 m3 n0 n1 n2 n3
  obtain ⟨m0, m1, n0, n1⟩ := two_cellsN (NB.at_ HB4 (.tail _ (.head _)))
  obtain ⟨m2, m3, n2, n3⟩ := two_cellsN (NB.at_ HB4 (.head _))
  go_wp2_with fail
  refine (HOR.out _).mono ?_
  rintro e w5 ⟨rfl, rfl⟩
  go_wp2_with fail
  refine (HAD.out _ _ _ _ _ _ _ HDA4.out HDB4.out ht1 ht2).mono ?_
  rintro e w6 ⟨A3, k3, t3, rfl, hd3, ht3, hb6⟩
  have HB6 := NB.next hb6 HB4
  have HD3 := hide hd3
  clear hb6 hd3 m0 m1 m2 m3 n0 n1 n2 n3
  go_wp2_with fail
  refine (HNU.out _ _ _ _ HD3.out ht3).mono ?_
  rintro e w7 ⟨rfl, hb7⟩
  have HB7 := NB.next hb7 HB6
  have HC := NB.ofC HB7
  obtain ⟨d0, d1, d2, d3, d4, f0, f1, f2, f3, f4⟩ := five_cells (CB.at_ HC (.tail _ (.tail _ (.head _))))
  have e1 := HB7.out.ge _ (List.Mem.tail _ (List.Mem.tail _ (List.Mem.head _)))
  go_wp2_with fail
  exact ret_kt (v := .int .i64 er) rfl rfl rfl rfl (set_five (CB.at_ HC (.tail _ (.tail _ (.head _)))) _ _ _ _ _) ⟨by rw [HK.out], below_set5 HC.out.low e1 _ _ _ _ _⟩
theorem mul80 {x y : Int} (hx : Fits x) (hy : Fits y) : (x * y).natAbs < 10 ^ 80 := by
  rw [Int.natAbs_mul]
  have h1 : x.natAbs < 10 ^ 39 := by unfold Fits at hx; omega
  have h2 : y.natAbs < 10 ^ 39 := by unfold Fits at hy; omega
  have := Nat.mul_le_mul (Nat.le_of_lt h1) (Nat.le_of_lt h2)
  omega
set_option maxHeartbeats 8000000 in
theorem ints_mul {x y : Int} (hx : Fits x) (hy : Fits y) (w : World) : Calls Tryd.prog 31 #[.string ⟨#[42]⟩, wv (hiW x) (loW x), wv (hiW y) (loW y)] w fun e w' => e = .returned (ansK (x * y)) ∧ Below w.heap.size w w' := by
  have hor : ordP ⟨#[42]⟩ (cmpI x y) = none := by unfold ordP; simp (decide := true)
  obtain ⟨s, hs⟩ : ∃ s, s = decide (x < 0) := ⟨_, rfl⟩
  obtain ⟨s', hs'⟩ : ∃ s, s = decide (y < 0) := ⟨_, rfl⟩
  obtain ⟨o, ho⟩ : ∃ o, o = cmpI x y := ⟨_, rfl⟩
  obtain ⟨p, hp⟩ : ∃ o, o = hiW x := ⟨_, rfl⟩
  obtain ⟨q, hq⟩ : ∃ o, o = loW x := ⟨_, rfl⟩
  obtain ⟨p', hp'⟩ : ∃ o, o = hiW y := ⟨_, rfl⟩
  obtain ⟨q', hq'⟩ : ∃ o, o = loW y := ⟨_, rfl⟩
  have HX := hide (fun W => (show Calls Tryd.prog 26 #[wv p q] W (NumS W s x.natAbs) from by rw [hp, hq, hs]; exact ref_of hx W))
  have HY := hide (fun W => (show Calls Tryd.prog 26 #[wv p' q'] W (NumS W s' y.natAbs) from by rw [hp', hq', hs']; exact ref_of hy W))
  have HCM := hide (fun (W : World) (A A' : Option Addr) (k k' c c' : Nat) (h : Dg W A k (dgs x.natAbs)) (h' : Dg W A' k' (dgs y.natAbs)) (hc : k ≤ c) (hc' : k' ≤ c') => (show Calls Tryd.prog 51 #[.agg #[.bool s, .slice A k c], .agg #[.bool s', .slice A' k' c']] W fun e w' => e = .returned (.int .i64 o) ∧ Below W.heap.size W w' from by rw [hs, hs', ho]; exact ref_cmp x y h h' (by have := len39 hx h; omega) (by have := len39 hy h'; omega) hc hc'))
  rw [← hp, ← hq, ← hp', ← hq']
  rw [← ho] at hor
  have HOR := hide (fun W => (show Calls Tryd.prog 32 #[.string ⟨#[42]⟩, .int .i64 o] W fun e w' => e = .returned (.tuple #[.bool false, .bool false]) ∧ W = w' from by have := order_any ⟨#[42]⟩ o W; rw [hor] at this; exact this))
  have HB := NB.add 26 kon0 (NB.add 24 #[.int .u64 p', .int .u64 q'] (NB.add 24 #[.int .u64 p, .int .u64 q] (NB.nil w)))
  obtain ⟨sz, vz, kd, zp, zq, er, hsz, hvz, hk, HNU⟩ := numK (x * y) (mul80 hx hy)
  have HAD := hide (fun (W : World) (A A' : Option Addr) (k k' c c' : Nat) (h : Dg W A k (dgs x.natAbs)) (h' : Dg W A' k' (dgs y.natAbs)) (hc : k ≤ c) (hc' : k' ≤ c') => (show Calls Tryd.prog 53 #[.agg #[.bool s, .slice A k c], .agg #[.bool s', .slice A' k' c']] W (NumS W sz vz) from by rw [hs, hs', hsz, hvz]; exact ref_mul x y h h' (by have := len39 hx h; omega) (by have := len39 hy h'; omega) hc hc'))
  have HK := hide hk
  clear hsz hvz hk
  clear hp hq hp' hq' ho hor
  go_enter Tryd.func31, Tryd.ntmps31
  go_upto_region 1 with (fail)
  obtain ⟨W, hW⟩ : ∃ W : World, W = (((w.alloc (.cells #[.int .u64 p, .int .u64 q] 24)).alloc (.cells #[.int .u64 p', .int .u64 q'] 24)).alloc (.cells kon0 26)) := ⟨_, rfl⟩
  obtain ⟨g0, hg0⟩ : ∃ g, g = w.heap.size := ⟨_, rfl⟩
  obtain ⟨g1, hg1⟩ : ∃ g, g = (w.alloc (.cells #[.int .u64 p, .int .u64 q] 24)).heap.size := ⟨_, rfl⟩
  obtain ⟨g2, hg2⟩ : ∃ g, g = ((w.alloc (.cells #[.int .u64 p, .int .u64 q] 24)).alloc (.cells #[.int .u64 p', .int .u64 q'] 24)).heap.size := ⟨_, rfl⟩
  have hg1' : w.heap.size + 1 = g1 := by rw [hg1]; simp
  have hg2' : g1 + 1 = g2 := by rw [hg2, hg1]; simp
  rw [← hW] at HB ⊢
  rw [← hg2, ← hg1, ← hg0] at HB
  try rw [hg1']
  try rw [hg2']
  try rw [← hg0]
  obtain ⟨c0, c1, e0, e1⟩ := two_cellsN (NB.at_ HB (.tail _ (.tail _ (.head _))))
  clear hW hg0 hg1 hg1' hg2 hg2'
  go_wp2_with fail
  refine (HX.out _).mono ?_
  rintro e w1 ⟨A1, k1, t1, rfl, hd1, ht1, hb1⟩
  have HB1 := NB.next hb1 HB
  have HB2 := NB.add NumT #[.bool s, .slice A1 k1 t1] HB1
  obtain ⟨j0, j1, z0, z1⟩ := two_cellsN (NB.at_ HB2 (.tail _ (.tail _ (.head _))))
  obtain ⟨g3, hg3⟩ : ∃ g, g = w1.heap.size := ⟨_, rfl⟩
  have HDA := hide (hd1.alloc (.cells #[.bool s, .slice A1 k1 t1] NumT))
  clear hb1 hd1 hs hs'
  go_wp2_with fail
  refine (HY.out _).mono ?_
  rintro e w2 ⟨A2, k2, t2, rfl, hd2, ht2, hb2⟩
  have hd1 := ((HDA.out.below hb2).alloc (.cells #[.bool s', .slice A2 k2 t2] NumT))
  have hd2 := hd2.alloc (.cells #[.bool s', .slice A2 k2 t2] NumT)
  have HB3 := NB.add NumT #[.bool s', .slice A2 k2 t2] (NB.next hb2 HB2)
  rw [← hg3] at HB3
  try rw [← hg3]
  clear hb2 hg3 j0 j1 z0 z1
  obtain ⟨g4, hg4⟩ : ∃ g, g = w2.heap.size := ⟨_, rfl⟩
  obtain ⟨W3, hW3⟩ : ∃ W, W = w2.alloc (.cells #[.bool s', .slice A2 k2 t2] NumT) := ⟨_, rfl⟩
  rw [← hW3, ← hg4] at HB3
  rw [← hW3] at hd1 hd2
  obtain ⟨m0, m1, n0, n1⟩ := two_cellsN (NB.at_ HB3 (.tail _ (.head _)))
  obtain ⟨m2, m3, n2, n3⟩ := two_cellsN (NB.at_ HB3 (.head _))
  have HDA := hide hd1
  have HDB := hide hd2
  clear hd1 hd2
  go_upto_region 3 with (fail)
  rw [← hW3, ← hg4]
  clear hW3 hg4
  go_wp2_with fail
  refine (HCM.out _ _ _ _ _ _ _ HDA.out HDB.out ht1 ht2).mono ?_
  rintro e w4 ⟨rfl, hb4⟩
  have HB4 := NB.next hb4 HB3
  have HDA4 := hide (HDA.out.below hb4)
  have HDB4 := hide (HDB.out.below hb4)
  clear hb4 m0 m1 m2 m3 n0 n1 n2 n3
  obtain ⟨m0, m1, n0, n1⟩ := two_cellsN (NB.at_ HB4 (.tail _ (.head _)))
  obtain ⟨m2, m3, n2, n3⟩ := two_cellsN (NB.at_ HB4 (.head _))
  go_wp2_with fail
  refine (HOR.out _).mono ?_
  rintro e w5 ⟨rfl, rfl⟩
  go_wp2_with fail
  refine (HAD.out _ _ _ _ _ _ _ HDA4.out HDB4.out ht1 ht2).mono ?_
  rintro e w6 ⟨A3, k3, t3, rfl, hd3, ht3, hb6⟩
  have HB6 := NB.next hb6 HB4
  have HD3 := hide hd3
  clear hb6 hd3 m0 m1 m2 m3 n0 n1 n2 n3
  go_wp2_with fail
  refine (HNU.out _ _ _ _ HD3.out ht3).mono ?_
  rintro e w7 ⟨rfl, hb7⟩
  have HB7 := NB.next hb7 HB6
  have HC := NB.ofC HB7
  obtain ⟨d0, d1, d2, d3, d4, f0, f1, f2, f3, f4⟩ := five_cells (CB.at_ HC (.tail _ (.tail _ (.head _))))
  have e1 := HB7.out.ge _ (List.Mem.tail _ (List.Mem.tail _ (List.Mem.head _)))
  go_wp2_with fail
  exact ret_kt (v := .int .i64 er) rfl rfl rfl rfl (set_five (CB.at_ HC (.tail _ (.tail _ (.head _)))) _ _ _ _ _) ⟨by rw [HK.out], below_set5 HC.out.low e1 _ _ _ _ _⟩
end Go.Proofs.YtgleldpdelhhhaaDoor

namespace Go.Proofs.YtgleldpdelhhhaaDoor
open Go.RowKit Go.WideShapes Go.ChangeShapes
set_option linter.unusedVariables false
set_option maxRecDepth 100000

/-- Quo's contract in variables. -/
def QuoV (W : World) (sq sr : Bool) (vq vr : Nat) (e : Ending) (w' : World) : Prop :=
  ∃ A k c A' k' c', e = .returned (.tuple #[.agg #[.bool sq, .slice A k c], .agg #[.bool sr, .slice A' k' c']]) ∧ Dg w' A k (dgs vq) ∧ k ≤ c ∧ Dg w' A' k' (dgs vr) ∧ k' ≤ c' ∧ Below W.heap.size W w'
theorem quo80 {x y : Int} (hx : Fits x) : (x.tdiv y).natAbs < 10 ^ 80 := by
  have h1 : x.natAbs < 10 ^ 39 := by unfold Fits at hx; omega
  rw [Int.natAbs_tdiv]
  have := Nat.div_le_self x.natAbs y.natAbs
  exact Nat.lt_of_le_of_lt this (Nat.lt_trans h1 (by omega))
theorem rem80 {x y : Int} (hx : Fits x) : (x.tmod y).natAbs < 10 ^ 80 := by
  have h1 : x.natAbs < 10 ^ 39 := by unfold Fits at hx; omega
  rw [Int.natAbs_tmod]
  have := Nat.mod_le x.natAbs y.natAbs
  exact Nat.lt_of_le_of_lt this (Nat.lt_trans h1 (by omega))
theorem k0 {y : Int} {w : World} {A : Option Addr} {k : Nat} (h : Dg w A k (dgs y.natAbs)) : k = 0 ↔ y = 0 := by
  rw [← h.1, List.length_eq_zero_iff, dgs_nil]; omega

set_option maxHeartbeats 8000000 in
theorem ints_ord {x y : Int} (hx : Fits x) (hy : Fits y) (op : ByteArray) (t : Bool) (hor : ordP op (cmpI x y) = some t) (w : World) : Calls Tryd.prog 31 #[.string op, wv (hiW x) (loW x), wv (hiW y) (loW y)] w fun e w' => e = .returned (.tuple #[kon 2 0 0 t ⟨#[]⟩, .int .i64 0]) ∧ Below w.heap.size w w' := by
  obtain ⟨s, hs⟩ : ∃ s, s = decide (x < 0) := ⟨_, rfl⟩
  obtain ⟨s', hs'⟩ : ∃ s, s = decide (y < 0) := ⟨_, rfl⟩
  obtain ⟨o, ho⟩ : ∃ o, o = cmpI x y := ⟨_, rfl⟩
  obtain ⟨p, hp⟩ : ∃ o, o = hiW x := ⟨_, rfl⟩
  obtain ⟨q, hq⟩ : ∃ o, o = loW x := ⟨_, rfl⟩
  obtain ⟨p', hp'⟩ : ∃ o, o = hiW y := ⟨_, rfl⟩
  obtain ⟨q', hq'⟩ : ∃ o, o = loW y := ⟨_, rfl⟩
  have HX := hide (fun W => (show Calls Tryd.prog 26 #[wv p q] W (NumS W s x.natAbs) from by rw [hp, hq, hs]; exact ref_of hx W))
  have HY := hide (fun W => (show Calls Tryd.prog 26 #[wv p' q'] W (NumS W s' y.natAbs) from by rw [hp', hq', hs']; exact ref_of hy W))
  have HCM := hide (fun (W : World) (A A' : Option Addr) (k k' c c' : Nat) (h : Dg W A k (dgs x.natAbs)) (h' : Dg W A' k' (dgs y.natAbs)) (hc : k ≤ c) (hc' : k' ≤ c') => (show Calls Tryd.prog 51 #[.agg #[.bool s, .slice A k c], .agg #[.bool s', .slice A' k' c']] W fun e w' => e = .returned (.int .i64 o) ∧ Below W.heap.size W w' from by rw [hs, hs', ho]; exact ref_cmp x y h h' (by have := len39 hx h; omega) (by have := len39 hy h'; omega) hc hc'))
  rw [← hp, ← hq, ← hp', ← hq']
  rw [← ho] at hor
  have HOR := hide (fun W => (show Calls Tryd.prog 32 #[.string op, .int .i64 o] W fun e w' => e = .returned (.tuple #[.bool t, .bool true]) ∧ W = w' from by have := order_any op o W; rw [hor] at this; exact this))
  have HB := NB.add 26 kon0 (NB.add 24 #[.int .u64 p', .int .u64 q'] (NB.add 24 #[.int .u64 p, .int .u64 q] (NB.nil w)))
  have HTR := hide (fun W => rtruth_any t W)
  clear hp hq hp' hq' ho hor
  go_enter Tryd.func31, Tryd.ntmps31
  go_upto_region 1 with (fail)
  obtain ⟨W, hW⟩ : ∃ W : World, W = (((w.alloc (.cells #[.int .u64 p, .int .u64 q] 24)).alloc (.cells #[.int .u64 p', .int .u64 q'] 24)).alloc (.cells kon0 26)) := ⟨_, rfl⟩
  obtain ⟨g0, hg0⟩ : ∃ g, g = w.heap.size := ⟨_, rfl⟩
  obtain ⟨g1, hg1⟩ : ∃ g, g = (w.alloc (.cells #[.int .u64 p, .int .u64 q] 24)).heap.size := ⟨_, rfl⟩
  obtain ⟨g2, hg2⟩ : ∃ g, g = ((w.alloc (.cells #[.int .u64 p, .int .u64 q] 24)).alloc (.cells #[.int .u64 p', .int .u64 q'] 24)).heap.size := ⟨_, rfl⟩
  have hg1' : w.heap.size + 1 = g1 := by rw [hg1]; simp
  have hg2' : g1 + 1 = g2 := by rw [hg2, hg1]; simp
  rw [← hW] at HB ⊢
  rw [← hg2, ← hg1, ← hg0] at HB
  try rw [hg1']
  try rw [hg2']
  try rw [← hg0]
  obtain ⟨c0, c1, e0, e1⟩ := two_cellsN (NB.at_ HB (.tail _ (.tail _ (.head _))))
  clear hW hg0 hg1 hg1' hg2 hg2'
  go_wp2_with fail
  refine (HX.out _).mono ?_
  rintro e w1 ⟨A1, k1, t1, rfl, hd1, ht1, hb1⟩
  have HB1 := NB.next hb1 HB
  have HB2 := NB.add NumT #[.bool s, .slice A1 k1 t1] HB1
  obtain ⟨j0, j1, z0, z1⟩ := two_cellsN (NB.at_ HB2 (.tail _ (.tail _ (.head _))))
  obtain ⟨g3, hg3⟩ : ∃ g, g = w1.heap.size := ⟨_, rfl⟩
  have HDA := hide (hd1.alloc (.cells #[.bool s, .slice A1 k1 t1] NumT))
  clear hb1 hd1 hs hs'
  go_wp2_with fail
  refine (HY.out _).mono ?_
  rintro e w2 ⟨A2, k2, t2, rfl, hd2, ht2, hb2⟩
  have hd1 := ((HDA.out.below hb2).alloc (.cells #[.bool s', .slice A2 k2 t2] NumT))
  have hd2 := hd2.alloc (.cells #[.bool s', .slice A2 k2 t2] NumT)
  have HB3 := NB.add NumT #[.bool s', .slice A2 k2 t2] (NB.next hb2 HB2)
  rw [← hg3] at HB3
  try rw [← hg3]
  clear hb2 hg3 j0 j1 z0 z1
  obtain ⟨g4, hg4⟩ : ∃ g, g = w2.heap.size := ⟨_, rfl⟩
  obtain ⟨W3, hW3⟩ : ∃ W, W = w2.alloc (.cells #[.bool s', .slice A2 k2 t2] NumT) := ⟨_, rfl⟩
  rw [← hW3, ← hg4] at HB3
  rw [← hW3] at hd1 hd2
  obtain ⟨m0, m1, n0, n1⟩ := two_cellsN (NB.at_ HB3 (.tail _ (.head _)))
  obtain ⟨m2, m3, n2, n3⟩ := two_cellsN (NB.at_ HB3 (.head _))
  have HDA := hide hd1
  have HDB := hide hd2
  clear hd1 hd2
  go_upto_region 3 with (fail)
  rw [← hW3, ← hg4]
  clear hW3 hg4
  go_wp2_with fail
  refine (HCM.out _ _ _ _ _ _ _ HDA.out HDB.out ht1 ht2).mono ?_
  rintro e w4 ⟨rfl, hb4⟩
  have HB4 := NB.next hb4 HB3
  have HDA4 := hide (HDA.out.below hb4)
  have HDB4 := hide (HDB.out.below hb4)
  clear hb4 m0 m1 m2 m3 n0 n1 n2 n3
  obtain ⟨m0, m1, n0, n1⟩ := two_cellsN (NB.at_ HB4 (.tail _ (.head _)))
  obtain ⟨m2, m3, n2, n3⟩ := two_cellsN (NB.at_ HB4 (.head _))
  go_wp2_with fail
  refine (HOR.out _).mono ?_
  rintro e w5 ⟨rfl, rfl⟩
  go_wp2_with fail
  refine (HTR.out _).mono ?_
  rintro e w7 ⟨rfl, hb7⟩
  have HB7 := NB.next hb7 HB4
  have HC := NB.ofC HB7
  obtain ⟨d0, d1, d2, d3, d4, f0, f1, f2, f3, f4⟩ := five_cells (CB.at_ HC (.tail _ (.tail _ (.head _))))
  have e1 := HB7.out.ge _ (List.Mem.tail _ (List.Mem.tail _ (List.Mem.head _)))
  go_wp2_with fail
  exact ret_kt (v := .int .i64 0) rfl rfl rfl rfl (set_five (CB.at_ HC (.tail _ (.tail _ (.head _)))) _ _ _ _ _) ⟨rfl, below_set5 HC.out.low e1 _ _ _ _ _⟩
set_option maxHeartbeats 8000000 in
theorem ints_odd {x y : Int} (hx : Fits x) (hy : Fits y) (op : ByteArray) (hadd : op ≠ ⟨#[43]⟩) (hsub : op ≠ ⟨#[45]⟩) (hmul : op ≠ ⟨#[42]⟩) (hquo : op ≠ ⟨#[47]⟩) (hrem : op ≠ ⟨#[37]⟩) (hor : ordP op (cmpI x y) = none) (w : World) : Calls Tryd.prog 31 #[.string op, wv (hiW x) (loW x), wv (hiW y) (loW y)] w fun e w' => e = .returned (.tuple #[kon 0 0 0 false ⟨#[]⟩, .int .i64 9]) ∧ Below w.heap.size w w' := by
  obtain ⟨s, hs⟩ : ∃ s, s = decide (x < 0) := ⟨_, rfl⟩
  obtain ⟨s', hs'⟩ : ∃ s, s = decide (y < 0) := ⟨_, rfl⟩
  obtain ⟨o, ho⟩ : ∃ o, o = cmpI x y := ⟨_, rfl⟩
  obtain ⟨p, hp⟩ : ∃ o, o = hiW x := ⟨_, rfl⟩
  obtain ⟨q, hq⟩ : ∃ o, o = loW x := ⟨_, rfl⟩
  obtain ⟨p', hp'⟩ : ∃ o, o = hiW y := ⟨_, rfl⟩
  obtain ⟨q', hq'⟩ : ∃ o, o = loW y := ⟨_, rfl⟩
  have HX := hide (fun W => (show Calls Tryd.prog 26 #[wv p q] W (NumS W s x.natAbs) from by rw [hp, hq, hs]; exact ref_of hx W))
  have HY := hide (fun W => (show Calls Tryd.prog 26 #[wv p' q'] W (NumS W s' y.natAbs) from by rw [hp', hq', hs']; exact ref_of hy W))
  have HCM := hide (fun (W : World) (A A' : Option Addr) (k k' c c' : Nat) (h : Dg W A k (dgs x.natAbs)) (h' : Dg W A' k' (dgs y.natAbs)) (hc : k ≤ c) (hc' : k' ≤ c') => (show Calls Tryd.prog 51 #[.agg #[.bool s, .slice A k c], .agg #[.bool s', .slice A' k' c']] W fun e w' => e = .returned (.int .i64 o) ∧ Below W.heap.size W w' from by rw [hs, hs', ho]; exact ref_cmp x y h h' (by have := len39 hx h; omega) (by have := len39 hy h'; omega) hc hc'))
  rw [← hp, ← hq, ← hp', ← hq']
  rw [← ho] at hor
  have HOR := hide (fun W => (show Calls Tryd.prog 32 #[.string op, .int .i64 o] W fun e w' => e = .returned (.tuple #[.bool false, .bool false]) ∧ W = w' from by have := order_any op o W; rw [hor] at this; exact this))
  have HB := NB.add 26 kon0 (NB.add 24 #[.int .u64 p', .int .u64 q'] (NB.add 24 #[.int .u64 p, .int .u64 q] (NB.nil w)))
  have eadd := strF_ne hadd
  rw [show (⟨#[43]⟩ : ByteArray).toList = [43] by rw [ByteArray.toList_eq]] at eadd
  have esub := strF_ne hsub
  rw [show (⟨#[45]⟩ : ByteArray).toList = [45] by rw [ByteArray.toList_eq]] at esub
  have emul := strF_ne hmul
  rw [show (⟨#[42]⟩ : ByteArray).toList = [42] by rw [ByteArray.toList_eq]] at emul
  have equo := strF_ne hquo
  rw [show (⟨#[47]⟩ : ByteArray).toList = [47] by rw [ByteArray.toList_eq]] at equo
  have erem := strF_ne hrem
  rw [show (⟨#[37]⟩ : ByteArray).toList = [37] by rw [ByteArray.toList_eq]] at erem
  clear hadd hsub hmul hquo hrem
  clear hp hq hp' hq' ho hor
  go_enter Tryd.func31, Tryd.ntmps31
  go_upto_region 1 with (fail)
  obtain ⟨W, hW⟩ : ∃ W : World, W = (((w.alloc (.cells #[.int .u64 p, .int .u64 q] 24)).alloc (.cells #[.int .u64 p', .int .u64 q'] 24)).alloc (.cells kon0 26)) := ⟨_, rfl⟩
  obtain ⟨g0, hg0⟩ : ∃ g, g = w.heap.size := ⟨_, rfl⟩
  obtain ⟨g1, hg1⟩ : ∃ g, g = (w.alloc (.cells #[.int .u64 p, .int .u64 q] 24)).heap.size := ⟨_, rfl⟩
  obtain ⟨g2, hg2⟩ : ∃ g, g = ((w.alloc (.cells #[.int .u64 p, .int .u64 q] 24)).alloc (.cells #[.int .u64 p', .int .u64 q'] 24)).heap.size := ⟨_, rfl⟩
  have hg1' : w.heap.size + 1 = g1 := by rw [hg1]; simp
  have hg2' : g1 + 1 = g2 := by rw [hg2, hg1]; simp
  rw [← hW] at HB ⊢
  rw [← hg2, ← hg1, ← hg0] at HB
  try rw [hg1']
  try rw [hg2']
  try rw [← hg0]
  obtain ⟨c0, c1, e0, e1⟩ := two_cellsN (NB.at_ HB (.tail _ (.tail _ (.head _))))
  clear hW hg0 hg1 hg1' hg2 hg2'
  go_wp2_with fail
  refine (HX.out _).mono ?_
  rintro e w1 ⟨A1, k1, t1, rfl, hd1, ht1, hb1⟩
  have HB1 := NB.next hb1 HB
  have HB2 := NB.add NumT #[.bool s, .slice A1 k1 t1] HB1
  obtain ⟨j0, j1, z0, z1⟩ := two_cellsN (NB.at_ HB2 (.tail _ (.tail _ (.head _))))
  obtain ⟨g3, hg3⟩ : ∃ g, g = w1.heap.size := ⟨_, rfl⟩
  have HDA := hide (hd1.alloc (.cells #[.bool s, .slice A1 k1 t1] NumT))
  clear hb1 hd1 hs hs'
  go_wp2_with fail
  refine (HY.out _).mono ?_
  rintro e w2 ⟨A2, k2, t2, rfl, hd2, ht2, hb2⟩
  have hd1 := ((HDA.out.below hb2).alloc (.cells #[.bool s', .slice A2 k2 t2] NumT))
  have hd2 := hd2.alloc (.cells #[.bool s', .slice A2 k2 t2] NumT)
  have HB3 := NB.add NumT #[.bool s', .slice A2 k2 t2] (NB.next hb2 HB2)
  rw [← hg3] at HB3
  try rw [← hg3]
  clear hb2 hg3 j0 j1 z0 z1
  obtain ⟨g4, hg4⟩ : ∃ g, g = w2.heap.size := ⟨_, rfl⟩
  obtain ⟨W3, hW3⟩ : ∃ W, W = w2.alloc (.cells #[.bool s', .slice A2 k2 t2] NumT) := ⟨_, rfl⟩
  rw [← hW3, ← hg4] at HB3
  rw [← hW3] at hd1 hd2
  obtain ⟨m0, m1, n0, n1⟩ := two_cellsN (NB.at_ HB3 (.tail _ (.head _)))
  obtain ⟨m2, m3, n2, n3⟩ := two_cellsN (NB.at_ HB3 (.head _))
  have HDA := hide hd1
  have HDB := hide hd2
  clear hd1 hd2
  go_upto_region 3 with (fail)
  rw [← hW3, ← hg4]
  clear hW3 hg4
  go_wp2_with fail
  refine (HCM.out _ _ _ _ _ _ _ HDA.out HDB.out ht1 ht2).mono ?_
  rintro e w4 ⟨rfl, hb4⟩
  have HB4 := NB.next hb4 HB3
  have HDA4 := hide (HDA.out.below hb4)
  have HDB4 := hide (HDB.out.below hb4)
  clear hb4 m0 m1 m2 m3 n0 n1 n2 n3
  obtain ⟨m0, m1, n0, n1⟩ := two_cellsN (NB.at_ HB4 (.tail _ (.head _)))
  obtain ⟨m2, m3, n2, n3⟩ := two_cellsN (NB.at_ HB4 (.head _))
  go_wp2_with fail
  refine (HOR.out _).mono ?_
  rintro e w5 ⟨rfl, rfl⟩
  have HC := NB.ofC HB4
  obtain ⟨d0, d1, d2, d3, d4, f0, f1, f2, f3, f4⟩ := five_cells (CB.at_ HC (.tail _ (.tail _ (.head _))))
  have e1 := HB4.out.ge _ (List.Mem.tail _ (List.Mem.tail _ (List.Mem.head _)))
  go_wp2_with fail
  exact ret_kt (v := .int .i64 9) rfl rfl rfl rfl (set_five (CB.at_ HC (.tail _ (.tail _ (.head _)))) _ _ _ _ _) ⟨rfl, below_set5 HC.out.low e1 _ _ _ _ _⟩
set_option maxHeartbeats 8000000 in
theorem ints_quo_zero {x y : Int} (hx : Fits x) (hy : Fits y) (hy0 : y = 0) (w : World) : Calls Tryd.prog 31 #[.string ⟨#[47]⟩, wv (hiW x) (loW x), wv (hiW y) (loW y)] w fun e w' => e = .returned (.tuple #[kon 0 0 0 false ⟨#[]⟩, .int .i64 10]) ∧ Below w.heap.size w w' := by
  have hor : ordP ⟨#[47]⟩ (cmpI x y) = none := by unfold ordP; simp (decide := true)
  obtain ⟨s, hs⟩ : ∃ s, s = decide (x < 0) := ⟨_, rfl⟩
  obtain ⟨s', hs'⟩ : ∃ s, s = decide (y < 0) := ⟨_, rfl⟩
  obtain ⟨o, ho⟩ : ∃ o, o = cmpI x y := ⟨_, rfl⟩
  obtain ⟨p, hp⟩ : ∃ o, o = hiW x := ⟨_, rfl⟩
  obtain ⟨q, hq⟩ : ∃ o, o = loW x := ⟨_, rfl⟩
  obtain ⟨p', hp'⟩ : ∃ o, o = hiW y := ⟨_, rfl⟩
  obtain ⟨q', hq'⟩ : ∃ o, o = loW y := ⟨_, rfl⟩
  have HX := hide (fun W => (show Calls Tryd.prog 26 #[wv p q] W (NumS W s x.natAbs) from by rw [hp, hq, hs]; exact ref_of hx W))
  have HY := hide (fun W => (show Calls Tryd.prog 26 #[wv p' q'] W (NumS W s' y.natAbs) from by rw [hp', hq', hs']; exact ref_of hy W))
  have HCM := hide (fun (W : World) (A A' : Option Addr) (k k' c c' : Nat) (h : Dg W A k (dgs x.natAbs)) (h' : Dg W A' k' (dgs y.natAbs)) (hc : k ≤ c) (hc' : k' ≤ c') => (show Calls Tryd.prog 51 #[.agg #[.bool s, .slice A k c], .agg #[.bool s', .slice A' k' c']] W fun e w' => e = .returned (.int .i64 o) ∧ Below W.heap.size W w' from by rw [hs, hs', ho]; exact ref_cmp x y h h' (by have := len39 hx h; omega) (by have := len39 hy h'; omega) hc hc'))
  rw [← hp, ← hq, ← hp', ← hq']
  rw [← ho] at hor
  have HOR := hide (fun W => (show Calls Tryd.prog 32 #[.string ⟨#[47]⟩, .int .i64 o] W fun e w' => e = .returned (.tuple #[.bool false, .bool false]) ∧ W = w' from by have := order_any ⟨#[47]⟩ o W; rw [hor] at this; exact this))
  have HB := NB.add 26 kon0 (NB.add 24 #[.int .u64 p', .int .u64 q'] (NB.add 24 #[.int .u64 p, .int .u64 q] (NB.nil w)))
  clear hp hq hp' hq' ho hor
  go_enter Tryd.func31, Tryd.ntmps31
  go_upto_region 1 with (fail)
  obtain ⟨W, hW⟩ : ∃ W : World, W = (((w.alloc (.cells #[.int .u64 p, .int .u64 q] 24)).alloc (.cells #[.int .u64 p', .int .u64 q'] 24)).alloc (.cells kon0 26)) := ⟨_, rfl⟩
  obtain ⟨g0, hg0⟩ : ∃ g, g = w.heap.size := ⟨_, rfl⟩
  obtain ⟨g1, hg1⟩ : ∃ g, g = (w.alloc (.cells #[.int .u64 p, .int .u64 q] 24)).heap.size := ⟨_, rfl⟩
  obtain ⟨g2, hg2⟩ : ∃ g, g = ((w.alloc (.cells #[.int .u64 p, .int .u64 q] 24)).alloc (.cells #[.int .u64 p', .int .u64 q'] 24)).heap.size := ⟨_, rfl⟩
  have hg1' : w.heap.size + 1 = g1 := by rw [hg1]; simp
  have hg2' : g1 + 1 = g2 := by rw [hg2, hg1]; simp
  rw [← hW] at HB ⊢
  rw [← hg2, ← hg1, ← hg0] at HB
  try rw [hg1']
  try rw [hg2']
  try rw [← hg0]
  obtain ⟨c0, c1, e0, e1⟩ := two_cellsN (NB.at_ HB (.tail _ (.tail _ (.head _))))
  clear hW hg0 hg1 hg1' hg2 hg2'
  go_wp2_with fail
  refine (HX.out _).mono ?_
  rintro e w1 ⟨A1, k1, t1, rfl, hd1, ht1, hb1⟩
  have HB1 := NB.next hb1 HB
  have HB2 := NB.add NumT #[.bool s, .slice A1 k1 t1] HB1
  obtain ⟨j0, j1, z0, z1⟩ := two_cellsN (NB.at_ HB2 (.tail _ (.tail _ (.head _))))
  obtain ⟨g3, hg3⟩ : ∃ g, g = w1.heap.size := ⟨_, rfl⟩
  have HDA := hide (hd1.alloc (.cells #[.bool s, .slice A1 k1 t1] NumT))
  clear hb1 hd1 hs hs'
  go_wp2_with fail
  refine (HY.out _).mono ?_
  rintro e w2 ⟨A2, k2, t2, rfl, hd2, ht2, hb2⟩
  have hd1 := ((HDA.out.below hb2).alloc (.cells #[.bool s', .slice A2 k2 t2] NumT))
  have hd2 := hd2.alloc (.cells #[.bool s', .slice A2 k2 t2] NumT)
  have HB3 := NB.add NumT #[.bool s', .slice A2 k2 t2] (NB.next hb2 HB2)
  rw [← hg3] at HB3
  try rw [← hg3]
  clear hb2 hg3 j0 j1 z0 z1
  obtain ⟨g4, hg4⟩ : ∃ g, g = w2.heap.size := ⟨_, rfl⟩
  obtain ⟨W3, hW3⟩ : ∃ W, W = w2.alloc (.cells #[.bool s', .slice A2 k2 t2] NumT) := ⟨_, rfl⟩
  rw [← hW3, ← hg4] at HB3
  rw [← hW3] at hd1 hd2
  obtain ⟨m0, m1, n0, n1⟩ := two_cellsN (NB.at_ HB3 (.tail _ (.head _)))
  obtain ⟨m2, m3, n2, n3⟩ := two_cellsN (NB.at_ HB3 (.head _))
  have HDA := hide hd1
  have HDB := hide hd2
  clear hd1 hd2
  go_upto_region 3 with (fail)
  rw [← hW3, ← hg4]
  clear hW3 hg4
  go_wp2_with fail
  refine (HCM.out _ _ _ _ _ _ _ HDA.out HDB.out ht1 ht2).mono ?_
  rintro e w4 ⟨rfl, hb4⟩
  have HB4 := NB.next hb4 HB3
  have HDA4 := hide (HDA.out.below hb4)
  have HDB4 := hide (HDB.out.below hb4)
  clear hb4 m0 m1 m2 m3 n0 n1 n2 n3
  obtain ⟨m0, m1, n0, n1⟩ := two_cellsN (NB.at_ HB4 (.tail _ (.head _)))
  obtain ⟨m2, m3, n2, n3⟩ := two_cellsN (NB.at_ HB4 (.head _))
  go_wp2_with fail
  refine (HOR.out _).mono ?_
  rintro e w5 ⟨rfl, rfl⟩
  have hk0 : k2 = 0 := (k0 HDB4.out).2 hy0
  subst hk0
  clear hy0
  have HC := NB.ofC HB4
  obtain ⟨d0, d1, d2, d3, d4, f0, f1, f2, f3, f4⟩ := five_cells (CB.at_ HC (.tail _ (.tail _ (.head _))))
  have e1 := HB4.out.ge _ (List.Mem.tail _ (List.Mem.tail _ (List.Mem.head _)))
  go_wp2_with fail
  exact ret_kt (v := .int .i64 10) rfl rfl rfl rfl (set_five (CB.at_ HC (.tail _ (.tail _ (.head _)))) _ _ _ _ _) ⟨rfl, below_set5 HC.out.low e1 _ _ _ _ _⟩
set_option maxHeartbeats 8000000 in
theorem ints_quo {x y : Int} (hx : Fits x) (hy : Fits y) (hy0 : y ≠ 0) (w : World) : Calls Tryd.prog 31 #[.string ⟨#[47]⟩, wv (hiW x) (loW x), wv (hiW y) (loW y)] w fun e w' => e = .returned (ansK (x.tdiv y)) ∧ Below w.heap.size w w' := by
  have hor : ordP ⟨#[47]⟩ (cmpI x y) = none := by unfold ordP; simp (decide := true)
  obtain ⟨s, hs⟩ : ∃ s, s = decide (x < 0) := ⟨_, rfl⟩
  obtain ⟨s', hs'⟩ : ∃ s, s = decide (y < 0) := ⟨_, rfl⟩
  obtain ⟨o, ho⟩ : ∃ o, o = cmpI x y := ⟨_, rfl⟩
  obtain ⟨p, hp⟩ : ∃ o, o = hiW x := ⟨_, rfl⟩
  obtain ⟨q, hq⟩ : ∃ o, o = loW x := ⟨_, rfl⟩
  obtain ⟨p', hp'⟩ : ∃ o, o = hiW y := ⟨_, rfl⟩
  obtain ⟨q', hq'⟩ : ∃ o, o = loW y := ⟨_, rfl⟩
  have HX := hide (fun W => (show Calls Tryd.prog 26 #[wv p q] W (NumS W s x.natAbs) from by rw [hp, hq, hs]; exact ref_of hx W))
  have HY := hide (fun W => (show Calls Tryd.prog 26 #[wv p' q'] W (NumS W s' y.natAbs) from by rw [hp', hq', hs']; exact ref_of hy W))
  have HCM := hide (fun (W : World) (A A' : Option Addr) (k k' c c' : Nat) (h : Dg W A k (dgs x.natAbs)) (h' : Dg W A' k' (dgs y.natAbs)) (hc : k ≤ c) (hc' : k' ≤ c') => (show Calls Tryd.prog 51 #[.agg #[.bool s, .slice A k c], .agg #[.bool s', .slice A' k' c']] W fun e w' => e = .returned (.int .i64 o) ∧ Below W.heap.size W w' from by rw [hs, hs', ho]; exact ref_cmp x y h h' (by have := len39 hx h; omega) (by have := len39 hy h'; omega) hc hc'))
  rw [← hp, ← hq, ← hp', ← hq']
  rw [← ho] at hor
  have HOR := hide (fun W => (show Calls Tryd.prog 32 #[.string ⟨#[47]⟩, .int .i64 o] W fun e w' => e = .returned (.tuple #[.bool false, .bool false]) ∧ W = w' from by have := order_any ⟨#[47]⟩ o W; rw [hor] at this; exact this))
  have HB := NB.add 26 kon0 (NB.add 24 #[.int .u64 p', .int .u64 q'] (NB.add 24 #[.int .u64 p, .int .u64 q] (NB.nil w)))
  obtain ⟨sz, vz, kd, zp, zq, er, hsz, hvz, hk, HNU⟩ := numK (x.tdiv y) (quo80 hx)
  obtain ⟨sr, hsr⟩ : ∃ s, s = decide (x.tmod y < 0) := ⟨_, rfl⟩
  obtain ⟨vr, hvr⟩ : ∃ s, s = (x.tmod y).natAbs := ⟨_, rfl⟩
  have HAD := hide (fun (W : World) (A A' : Option Addr) (k k' c c' : Nat) (h : Dg W A k (dgs x.natAbs)) (h' : Dg W A' k' (dgs y.natAbs)) (hc : k ≤ c) (hc' : k' ≤ c') => (show Calls Tryd.prog 54 #[.agg #[.bool s, .slice A k c], .agg #[.bool s', .slice A' k' c']] W (QuoV W sz sr vz vr) from by rw [hs, hs', hsz, hvz, hsr, hvr]; exact ref_quo x y h h' (by have := len39 hx h; omega) (by have := len39 hy h'; omega) hc hc' hy0))
  have HK := hide hk
  clear hsz hvz hk hsr hvr
  clear hp hq hp' hq' ho hor
  go_enter Tryd.func31, Tryd.ntmps31
  go_upto_region 1 with (fail)
  obtain ⟨W, hW⟩ : ∃ W : World, W = (((w.alloc (.cells #[.int .u64 p, .int .u64 q] 24)).alloc (.cells #[.int .u64 p', .int .u64 q'] 24)).alloc (.cells kon0 26)) := ⟨_, rfl⟩
  obtain ⟨g0, hg0⟩ : ∃ g, g = w.heap.size := ⟨_, rfl⟩
  obtain ⟨g1, hg1⟩ : ∃ g, g = (w.alloc (.cells #[.int .u64 p, .int .u64 q] 24)).heap.size := ⟨_, rfl⟩
  obtain ⟨g2, hg2⟩ : ∃ g, g = ((w.alloc (.cells #[.int .u64 p, .int .u64 q] 24)).alloc (.cells #[.int .u64 p', .int .u64 q'] 24)).heap.size := ⟨_, rfl⟩
  have hg1' : w.heap.size + 1 = g1 := by rw [hg1]; simp
  have hg2' : g1 + 1 = g2 := by rw [hg2, hg1]; simp
  rw [← hW] at HB ⊢
  rw [← hg2, ← hg1, ← hg0] at HB
  try rw [hg1']
  try rw [hg2']
  try rw [← hg0]
  obtain ⟨c0, c1, e0, e1⟩ := two_cellsN (NB.at_ HB (.tail _ (.tail _ (.head _))))
  clear hW hg0 hg1 hg1' hg2 hg2'
  go_wp2_with fail
  refine (HX.out _).mono ?_
  rintro e w1 ⟨A1, k1, t1, rfl, hd1, ht1, hb1⟩
  have HB1 := NB.next hb1 HB
  have HB2 := NB.add NumT #[.bool s, .slice A1 k1 t1] HB1
  obtain ⟨j0, j1, z0, z1⟩ := two_cellsN (NB.at_ HB2 (.tail _ (.tail _ (.head _))))
  obtain ⟨g3, hg3⟩ : ∃ g, g = w1.heap.size := ⟨_, rfl⟩
  have HDA := hide (hd1.alloc (.cells #[.bool s, .slice A1 k1 t1] NumT))
  clear hb1 hd1 hs hs'
  go_wp2_with fail
  refine (HY.out _).mono ?_
  rintro e w2 ⟨A2, k2, t2, rfl, hd2, ht2, hb2⟩
  have hd1 := ((HDA.out.below hb2).alloc (.cells #[.bool s', .slice A2 k2 t2] NumT))
  have hd2 := hd2.alloc (.cells #[.bool s', .slice A2 k2 t2] NumT)
  have HB3 := NB.add NumT #[.bool s', .slice A2 k2 t2] (NB.next hb2 HB2)
  rw [← hg3] at HB3
  try rw [← hg3]
  clear hb2 hg3 j0 j1 z0 z1
  obtain ⟨g4, hg4⟩ : ∃ g, g = w2.heap.size := ⟨_, rfl⟩
  obtain ⟨W3, hW3⟩ : ∃ W, W = w2.alloc (.cells #[.bool s', .slice A2 k2 t2] NumT) := ⟨_, rfl⟩
  rw [← hW3, ← hg4] at HB3
  rw [← hW3] at hd1 hd2
  obtain ⟨m0, m1, n0, n1⟩ := two_cellsN (NB.at_ HB3 (.tail _ (.head _)))
  obtain ⟨m2, m3, n2, n3⟩ := two_cellsN (NB.at_ HB3 (.head _))
  have HDA := hide hd1
  have HDB := hide hd2
  clear hd1 hd2
  go_upto_region 3 with (fail)
  rw [← hW3, ← hg4]
  clear hW3 hg4
  go_wp2_with fail
  refine (HCM.out _ _ _ _ _ _ _ HDA.out HDB.out ht1 ht2).mono ?_
  rintro e w4 ⟨rfl, hb4⟩
  have HB4 := NB.next hb4 HB3
  have HDA4 := hide (HDA.out.below hb4)
  have HDB4 := hide (HDB.out.below hb4)
  clear hb4 m0 m1 m2 m3 n0 n1 n2 n3
  obtain ⟨m0, m1, n0, n1⟩ := two_cellsN (NB.at_ HB4 (.tail _ (.head _)))
  obtain ⟨m2, m3, n2, n3⟩ := two_cellsN (NB.at_ HB4 (.head _))
  go_wp2_with fail
  refine (HOR.out _).mono ?_
  rintro e w5 ⟨rfl, rfl⟩
  have hk0 : ((k2 : Int) == 0) = false := by rw [beq_eq_false_iff_ne]; intro h; exact hy0 ((k0 HDB4.out).1 (by omega))
  clear hy0
  go_wp2_with fail
  refine (HAD.out _ _ _ _ _ _ _ HDA4.out HDB4.out ht1 ht2).mono ?_
  rintro e w6 ⟨A3, k3, t3, A5, k5, t5, rfl, hd3, ht3, hd5, ht5, hb6⟩
  have HB6 := NB.next hb6 HB4
  have HD3 := hide hd3
  have HD5 := hide hd5
  clear hb6 hd3 hd5 m0 m1 m2 m3 n0 n1 n2 n3
  go_wp2_with fail
  refine (HNU.out _ _ _ _ ((HD3.out.alloc _).alloc _) ht3).mono ?_
  rintro e w7 ⟨rfl, hb7⟩
  have HB7 := NB.next hb7 (NB.add NumT _ (NB.add NumT _ HB6))
  have HC := NB.ofC HB7
  obtain ⟨d0, d1, d2, d3, d4, f0, f1, f2, f3, f4⟩ := five_cells (CB.at_ HC (.tail _ (.tail _ (.tail _ (.tail _ (.head _))))))
  have e1 := HB7.out.ge _ (List.Mem.tail _ (List.Mem.tail _ (List.Mem.tail _ (List.Mem.tail _ (List.Mem.head _)))))
  go_wp2_with fail
  exact ret_kt (v := .int .i64 er) rfl rfl rfl rfl (set_five (CB.at_ HC (.tail _ (.tail _ (.tail _ (.tail _ (.head _)))))) _ _ _ _ _) ⟨by rw [HK.out], below_set5 HC.out.low e1 _ _ _ _ _⟩
set_option maxHeartbeats 8000000 in
theorem ints_rem_zero {x y : Int} (hx : Fits x) (hy : Fits y) (hy0 : y = 0) (w : World) : Calls Tryd.prog 31 #[.string ⟨#[37]⟩, wv (hiW x) (loW x), wv (hiW y) (loW y)] w fun e w' => e = .returned (.tuple #[kon 0 0 0 false ⟨#[]⟩, .int .i64 10]) ∧ Below w.heap.size w w' := by
  have hor : ordP ⟨#[37]⟩ (cmpI x y) = none := by unfold ordP; simp (decide := true)
  obtain ⟨s, hs⟩ : ∃ s, s = decide (x < 0) := ⟨_, rfl⟩
  obtain ⟨s', hs'⟩ : ∃ s, s = decide (y < 0) := ⟨_, rfl⟩
  obtain ⟨o, ho⟩ : ∃ o, o = cmpI x y := ⟨_, rfl⟩
  obtain ⟨p, hp⟩ : ∃ o, o = hiW x := ⟨_, rfl⟩
  obtain ⟨q, hq⟩ : ∃ o, o = loW x := ⟨_, rfl⟩
  obtain ⟨p', hp'⟩ : ∃ o, o = hiW y := ⟨_, rfl⟩
  obtain ⟨q', hq'⟩ : ∃ o, o = loW y := ⟨_, rfl⟩
  have HX := hide (fun W => (show Calls Tryd.prog 26 #[wv p q] W (NumS W s x.natAbs) from by rw [hp, hq, hs]; exact ref_of hx W))
  have HY := hide (fun W => (show Calls Tryd.prog 26 #[wv p' q'] W (NumS W s' y.natAbs) from by rw [hp', hq', hs']; exact ref_of hy W))
  have HCM := hide (fun (W : World) (A A' : Option Addr) (k k' c c' : Nat) (h : Dg W A k (dgs x.natAbs)) (h' : Dg W A' k' (dgs y.natAbs)) (hc : k ≤ c) (hc' : k' ≤ c') => (show Calls Tryd.prog 51 #[.agg #[.bool s, .slice A k c], .agg #[.bool s', .slice A' k' c']] W fun e w' => e = .returned (.int .i64 o) ∧ Below W.heap.size W w' from by rw [hs, hs', ho]; exact ref_cmp x y h h' (by have := len39 hx h; omega) (by have := len39 hy h'; omega) hc hc'))
  rw [← hp, ← hq, ← hp', ← hq']
  rw [← ho] at hor
  have HOR := hide (fun W => (show Calls Tryd.prog 32 #[.string ⟨#[37]⟩, .int .i64 o] W fun e w' => e = .returned (.tuple #[.bool false, .bool false]) ∧ W = w' from by have := order_any ⟨#[37]⟩ o W; rw [hor] at this; exact this))
  have HB := NB.add 26 kon0 (NB.add 24 #[.int .u64 p', .int .u64 q'] (NB.add 24 #[.int .u64 p, .int .u64 q] (NB.nil w)))
  clear hp hq hp' hq' ho hor
  go_enter Tryd.func31, Tryd.ntmps31
  go_upto_region 1 with (fail)
  obtain ⟨W, hW⟩ : ∃ W : World, W = (((w.alloc (.cells #[.int .u64 p, .int .u64 q] 24)).alloc (.cells #[.int .u64 p', .int .u64 q'] 24)).alloc (.cells kon0 26)) := ⟨_, rfl⟩
  obtain ⟨g0, hg0⟩ : ∃ g, g = w.heap.size := ⟨_, rfl⟩
  obtain ⟨g1, hg1⟩ : ∃ g, g = (w.alloc (.cells #[.int .u64 p, .int .u64 q] 24)).heap.size := ⟨_, rfl⟩
  obtain ⟨g2, hg2⟩ : ∃ g, g = ((w.alloc (.cells #[.int .u64 p, .int .u64 q] 24)).alloc (.cells #[.int .u64 p', .int .u64 q'] 24)).heap.size := ⟨_, rfl⟩
  have hg1' : w.heap.size + 1 = g1 := by rw [hg1]; simp
  have hg2' : g1 + 1 = g2 := by rw [hg2, hg1]; simp
  rw [← hW] at HB ⊢
  rw [← hg2, ← hg1, ← hg0] at HB
  try rw [hg1']
  try rw [hg2']
  try rw [← hg0]
  obtain ⟨c0, c1, e0, e1⟩ := two_cellsN (NB.at_ HB (.tail _ (.tail _ (.head _))))
  clear hW hg0 hg1 hg1' hg2 hg2'
  go_wp2_with fail
  refine (HX.out _).mono ?_
  rintro e w1 ⟨A1, k1, t1, rfl, hd1, ht1, hb1⟩
  have HB1 := NB.next hb1 HB
  have HB2 := NB.add NumT #[.bool s, .slice A1 k1 t1] HB1
  obtain ⟨j0, j1, z0, z1⟩ := two_cellsN (NB.at_ HB2 (.tail _ (.tail _ (.head _))))
  obtain ⟨g3, hg3⟩ : ∃ g, g = w1.heap.size := ⟨_, rfl⟩
  have HDA := hide (hd1.alloc (.cells #[.bool s, .slice A1 k1 t1] NumT))
  clear hb1 hd1 hs hs'
  go_wp2_with fail
  refine (HY.out _).mono ?_
  rintro e w2 ⟨A2, k2, t2, rfl, hd2, ht2, hb2⟩
  have hd1 := ((HDA.out.below hb2).alloc (.cells #[.bool s', .slice A2 k2 t2] NumT))
  have hd2 := hd2.alloc (.cells #[.bool s', .slice A2 k2 t2] NumT)
  have HB3 := NB.add NumT #[.bool s', .slice A2 k2 t2] (NB.next hb2 HB2)
  rw [← hg3] at HB3
  try rw [← hg3]
  clear hb2 hg3 j0 j1 z0 z1
  obtain ⟨g4, hg4⟩ : ∃ g, g = w2.heap.size := ⟨_, rfl⟩
  obtain ⟨W3, hW3⟩ : ∃ W, W = w2.alloc (.cells #[.bool s', .slice A2 k2 t2] NumT) := ⟨_, rfl⟩
  rw [← hW3, ← hg4] at HB3
  rw [← hW3] at hd1 hd2
  obtain ⟨m0, m1, n0, n1⟩ := two_cellsN (NB.at_ HB3 (.tail _ (.head _)))
  obtain ⟨m2, m3, n2, n3⟩ := two_cellsN (NB.at_ HB3 (.head _))
  have HDA := hide hd1
  have HDB := hide hd2
  clear hd1 hd2
  go_upto_region 3 with (fail)
  rw [← hW3, ← hg4]
  clear hW3 hg4
  go_wp2_with fail
  refine (HCM.out _ _ _ _ _ _ _ HDA.out HDB.out ht1 ht2).mono ?_
  rintro e w4 ⟨rfl, hb4⟩
  have HB4 := NB.next hb4 HB3
  have HDA4 := hide (HDA.out.below hb4)
  have HDB4 := hide (HDB.out.below hb4)
  clear hb4 m0 m1 m2 m3 n0 n1 n2 n3
  obtain ⟨m0, m1, n0, n1⟩ := two_cellsN (NB.at_ HB4 (.tail _ (.head _)))
  obtain ⟨m2, m3, n2, n3⟩ := two_cellsN (NB.at_ HB4 (.head _))
  go_wp2_with fail
  refine (HOR.out _).mono ?_
  rintro e w5 ⟨rfl, rfl⟩
  have hk0 : k2 = 0 := (k0 HDB4.out).2 hy0
  subst hk0
  clear hy0
  have HC := NB.ofC HB4
  obtain ⟨d0, d1, d2, d3, d4, f0, f1, f2, f3, f4⟩ := five_cells (CB.at_ HC (.tail _ (.tail _ (.head _))))
  have e1 := HB4.out.ge _ (List.Mem.tail _ (List.Mem.tail _ (List.Mem.head _)))
  go_wp2_with fail
  exact ret_kt (v := .int .i64 10) rfl rfl rfl rfl (set_five (CB.at_ HC (.tail _ (.tail _ (.head _)))) _ _ _ _ _) ⟨rfl, below_set5 HC.out.low e1 _ _ _ _ _⟩
set_option maxHeartbeats 8000000 in
theorem ints_rem {x y : Int} (hx : Fits x) (hy : Fits y) (hy0 : y ≠ 0) (w : World) : Calls Tryd.prog 31 #[.string ⟨#[37]⟩, wv (hiW x) (loW x), wv (hiW y) (loW y)] w fun e w' => e = .returned (ansK (x.tmod y)) ∧ Below w.heap.size w w' := by
  have hor : ordP ⟨#[37]⟩ (cmpI x y) = none := by unfold ordP; simp (decide := true)
  obtain ⟨s, hs⟩ : ∃ s, s = decide (x < 0) := ⟨_, rfl⟩
  obtain ⟨s', hs'⟩ : ∃ s, s = decide (y < 0) := ⟨_, rfl⟩
  obtain ⟨o, ho⟩ : ∃ o, o = cmpI x y := ⟨_, rfl⟩
  obtain ⟨p, hp⟩ : ∃ o, o = hiW x := ⟨_, rfl⟩
  obtain ⟨q, hq⟩ : ∃ o, o = loW x := ⟨_, rfl⟩
  obtain ⟨p', hp'⟩ : ∃ o, o = hiW y := ⟨_, rfl⟩
  obtain ⟨q', hq'⟩ : ∃ o, o = loW y := ⟨_, rfl⟩
  have HX := hide (fun W => (show Calls Tryd.prog 26 #[wv p q] W (NumS W s x.natAbs) from by rw [hp, hq, hs]; exact ref_of hx W))
  have HY := hide (fun W => (show Calls Tryd.prog 26 #[wv p' q'] W (NumS W s' y.natAbs) from by rw [hp', hq', hs']; exact ref_of hy W))
  have HCM := hide (fun (W : World) (A A' : Option Addr) (k k' c c' : Nat) (h : Dg W A k (dgs x.natAbs)) (h' : Dg W A' k' (dgs y.natAbs)) (hc : k ≤ c) (hc' : k' ≤ c') => (show Calls Tryd.prog 51 #[.agg #[.bool s, .slice A k c], .agg #[.bool s', .slice A' k' c']] W fun e w' => e = .returned (.int .i64 o) ∧ Below W.heap.size W w' from by rw [hs, hs', ho]; exact ref_cmp x y h h' (by have := len39 hx h; omega) (by have := len39 hy h'; omega) hc hc'))
  rw [← hp, ← hq, ← hp', ← hq']
  rw [← ho] at hor
  have HOR := hide (fun W => (show Calls Tryd.prog 32 #[.string ⟨#[37]⟩, .int .i64 o] W fun e w' => e = .returned (.tuple #[.bool false, .bool false]) ∧ W = w' from by have := order_any ⟨#[37]⟩ o W; rw [hor] at this; exact this))
  have HB := NB.add 26 kon0 (NB.add 24 #[.int .u64 p', .int .u64 q'] (NB.add 24 #[.int .u64 p, .int .u64 q] (NB.nil w)))
  obtain ⟨sz, vz, kd, zp, zq, er, hsz, hvz, hk, HNU⟩ := numK (x.tmod y) (rem80 hx)
  obtain ⟨sr, hsr⟩ : ∃ s, s = decide (x.tdiv y < 0) := ⟨_, rfl⟩
  obtain ⟨vr, hvr⟩ : ∃ s, s = (x.tdiv y).natAbs := ⟨_, rfl⟩
  have HAD := hide (fun (W : World) (A A' : Option Addr) (k k' c c' : Nat) (h : Dg W A k (dgs x.natAbs)) (h' : Dg W A' k' (dgs y.natAbs)) (hc : k ≤ c) (hc' : k' ≤ c') => (show Calls Tryd.prog 54 #[.agg #[.bool s, .slice A k c], .agg #[.bool s', .slice A' k' c']] W (QuoV W sr sz vr vz) from by rw [hs, hs', hsz, hvz, hsr, hvr]; exact ref_quo x y h h' (by have := len39 hx h; omega) (by have := len39 hy h'; omega) hc hc' hy0))
  have HK := hide hk
  clear hsz hvz hk hsr hvr
  clear hp hq hp' hq' ho hor
  go_enter Tryd.func31, Tryd.ntmps31
  go_upto_region 1 with (fail)
  obtain ⟨W, hW⟩ : ∃ W : World, W = (((w.alloc (.cells #[.int .u64 p, .int .u64 q] 24)).alloc (.cells #[.int .u64 p', .int .u64 q'] 24)).alloc (.cells kon0 26)) := ⟨_, rfl⟩
  obtain ⟨g0, hg0⟩ : ∃ g, g = w.heap.size := ⟨_, rfl⟩
  obtain ⟨g1, hg1⟩ : ∃ g, g = (w.alloc (.cells #[.int .u64 p, .int .u64 q] 24)).heap.size := ⟨_, rfl⟩
  obtain ⟨g2, hg2⟩ : ∃ g, g = ((w.alloc (.cells #[.int .u64 p, .int .u64 q] 24)).alloc (.cells #[.int .u64 p', .int .u64 q'] 24)).heap.size := ⟨_, rfl⟩
  have hg1' : w.heap.size + 1 = g1 := by rw [hg1]; simp
  have hg2' : g1 + 1 = g2 := by rw [hg2, hg1]; simp
  rw [← hW] at HB ⊢
  rw [← hg2, ← hg1, ← hg0] at HB
  try rw [hg1']
  try rw [hg2']
  try rw [← hg0]
  obtain ⟨c0, c1, e0, e1⟩ := two_cellsN (NB.at_ HB (.tail _ (.tail _ (.head _))))
  clear hW hg0 hg1 hg1' hg2 hg2'
  go_wp2_with fail
  refine (HX.out _).mono ?_
  rintro e w1 ⟨A1, k1, t1, rfl, hd1, ht1, hb1⟩
  have HB1 := NB.next hb1 HB
  have HB2 := NB.add NumT #[.bool s, .slice A1 k1 t1] HB1
  obtain ⟨j0, j1, z0, z1⟩ := two_cellsN (NB.at_ HB2 (.tail _ (.tail _ (.head _))))
  obtain ⟨g3, hg3⟩ : ∃ g, g = w1.heap.size := ⟨_, rfl⟩
  have HDA := hide (hd1.alloc (.cells #[.bool s, .slice A1 k1 t1] NumT))
  clear hb1 hd1 hs hs'
  go_wp2_with fail
  refine (HY.out _).mono ?_
  rintro e w2 ⟨A2, k2, t2, rfl, hd2, ht2, hb2⟩
  have hd1 := ((HDA.out.below hb2).alloc (.cells #[.bool s', .slice A2 k2 t2] NumT))
  have hd2 := hd2.alloc (.cells #[.bool s', .slice A2 k2 t2] NumT)
  have HB3 := NB.add NumT #[.bool s', .slice A2 k2 t2] (NB.next hb2 HB2)
  rw [← hg3] at HB3
  try rw [← hg3]
  clear hb2 hg3 j0 j1 z0 z1
  obtain ⟨g4, hg4⟩ : ∃ g, g = w2.heap.size := ⟨_, rfl⟩
  obtain ⟨W3, hW3⟩ : ∃ W, W = w2.alloc (.cells #[.bool s', .slice A2 k2 t2] NumT) := ⟨_, rfl⟩
  rw [← hW3, ← hg4] at HB3
  rw [← hW3] at hd1 hd2
  obtain ⟨m0, m1, n0, n1⟩ := two_cellsN (NB.at_ HB3 (.tail _ (.head _)))
  obtain ⟨m2, m3, n2, n3⟩ := two_cellsN (NB.at_ HB3 (.head _))
  have HDA := hide hd1
  have HDB := hide hd2
  clear hd1 hd2
  go_upto_region 3 with (fail)
  rw [← hW3, ← hg4]
  clear hW3 hg4
  go_wp2_with fail
  refine (HCM.out _ _ _ _ _ _ _ HDA.out HDB.out ht1 ht2).mono ?_
  rintro e w4 ⟨rfl, hb4⟩
  have HB4 := NB.next hb4 HB3
  have HDA4 := hide (HDA.out.below hb4)
  have HDB4 := hide (HDB.out.below hb4)
  clear hb4 m0 m1 m2 m3 n0 n1 n2 n3
  obtain ⟨m0, m1, n0, n1⟩ := two_cellsN (NB.at_ HB4 (.tail _ (.head _)))
  obtain ⟨m2, m3, n2, n3⟩ := two_cellsN (NB.at_ HB4 (.head _))
  go_wp2_with fail
  refine (HOR.out _).mono ?_
  rintro e w5 ⟨rfl, rfl⟩
  have hk0 : ((k2 : Int) == 0) = false := by rw [beq_eq_false_iff_ne]; intro h; exact hy0 ((k0 HDB4.out).1 (by omega))
  clear hy0
  go_wp2_with fail
  refine (HAD.out _ _ _ _ _ _ _ HDA4.out HDB4.out ht1 ht2).mono ?_
  rintro e w6 ⟨A3, k3, t3, A5, k5, t5, rfl, hd3, ht3, hd5, ht5, hb6⟩
  have HB6 := NB.next hb6 HB4
  have HD3 := hide hd3
  have HD5 := hide hd5
  clear hb6 hd3 hd5 m0 m1 m2 m3 n0 n1 n2 n3
  go_wp2_with fail
  refine (HNU.out _ _ _ _ ((HD5.out.alloc _).alloc _) ht5).mono ?_
  rintro e w7 ⟨rfl, hb7⟩
  have HB7 := NB.next hb7 (NB.add NumT _ (NB.add NumT _ HB6))
  have HC := NB.ofC HB7
  obtain ⟨d0, d1, d2, d3, d4, f0, f1, f2, f3, f4⟩ := five_cells (CB.at_ HC (.tail _ (.tail _ (.tail _ (.tail _ (.head _))))))
  have e1 := HB7.out.ge _ (List.Mem.tail _ (List.Mem.tail _ (List.Mem.tail _ (List.Mem.tail _ (List.Mem.head _)))))
  go_wp2_with fail
  exact ret_kt (v := .int .i64 er) rfl rfl rfl rfl (set_five (CB.at_ HC (.tail _ (.tail _ (.tail _ (.tail _ (.head _)))))) _ _ _ _ _) ⟨by rw [HK.out], below_set5 HC.out.low e1 _ _ _ _ _⟩
end Go.Proofs.YtgleldpdelhhhaaDoor

namespace Go.Proofs.YtgleldpdelhhhaaDoor
open Go.RowKit Go.WideShapes Go.ChangeShapes
set_option linter.unusedVariables false
set_option maxRecDepth 100000

theorem sub_args {w wr : World} {g0 g1 : Nat} {u0 u1 v0 v1 : Value} {t : TypeId} {rest : List (Nat × TypeId × Array Value)} (h : Hid (CB w ((g1, t, #[u1, v1]) :: (g0, t, #[u0, v0]) :: rest) wr)) :
    wr.cell? ⟨g0, 0, none⟩ = some u0 ∧ wr.cell? ⟨g0, 1, none⟩ = some v0 ∧ wr.cell? ⟨g1, 0, none⟩ = some u1 ∧ wr.cell? ⟨g1, 1, none⟩ = some v1 :=
  ⟨(CB.at_ h (.tail _ (.head _))).cell 0, (CB.at_ h (.tail _ (.head _))).cell 1, (CB.at_ h (.head _)).cell 0, (CB.at_ h (.head _)).cell 1⟩
theorem sub_keep {w wr : World} {g g0 g1 : Nat} {u0 u1 v0 v1 : Value} {t : TypeId} {rest : List (Nat × TypeId × Array Value)} (h : Hid (CB w ((g1, t, #[u1, v1]) :: (g0, t, #[u0, v0]) :: rest) wr)) (h0 : g0 ≠ g) (h1 : g1 ≠ g) (x0 x1 x2 x3 x4 : Value) :
    let W := ((((wr.setCell ⟨g, 0, none⟩ x0).setCell ⟨g, 1, none⟩ x1).setCell ⟨g, 2, none⟩ x2).setCell ⟨g, 3, none⟩ x3).setCell ⟨g, 4, none⟩ x4
    W.cell? ⟨g0, 0, none⟩ = some u0 ∧ W.cell? ⟨g0, 1, none⟩ = some v0 ∧ W.cell? ⟨g1, 0, none⟩ = some u1 ∧ W.cell? ⟨g1, 1, none⟩ = some v1 := by
  have b0 := ((((((CB.at_ h (.tail _ (.head _))).far (p := ⟨g, 0, none⟩) h0 x0).far (p := ⟨g, 1, none⟩) h0 x1).far (p := ⟨g, 2, none⟩) h0 x2).far (p := ⟨g, 3, none⟩) h0 x3).far (p := ⟨g, 4, none⟩) h0 x4)
  have b1 := ((((((CB.at_ h (.head _)).far (p := ⟨g, 0, none⟩) h1 x0).far (p := ⟨g, 1, none⟩) h1 x1).far (p := ⟨g, 2, none⟩) h1 x2).far (p := ⟨g, 3, none⟩) h1 x3).far (p := ⟨g, 4, none⟩) h1 x4)
  exact ⟨b0.cell 0, b0.cell 1, b1.cell 0, b1.cell 1⟩

set_option maxHeartbeats 8000000 in
theorem ints_sub {x y : Int} (hx : Fits x) (hy : Fits y) (w : World) : Calls Tryd.prog 31 #[.string ⟨#[45]⟩, wv (hiW x) (loW x), wv (hiW y) (loW y)] w fun e w' => e = .returned (ansK (x - y)) ∧ Below w.heap.size w w' := by
  have hor : ordP ⟨#[45]⟩ (cmpI x y) = none := by unfold ordP; simp (decide := true)
  obtain ⟨s, hs⟩ : ∃ s, s = decide (x < 0) := ⟨_, rfl⟩
  obtain ⟨s', hs'⟩ : ∃ s, s = decide (y < 0) := ⟨_, rfl⟩
  obtain ⟨o, ho⟩ : ∃ o, o = cmpI x y := ⟨_, rfl⟩
  obtain ⟨p, hp⟩ : ∃ o, o = hiW x := ⟨_, rfl⟩
  obtain ⟨q, hq⟩ : ∃ o, o = loW x := ⟨_, rfl⟩
  obtain ⟨p', hp'⟩ : ∃ o, o = hiW y := ⟨_, rfl⟩
  obtain ⟨q', hq'⟩ : ∃ o, o = loW y := ⟨_, rfl⟩
  have HX := hide (fun W => (show Calls Tryd.prog 26 #[wv p q] W (NumS W s x.natAbs) from by rw [hp, hq, hs]; exact ref_of hx W))
  have HY := hide (fun W => (show Calls Tryd.prog 26 #[wv p' q'] W (NumS W s' y.natAbs) from by rw [hp', hq', hs']; exact ref_of hy W))
  have HCM := hide (fun (W : World) (A A' : Option Addr) (k k' c c' : Nat) (h : Dg W A k (dgs x.natAbs)) (h' : Dg W A' k' (dgs y.natAbs)) (hc : k ≤ c) (hc' : k' ≤ c') => (show Calls Tryd.prog 51 #[.agg #[.bool s, .slice A k c], .agg #[.bool s', .slice A' k' c']] W fun e w' => e = .returned (.int .i64 o) ∧ Below W.heap.size W w' from by rw [hs, hs', ho]; exact ref_cmp x y h h' (by have := len39 hx h; omega) (by have := len39 hy h'; omega) hc hc'))
  rw [← hp, ← hq, ← hp', ← hq']
  rw [← ho] at hor
  have HOR := hide (fun W => (show Calls Tryd.prog 32 #[.string ⟨#[45]⟩, .int .i64 o] W fun e w' => e = .returned (.tuple #[.bool false, .bool false]) ∧ W = w' from by have := order_any ⟨#[45]⟩ o W; rw [hor] at this; exact this))
  have HB := NB.add 26 kon0 (NB.add 24 #[.int .u64 p', .int .u64 q'] (NB.add 24 #[.int .u64 p, .int .u64 q] (NB.nil w)))
  obtain ⟨sz, vz, kd, zp, zq, er, hsz, hvz, hk, HNU⟩ := numK (x + -y) (by unfold Fits at hx hy; omega)
  rw [show x - y = x + -y from rfl, hk]
  obtain ⟨sn, hsn⟩ : ∃ s, s = decide (-y < 0) := ⟨_, rfl⟩
  obtain ⟨vn, hvn⟩ : ∃ s, s = (-y).natAbs := ⟨_, rfl⟩
  have HNE := hide (fun (W : World) (A' : Option Addr) (k' c' : Nat) (h' : Dg W A' k' (dgs y.natAbs)) (hc' : k' ≤ c') => (show Calls Tryd.prog 25 #[.agg #[.bool s', .slice A' k' c']] W (NumS W sn vn) from by rw [hs', hsn, hvn]; exact ref_neg y h' (by have := len39 hy h'; omega) hc'))
  have HAD := hide (fun (W : World) (A A' : Option Addr) (k k' c c' : Nat) (h : Dg W A k (dgs x.natAbs)) (h' : Dg W A' k' (dgs vn)) (hc : k ≤ c) (hc' : k' ≤ c') => (show Calls Tryd.prog 52 #[.agg #[.bool s, .slice A k c], .agg #[.bool sn, .slice A' k' c']] W (NumS W sz vz) from by rw [hs, hsn, hsz, hvz]; rw [hvn] at h'; exact ref_add x (-y) h h' (by have := len39 hx h; omega) (by rw [Int.natAbs_neg] at h'; have := len39 hy h'; omega) hc hc'))
  have HNX := hide (show ∀ (W : World) (n c : Nat) (A : Option Addr), Dg W A n (dgs vz) → n ≤ c → Calls Tryd.prog 24 #[.agg #[.bool sz, .slice A n c]] W (fun e w' => e = .returned (.tuple #[kon kd zp zq false ⟨#[]⟩, .int .i64 er]) ∧ Below W.heap.size W w') from HNU.out)
  clear hsz hvz hk hsn hvn HNU
  clear hp hq hp' hq' ho hor
  go_enter Tryd.func31, Tryd.ntmps31
  go_upto_region 1 with (fail)
  obtain ⟨W, hW⟩ : ∃ W : World, W = (((w.alloc (.cells #[.int .u64 p, .int .u64 q] 24)).alloc (.cells #[.int .u64 p', .int .u64 q'] 24)).alloc (.cells kon0 26)) := ⟨_, rfl⟩
  obtain ⟨g0, hg0⟩ : ∃ g, g = w.heap.size := ⟨_, rfl⟩
  obtain ⟨g1, hg1⟩ : ∃ g, g = (w.alloc (.cells #[.int .u64 p, .int .u64 q] 24)).heap.size := ⟨_, rfl⟩
  obtain ⟨g2, hg2⟩ : ∃ g, g = ((w.alloc (.cells #[.int .u64 p, .int .u64 q] 24)).alloc (.cells #[.int .u64 p', .int .u64 q'] 24)).heap.size := ⟨_, rfl⟩
  have hg1' : w.heap.size + 1 = g1 := by rw [hg1]; simp
  have hg2' : g1 + 1 = g2 := by rw [hg2, hg1]; simp
  rw [← hW] at HB ⊢
  rw [← hg2, ← hg1, ← hg0] at HB
  try rw [hg1']
  try rw [hg2']
  try rw [← hg0]
  obtain ⟨c0, c1, e0, e1⟩ := two_cellsN (NB.at_ HB (.tail _ (.tail _ (.head _))))
  clear hW hg0 hg1 hg1' hg2 hg2'
  go_wp2_with fail
  refine (HX.out _).mono ?_
  rintro e w1 ⟨A1, k1, t1, rfl, hd1, ht1, hb1⟩
  have HB1 := NB.next hb1 HB
  have HB2 := NB.add NumT #[.bool s, .slice A1 k1 t1] HB1
  obtain ⟨j0, j1, z0, z1⟩ := two_cellsN (NB.at_ HB2 (.tail _ (.tail _ (.head _))))
  obtain ⟨g3, hg3⟩ : ∃ g, g = w1.heap.size := ⟨_, rfl⟩
  have HDA := hide (hd1.alloc (.cells #[.bool s, .slice A1 k1 t1] NumT))
  clear hb1 hd1 hs hs'
  go_wp2_with fail
  refine (HY.out _).mono ?_
  rintro e w2 ⟨A2, k2, t2, rfl, hd2, ht2, hb2⟩
  have hd1 := ((HDA.out.below hb2).alloc (.cells #[.bool s', .slice A2 k2 t2] NumT))
  have hd2 := hd2.alloc (.cells #[.bool s', .slice A2 k2 t2] NumT)
  have HB3 := NB.add NumT #[.bool s', .slice A2 k2 t2] (NB.next hb2 HB2)
  rw [← hg3] at HB3
  try rw [← hg3]
  clear hb2 hg3 j0 j1 z0 z1
  obtain ⟨g4, hg4⟩ : ∃ g, g = w2.heap.size := ⟨_, rfl⟩
  obtain ⟨W3, hW3⟩ : ∃ W, W = w2.alloc (.cells #[.bool s', .slice A2 k2 t2] NumT) := ⟨_, rfl⟩
  rw [← hW3, ← hg4] at HB3
  rw [← hW3] at hd1 hd2
  obtain ⟨m0, m1, n0, n1⟩ := two_cellsN (NB.at_ HB3 (.tail _ (.head _)))
  obtain ⟨m2, m3, n2, n3⟩ := two_cellsN (NB.at_ HB3 (.head _))
  have HDA := hide hd1
  have HDB := hide hd2
  clear hd1 hd2
  go_upto_region 3 with (fail)
  rw [← hW3, ← hg4]
  clear hW3 hg4
  go_wp2_with fail
  refine (HCM.out _ _ _ _ _ _ _ HDA.out HDB.out ht1 ht2).mono ?_
  rintro e w4 ⟨rfl, hb4⟩
  have HB4 := NB.next hb4 HB3
  have HDA4 := hide (HDA.out.below hb4)
  have HDB4 := hide (HDB.out.below hb4)
  clear hb4 m0 m1 m2 m3 n0 n1 n2 n3
  obtain ⟨m0, m1, n0, n1⟩ := two_cellsN (NB.at_ HB4 (.tail _ (.head _)))
  obtain ⟨m2, m3, n2, n3⟩ := two_cellsN (NB.at_ HB4 (.head _))
  go_wp2_with fail
  refine (HOR.out _).mono ?_
  rintro e w5 ⟨rfl, rfl⟩
  have HC4 : Hid (CB w4 [(g4, NumT, #[.bool s', .slice A2 k2 t2]), (g3, NumT, #[.bool s, .slice A1 k1 t1]), (g2, 26, kon0)] w4) := hide ⟨fun p hp => (by
    rcases List.mem_cons.1 hp with rfl | hp
    · exact HB4.out.bl _ (.head _)
    rcases List.mem_cons.1 hp with rfl | hp
    · exact HB4.out.bl _ (.tail _ (.head _))
    rcases List.mem_cons.1 hp with rfl | hp
    · exact HB4.out.bl _ (.tail _ (.tail _ (.head _)))
    · cases hp), Below.refl _ _⟩
  have HN := hide (show g3 ≠ g2 ∧ g4 ≠ g2 from ⟨(NB.at_ HB4 (.tail _ (.head _))).ne_ (NB.at_ HB4 (.tail _ (.tail _ (.head _)))) (by decide), (NB.at_ HB4 (.head _)).ne_ (NB.at_ HB4 (.tail _ (.tail _ (.head _)))) (by decide)⟩)
  have HCD := CB.drew HC4
  have HDR := hide (show w4.drew.heap.size = w4.heap.size from rfl)
  clear m0 m1 m2 m3 n0 n1 n2 n3 HC4
  go_upto_region 10 with (fail)
  go_region_held3 (fun w' => w'.cell? ⟨g3, 0, none⟩ = some (.bool s) ∧ w'.cell? ⟨g3, 1, none⟩ = some (.slice A1 k1 t1) ∧ w'.cell? ⟨g4, 0, none⟩ = some (.bool s') ∧ w'.cell? ⟨g4, 1, none⟩ = some (.slice A2 k2 t2))
    (first
      | exact sub_args (by assumption)
      | exact sub_keep (by assumption) HN.out.1 HN.out.2 _ _ _ _ _)
    (first
      | (go_at_call 25; (with_reducible refine (HNE.out _ _ _ _ ?hdw ht2).mono ?_); (case hdw => exact HDB4.out.below HCD.out.low); rintro e wa ⟨Ba, ka, da, rfl, hda, hka, hba⟩; have hma := CB.next hba HCD; (try rw [HDR.out] at hma))
      | (go_at_call 52; (with_reducible refine (HAD.out _ _ _ _ _ _ _ ?hdw ?hdx ht1 hka).mono ?_); (case hdw => exact HDA4.out.below hma.out.low); (case hdx => exact hda); rintro e wb ⟨Bb, kb, db, rfl, hdb, hkb, hbb⟩; have hmb := CB.next hbb hma)
      | (go_at_call 24; (with_reducible refine (HNX.out _ _ _ _ ?hdw hkb).mono ?_); (case hdw => exact hdb); rintro e wc ⟨rfl, hbc⟩; have hmc := CB.next hbc hmb; obtain ⟨d0, d1, d2, d3, d4, f0, f1, f2, f3, f4⟩ := five_cells (CB.at_ hmc (.tail _ (.tail _ (.head _))))))
  have HB7 := NB.next hmc.out.low HB4
  have e1 := HB7.out.ge _ (List.Mem.tail _ (List.Mem.tail _ (List.Mem.head _)))
  go_wp2_with fail
  exact ret_kt (v := .int .i64 er) rfl rfl rfl rfl (set_five (CB.at_ (NB.ofC HB7) (.tail _ (.tail _ (.head _)))) _ _ _ _ _) ⟨rfl, below_set5 HB7.out.low e1 _ _ _ _ _⟩
end Go.Proofs.YtgleldpdelhhhaaDoor

namespace Go.Proofs.YtgleldpdelhhhaaDoor
open Go.RowKit Go.WideShapes Go.ChangeShapes
set_option linter.unusedVariables false
set_option maxRecDepth 100000

theorem blk2 (w : World) (o : Obj) (t : TypeId) (cs : Array Value) : Blk ((w.alloc o).alloc (.cells cs t)) (w.heap.size + 1) t cs := by
  have h := Blk.new (w.alloc o) t cs
  rwa [World.size_alloc] at h
theorem blk3 (w : World) (o o' : Obj) (t : TypeId) (cs : Array Value) : Blk (((w.alloc o).alloc o').alloc (.cells cs t)) (w.heap.size + 1 + 1) t cs := by
  have h := Blk.new ((w.alloc o).alloc o') t cs
  rwa [World.size_alloc, World.size_alloc] at h

theorem runary_odd_op (op : ByteArray) (ka : Int) (hsub : op ≠ ⟨#[45]⟩) (hnot : op ≠ ⟨#[33]⟩) (h l : Int) (x : Bool) (s : ByteArray) (w : World) : Calls Tryd.prog 10 #[.string op, kon ka h l x s] w fun e w' => e = .returned (.tuple #[kon 0 0 0 false ⟨#[]⟩, .int .i64 9]) ∧ Below w.heap.size w w' := by
  have HM := CB.add 26 kon0 (CB.add 26 (konA ka h l x s) (CB.nil w))
  simp only [World.size_alloc] at HM
  have esub := strF_ne hsub
  rw [show (⟨#[45]⟩ : ByteArray).toList = [45] by rw [ByteArray.toList_eq]] at esub
  have enot := strF_ne hnot
  rw [show (⟨#[33]⟩ : ByteArray).toList = [33] by rw [ByteArray.toList_eq]] at enot
  clear hsub hnot
  go_enter Tryd.func10, Tryd.ntmps10
  go_wp2_with fail
  exact ret_kt (v := .int .i64 9) rfl rfl rfl rfl (blk2 _ _ _ _) ⟨rfl, (CB.add _ _ (CB.add _ _ (CB.nil _))).out.low⟩

theorem runary_sub_odd (ka : Int) (hk : ka ≠ 1) (h l : Int) (x : Bool) (s : ByteArray) (w : World) : Calls Tryd.prog 10 #[.string ⟨#[45]⟩, kon ka h l x s] w fun e w' => e = .returned (.tuple #[kon 0 0 0 false ⟨#[]⟩, .int .i64 9]) ∧ Below w.heap.size w w' := by
  have HM := CB.add 26 kon0 (CB.add 26 (konA ka h l x s) (CB.nil w))
  simp only [World.size_alloc] at HM
  have hk1 : (ka == 1) = false := by rw [beq_eq_false_iff_ne]; exact hk
  go_enter Tryd.func10, Tryd.ntmps10
  go_wp2_with fail
  exact ret_kt (v := .int .i64 9) rfl rfl rfl rfl (blk2 _ _ _ _) ⟨rfl, (CB.add _ _ (CB.add _ _ (CB.nil _))).out.low⟩

theorem runary_not_odd (ka : Int) (hk : ka ≠ 2) (h l : Int) (x : Bool) (s : ByteArray) (w : World) : Calls Tryd.prog 10 #[.string ⟨#[33]⟩, kon ka h l x s] w fun e w' => e = .returned (.tuple #[kon 0 0 0 false ⟨#[]⟩, .int .i64 9]) ∧ Below w.heap.size w w' := by
  have HM := CB.add 26 kon0 (CB.add 26 (konA ka h l x s) (CB.nil w))
  simp only [World.size_alloc] at HM
  have hk1 : (ka == 2) = false := by rw [beq_eq_false_iff_ne]; exact hk
  go_enter Tryd.func10, Tryd.ntmps10
  go_wp2_with fail
  exact ret_kt (v := .int .i64 9) rfl rfl rfl rfl (blk2 _ _ _ _) ⟨rfl, (CB.add _ _ (CB.add _ _ (CB.nil _))).out.low⟩

theorem runary_not (h l : Int) (x : Bool) (s : ByteArray) (w : World) : Calls Tryd.prog 10 #[.string ⟨#[33]⟩, kon 2 h l x s] w fun e w' => e = .returned (.tuple #[kon 2 0 0 (!x) ⟨#[]⟩, .int .i64 0]) ∧ Below w.heap.size w w' := by
  have HM := CB.add 26 kon0 (CB.add 26 (konA 2 h l x s) (CB.nil w))
  simp only [World.size_alloc] at HM
  go_enter Tryd.func10, Tryd.ntmps10
  go_wp2_with fail
  refine (rtruth_any _ _).mono ?_
  rintro e w1 ⟨rfl, hb1⟩
  have M1 := CB.next hb1 HM
  obtain ⟨d0, d1, d2, d3, d4, f0, f1, f2, f3, f4⟩ := five_cells (CB.at_ M1 (.head _))
  clear hb1
  go_wp2_with fail
  exact ret_kt (v := .int .i64 0) rfl rfl rfl rfl (set_five (CB.at_ M1 (.head _)) _ _ _ _ _) ⟨rfl, below_set5 M1.out.low (by omega) _ _ _ _ _⟩

set_option maxHeartbeats 4000000 in
theorem runary_neg {z : Int} (hz : Fits z) (x : Bool) (s : ByteArray) (w : World) : Calls Tryd.prog 10 #[.string ⟨#[45]⟩, kon 1 (hiW z) (loW z) x s] w fun e w' => e = .returned (ansK (-z)) ∧ Below w.heap.size w w' := by
  obtain ⟨sz, vz, kd, zp, zq, er, hsz, hvz, hk, HNU⟩ := numK (-z) (by unfold Fits at hz; omega)
  obtain ⟨s0, hs⟩ : ∃ s, s = decide (z < 0) := ⟨_, rfl⟩
  obtain ⟨p, hp⟩ : ∃ o, o = hiW z := ⟨_, rfl⟩
  obtain ⟨q, hq⟩ : ∃ o, o = loW z := ⟨_, rfl⟩
  have HX := hide (fun W => (show Calls Tryd.prog 26 #[wv p q] W (NumS W s0 z.natAbs) from by rw [hp, hq, hs]; exact ref_of hz W))
  have HNE := hide (fun (W : World) (A' : Option Addr) (k' c' : Nat) (h' : Dg W A' k' (dgs z.natAbs)) (hc' : k' ≤ c') => (show Calls Tryd.prog 25 #[.agg #[.bool s0, .slice A' k' c']] W (NumS W sz vz) from by rw [hs, hsz, hvz]; exact ref_neg z h' (by have := len39 hz h'; omega) hc'))
  rw [hk, ← hp, ← hq]
  clear hs hp hq hsz hvz hk
  have HM := CB.add 26 kon0 (CB.add 26 (konA 1 p q x s) (CB.nil w))
  simp only [World.size_alloc] at HM
  go_enter Tryd.func10, Tryd.ntmps10
  go_wp2_with fail
  refine (HX.out _).mono ?_
  rintro e w1 ⟨A1, k1, t1, rfl, hd1, ht1, hb1⟩
  have M1 := CB.next hb1 HM
  have HD1 := hide hd1
  clear hb1 hd1
  go_wp2_with fail
  refine (HNE.out _ _ _ _ HD1.out ht1).mono ?_
  rintro e w2 ⟨A2, k2, t2, rfl, hd2, ht2, hb1⟩
  have M2 := CB.next hb1 M1
  have HD2 := hide hd2
  clear hb1 hd2
  go_wp2_with fail
  refine (HNU.out _ _ _ _ HD2.out ht2).mono ?_
  rintro e w3 ⟨rfl, hb1⟩
  have M3 := CB.next hb1 M2
  obtain ⟨d0, d1, d2, d3, d4, f0, f1, f2, f3, f4⟩ := five_cells (CB.at_ M3 (.head _))
  clear hb1
  go_wp2_with fail
  exact ret_kt (v := .int .i64 er) rfl rfl rfl rfl (set_five (CB.at_ M3 (.head _)) _ _ _ _ _) ⟨rfl, below_set5 M3.out.low (by omega) _ _ _ _ _⟩

end Go.Proofs.YtgleldpdelhhhaaDoor

namespace Go.Proofs.YtgleldpdelhhhaaDoor
open Go.RowKit Go.WideShapes Go.ChangeShapes
set_option linter.unusedVariables false
set_option maxRecDepth 100000
set_option maxHeartbeats 400000 in
theorem rbinary_apart (x y : Bool) (h l h' l' : Int) (s s' : ByteArray) (op : ByteArray) (ka kb : Int) (hne : ka ≠ kb) (w : World) : Calls Tryd.prog 12 #[.string op, kon ka h l x s, kon kb h' l' y s'] w fun e w' => e = .returned (.tuple #[kon 0 0 0 false ⟨#[]⟩, .int .i64 9]) ∧ Below w.heap.size w w' := by
  have HM := cb3 w 26 26 26 (konA ka h l x s) (konA kb h' l' y s') kon0
  go_enter Tryd.func12, Tryd.ntmps12
  go_wp2_with fail
  exact ret_kt (v := .int .i64 9) rfl rfl rfl rfl (blk3 _ _ _ _ _) ⟨rfl, (CB.add _ _ (CB.add _ _ (CB.add _ _ (CB.nil _)))).out.low⟩

set_option maxHeartbeats 400000 in
theorem rbinary_odd (x y : Bool) (h l h' l' : Int) (s s' : ByteArray) (op : ByteArray) (ka : Int) (h1 : ka ≠ 1) (h2 : ka ≠ 2) (h3 : ka ≠ 3) (w : World) : Calls Tryd.prog 12 #[.string op, kon ka h l x s, kon ka h' l' y s'] w fun e w' => e = .returned (.tuple #[kon 0 0 0 false ⟨#[]⟩, .int .i64 9]) ∧ Below w.heap.size w w' := by
  have HM := cb3 w 26 26 26 (konA ka h l x s) (konA ka h' l' y s') kon0
  have q1 : (ka == 1) = false := by rw [beq_eq_false_iff_ne]; exact h1
  have q2 : (ka == 2) = false := by rw [beq_eq_false_iff_ne]; exact h2
  have q3 : (ka == 3) = false := by rw [beq_eq_false_iff_ne]; exact h3
  go_enter Tryd.func12, Tryd.ntmps12
  go_wp2_with fail
  exact ret_kt (v := .int .i64 9) rfl rfl rfl rfl (blk3 _ _ _ _ _) ⟨rfl, (CB.add _ _ (CB.add _ _ (CB.add _ _ (CB.nil _)))).out.low⟩

set_option maxHeartbeats 400000 in
theorem rbinary_num (x y : Bool) (h l h' l' : Int) (s s' : ByteArray) (op : ByteArray) (k p q er : Int) (c : Bool) (t : ByteArray) (HN : Hid (∀ W, Calls Tryd.prog 31 #[.string op, wv h l, wv h' l'] W fun e w' => e = .returned (.tuple #[kon k p q c t, .int .i64 er]) ∧ Below W.heap.size W w')) (w : World) : Calls Tryd.prog 12 #[.string op, kon 1 h l x s, kon 1 h' l' y s'] w fun e w' => e = .returned (.tuple #[kon k p q c t, .int .i64 er]) ∧ Below w.heap.size w w' := by
  have HM := cb3 w 26 26 26 (konA 1 h l x s) (konA 1 h' l' y s') kon0
  go_enter Tryd.func12, Tryd.ntmps12
  go_wp2_with fail
  refine (HN.out _).mono ?_
  rintro e w1 ⟨rfl, hb1⟩
  have M1 := CB.next hb1 HM
  obtain ⟨d0, d1, d2, d3, d4, f0, f1, f2, f3, f4⟩ := five_cells (CB.at_ M1 (.head _))
  clear hb1
  go_wp2_with fail
  exact ret_kt (v := .int .i64 er) rfl rfl rfl rfl (set_five (CB.at_ M1 (.head _)) _ _ _ _ _) ⟨rfl, below_set5 M1.out.low (by omega) _ _ _ _ _⟩
end Go.Proofs.YtgleldpdelhhhaaDoor

namespace Go.Proofs.YtgleldpdelhhhaaDoor
open Go.RowKit Go.WideShapes Go.ChangeShapes
set_option linter.unusedVariables false
set_option maxRecDepth 100000
set_option maxHeartbeats 400000 in
theorem rbinary_and (x y : Bool) (h l h' l' : Int) (s s' : ByteArray) (w : World) : Calls Tryd.prog 12 #[.string ⟨#[38, 38]⟩, kon 2 h l x s, kon 2 h' l' y s'] w fun e w' => e = .returned (.tuple #[kon 2 0 0 (x && y) ⟨#[]⟩, .int .i64 0]) ∧ Below w.heap.size w w' := by
  have HM := cb3 w 26 26 26 (konA 2 h l x s) (konA 2 h' l' y s') kon0
  cases x
  · skip
    go_enter Tryd.func12, Tryd.ntmps12
    go_wp2_with fail
    refine (rtruth_any _ _).mono ?_
    rintro e w1 ⟨rfl, hb1⟩
    have M1 := CB.next hb1 HM
    obtain ⟨d0, d1, d2, d3, d4, f0, f1, f2, f3, f4⟩ := five_cells (CB.at_ M1 (.head _))
    clear hb1
    go_wp2_with fail
    exact ret_kt (v := .int .i64 0) rfl rfl rfl rfl (set_five (CB.at_ M1 (.head _)) _ _ _ _ _) ⟨rfl, below_set5 M1.out.low (by omega) _ _ _ _ _⟩
  · skip
    go_enter Tryd.func12, Tryd.ntmps12
    go_wp2_with fail
    refine (rtruth_any _ _).mono ?_
    rintro e w1 ⟨rfl, hb1⟩
    have M1 := CB.next hb1 HM
    obtain ⟨d0, d1, d2, d3, d4, f0, f1, f2, f3, f4⟩ := five_cells (CB.at_ M1 (.head _))
    clear hb1
    go_wp2_with fail
    exact ret_kt (v := .int .i64 0) rfl rfl rfl rfl (set_five (CB.at_ M1 (.head _)) _ _ _ _ _) ⟨rfl, below_set5 M1.out.low (by omega) _ _ _ _ _⟩

set_option maxHeartbeats 400000 in
theorem rbinary_or (x y : Bool) (h l h' l' : Int) (s s' : ByteArray) (w : World) : Calls Tryd.prog 12 #[.string ⟨#[124, 124]⟩, kon 2 h l x s, kon 2 h' l' y s'] w fun e w' => e = .returned (.tuple #[kon 2 0 0 (x || y) ⟨#[]⟩, .int .i64 0]) ∧ Below w.heap.size w w' := by
  have HM := cb3 w 26 26 26 (konA 2 h l x s) (konA 2 h' l' y s') kon0
  cases x
  · skip
    go_enter Tryd.func12, Tryd.ntmps12
    go_wp2_with fail
    refine (rtruth_any _ _).mono ?_
    rintro e w1 ⟨rfl, hb1⟩
    have M1 := CB.next hb1 HM
    obtain ⟨d0, d1, d2, d3, d4, f0, f1, f2, f3, f4⟩ := five_cells (CB.at_ M1 (.head _))
    clear hb1
    go_wp2_with fail
    exact ret_kt (v := .int .i64 0) rfl rfl rfl rfl (set_five (CB.at_ M1 (.head _)) _ _ _ _ _) ⟨rfl, below_set5 M1.out.low (by omega) _ _ _ _ _⟩
  · skip
    go_enter Tryd.func12, Tryd.ntmps12
    go_wp2_with fail
    refine (rtruth_any _ _).mono ?_
    rintro e w1 ⟨rfl, hb1⟩
    have M1 := CB.next hb1 HM
    obtain ⟨d0, d1, d2, d3, d4, f0, f1, f2, f3, f4⟩ := five_cells (CB.at_ M1 (.head _))
    clear hb1
    go_wp2_with fail
    exact ret_kt (v := .int .i64 0) rfl rfl rfl rfl (set_five (CB.at_ M1 (.head _)) _ _ _ _ _) ⟨rfl, below_set5 M1.out.low (by omega) _ _ _ _ _⟩

set_option maxHeartbeats 400000 in
theorem rbinary_eq (x y : Bool) (h l h' l' : Int) (s s' : ByteArray) (w : World) : Calls Tryd.prog 12 #[.string ⟨#[61, 61]⟩, kon 2 h l x s, kon 2 h' l' y s'] w fun e w' => e = .returned (.tuple #[kon 2 0 0 (x == y) ⟨#[]⟩, .int .i64 0]) ∧ Below w.heap.size w w' := by
  have HM := cb3 w 26 26 26 (konA 2 h l x s) (konA 2 h' l' y s') kon0
  go_enter Tryd.func12, Tryd.ntmps12
  go_wp2_with fail
  refine (rtruth_any _ _).mono ?_
  rintro e w1 ⟨rfl, hb1⟩
  have M1 := CB.next hb1 HM
  obtain ⟨d0, d1, d2, d3, d4, f0, f1, f2, f3, f4⟩ := five_cells (CB.at_ M1 (.head _))
  clear hb1
  go_wp2_with fail
  exact ret_kt (v := .int .i64 0) rfl rfl rfl rfl (set_five (CB.at_ M1 (.head _)) _ _ _ _ _) ⟨rfl, below_set5 M1.out.low (by omega) _ _ _ _ _⟩

set_option maxHeartbeats 400000 in
theorem rbinary_ne (x y : Bool) (h l h' l' : Int) (s s' : ByteArray) (w : World) : Calls Tryd.prog 12 #[.string ⟨#[33, 61]⟩, kon 2 h l x s, kon 2 h' l' y s'] w fun e w' => e = .returned (.tuple #[kon 2 0 0 (x != y) ⟨#[]⟩, .int .i64 0]) ∧ Below w.heap.size w w' := by
  have HM := cb3 w 26 26 26 (konA 2 h l x s) (konA 2 h' l' y s') kon0
  go_enter Tryd.func12, Tryd.ntmps12
  go_wp2_with fail
  refine (rtruth_any _ _).mono ?_
  rintro e w1 ⟨rfl, hb1⟩
  have M1 := CB.next hb1 HM
  obtain ⟨d0, d1, d2, d3, d4, f0, f1, f2, f3, f4⟩ := five_cells (CB.at_ M1 (.head _))
  clear hb1
  go_wp2_with fail
  exact ret_kt (v := .int .i64 0) rfl rfl rfl rfl (set_five (CB.at_ M1 (.head _)) _ _ _ _ _) ⟨rfl, below_set5 M1.out.low (by omega) _ _ _ _ _⟩

set_option maxHeartbeats 400000 in
theorem rbinary_bool_odd (x y : Bool) (h l h' l' : Int) (s s' : ByteArray) (op : ByteArray) (hand : op ≠ ⟨#[38, 38]⟩) (hor : op ≠ ⟨#[124, 124]⟩) (heq : op ≠ ⟨#[61, 61]⟩) (hne : op ≠ ⟨#[33, 61]⟩) (w : World) : Calls Tryd.prog 12 #[.string op, kon 2 h l x s, kon 2 h' l' y s'] w fun e w' => e = .returned (.tuple #[kon 0 0 0 false ⟨#[]⟩, .int .i64 9]) ∧ Below w.heap.size w w' := by
  have HM := cb3 w 26 26 26 (konA 2 h l x s) (konA 2 h' l' y s') kon0
  have eand := strF_ne hand
  rw [show (⟨#[38, 38]⟩ : ByteArray).toList = [38, 38] by rw [ByteArray.toList_eq]] at eand
  have eor := strF_ne hor
  rw [show (⟨#[124, 124]⟩ : ByteArray).toList = [124, 124] by rw [ByteArray.toList_eq]] at eor
  have eeq := strF_ne heq
  rw [show (⟨#[61, 61]⟩ : ByteArray).toList = [61, 61] by rw [ByteArray.toList_eq]] at eeq
  have ene := strF_ne hne
  rw [show (⟨#[33, 61]⟩ : ByteArray).toList = [33, 61] by rw [ByteArray.toList_eq]] at ene
  clear hand hor heq hne
  go_enter Tryd.func12, Tryd.ntmps12
  go_wp2_with fail
  exact ret_kt (v := .int .i64 9) rfl rfl rfl rfl (blk3 _ _ _ _ _) ⟨rfl, (CB.add _ _ (CB.add _ _ (CB.add _ _ (CB.nil _)))).out.low⟩
end Go.Proofs.YtgleldpdelhhhaaDoor

namespace Go.Proofs.YtgleldpdelhhhaaDoor
open Go.RowKit Go.WideShapes Go.ChangeShapes
set_option linter.unusedVariables false
set_option maxRecDepth 100000
set_option maxHeartbeats 400000 in
theorem rbinary_text_ord (x y : Bool) (h l h' l' : Int) (s s' : ByteArray) (op : ByteArray) (t : Bool) (hs : (s.size : Int) ≤ 1024) (hs' : (s'.size : Int) ≤ 1024) (hor : ordP op (cmpS s s') = some t) (w : World) : Calls Tryd.prog 12 #[.string op, kon 3 h l x s, kon 3 h' l' y s'] w fun e w' => e = .returned (.tuple #[kon 2 0 0 t ⟨#[]⟩, .int .i64 0]) ∧ Below w.heap.size w w' := by
  have HM := cb3 w 26 26 26 (konA 3 h l x s) (konA 3 h' l' y s') kon0
  obtain ⟨o, ho⟩ : ∃ o, o = cmpS s s' := ⟨_, rfl⟩
  have HT := hide (fun W => (show Calls Tryd.prog 33 #[.string s, .string s'] W (fun e w' => e = .returned (.int .i64 o) ∧ Below W.heap.size W w') from by rw [ho]; exact rtexts_any s s' (by omega) (by omega) W))
  rw [← ho] at hor
  have HOR := hide (fun W => (show Calls Tryd.prog 32 #[.string op, .int .i64 o] W fun e w' => e = .returned (.tuple #[.bool t, .bool true]) ∧ W = w' from by have := order_any op o W; rw [hor] at this; exact this))
  clear ho hor
  go_enter Tryd.func12, Tryd.ntmps12
  go_wp2_with fail
  refine (HT.out _).mono ?_
  rintro e w1 ⟨rfl, hb1⟩
  have M1 := CB.next hb1 HM
  obtain ⟨d0, d1, d2, d3, d4, f0, f1, f2, f3, f4⟩ := five_cells (CB.at_ M1 (.head _))
  clear hb1
  go_wp2_with fail
  refine (HOR.out _).mono ?_
  rintro e w5 ⟨rfl, rfl⟩
  go_wp2_with fail
  refine (rtruth_any _ _).mono ?_
  rintro e w6 ⟨rfl, hb1⟩
  have M2 := CB.next hb1 M1
  obtain ⟨d0, d1, d2, d3, d4, f0, f1, f2, f3, f4⟩ := five_cells (CB.at_ M2 (.head _))
  clear hb1
  go_wp2_with fail
  exact ret_kt (v := .int .i64 0) rfl rfl rfl rfl (set_five (CB.at_ M2 (.head _)) _ _ _ _ _) ⟨rfl, below_set5 M2.out.low (by omega) _ _ _ _ _⟩

set_option maxHeartbeats 400000 in
theorem rbinary_text_odd (x y : Bool) (h l h' l' : Int) (s s' : ByteArray) (op : ByteArray) (hs : (s.size : Int) ≤ 1024) (hs' : (s'.size : Int) ≤ 1024) (hadd : op ≠ ⟨#[43]⟩) (hor : ordP op (cmpS s s') = none) (w : World) : Calls Tryd.prog 12 #[.string op, kon 3 h l x s, kon 3 h' l' y s'] w fun e w' => e = .returned (.tuple #[kon 0 0 0 false ⟨#[]⟩, .int .i64 9]) ∧ Below w.heap.size w w' := by
  have HM := cb3 w 26 26 26 (konA 3 h l x s) (konA 3 h' l' y s') kon0
  obtain ⟨o, ho⟩ : ∃ o, o = cmpS s s' := ⟨_, rfl⟩
  have HT := hide (fun W => (show Calls Tryd.prog 33 #[.string s, .string s'] W (fun e w' => e = .returned (.int .i64 o) ∧ Below W.heap.size W w') from by rw [ho]; exact rtexts_any s s' (by omega) (by omega) W))
  rw [← ho] at hor
  have HOR := hide (fun W => (show Calls Tryd.prog 32 #[.string op, .int .i64 o] W fun e w' => e = .returned (.tuple #[.bool false, .bool false]) ∧ W = w' from by have := order_any op o W; rw [hor] at this; exact this))
  clear ho hor
  have eadd := strF_ne hadd
  rw [show (⟨#[43]⟩ : ByteArray).toList = [43] by rw [ByteArray.toList_eq]] at eadd
  clear hadd
  go_enter Tryd.func12, Tryd.ntmps12
  go_wp2_with fail
  refine (HT.out _).mono ?_
  rintro e w1 ⟨rfl, hb1⟩
  have M1 := CB.next hb1 HM
  obtain ⟨d0, d1, d2, d3, d4, f0, f1, f2, f3, f4⟩ := five_cells (CB.at_ M1 (.head _))
  clear hb1
  go_wp2_with fail
  refine (HOR.out _).mono ?_
  rintro e w5 ⟨rfl, rfl⟩
  go_wp2_with fail
  exact ret_kt (v := .int .i64 9) rfl rfl rfl rfl (set_five (CB.at_ M1 (.head _)) _ _ _ _ _) ⟨rfl, below_set5 M1.out.low (by omega) _ _ _ _ _⟩

set_option maxHeartbeats 400000 in
theorem rbinary_text_add (x y : Bool) (h l h' l' : Int) (s s' : ByteArray) (hs : (s.size : Int) ≤ 1024) (hs' : (s'.size : Int) ≤ 1024) (w : World) : Calls Tryd.prog 12 #[.string ⟨#[43]⟩, kon 3 h l x s, kon 3 h' l' y s'] w fun e w' => e = .returned (.tuple #[kon 3 0 0 false (s ++ s'), .int .i64 0]) ∧ Below w.heap.size w w' := by
  have HM := cb3 w 26 26 26 (konA 3 h l x s) (konA 3 h' l' y s') kon0
  have hor : ordP ⟨#[43]⟩ (cmpS s s') = none := by unfold ordP; simp (decide := true)
  obtain ⟨o, ho⟩ : ∃ o, o = cmpS s s' := ⟨_, rfl⟩
  have HT := hide (fun W => (show Calls Tryd.prog 33 #[.string s, .string s'] W (fun e w' => e = .returned (.int .i64 o) ∧ Below W.heap.size W w') from by rw [ho]; exact rtexts_any s s' (by omega) (by omega) W))
  rw [← ho] at hor
  have HOR := hide (fun W => (show Calls Tryd.prog 32 #[.string ⟨#[43]⟩, .int .i64 o] W fun e w' => e = .returned (.tuple #[.bool false, .bool false]) ∧ W = w' from by have := order_any ⟨#[43]⟩ o W; rw [hor] at this; exact this))
  clear ho hor
  have hl : ((s.size : Int) + (s'.size : Int)) ≤ 65536 := by omega
  have hl2 : (s.size : Int) ≤ 65536 := by omega
  have hl3 : (s'.size : Int) ≤ 65536 - (s.size : Int) := by omega
  have i1 : ¬ 65536 < (s.size : Int) := by omega
  have i2 : ¬ 65536 - (s.size : Int) < (s'.size : Int) := by omega
  go_enter Tryd.func12, Tryd.ntmps12
  go_wp2_with fail
  refine (HT.out _).mono ?_
  rintro e w1 ⟨rfl, hb1⟩
  have M1 := CB.next hb1 HM
  obtain ⟨d0, d1, d2, d3, d4, f0, f1, f2, f3, f4⟩ := five_cells (CB.at_ M1 (.head _))
  clear hb1
  obtain ⟨j0, j1, j2, j3, j4, z0, z1, z2, z3, z4⟩ := five_cells (CB.at_ M1 (.tail _ (.head _)))
  obtain ⟨m0, m1, m2, m3, m4, n0, n1, n2, n3, n4⟩ := five_cells (CB.at_ M1 (.tail _ (.tail _ (.head _))))
  go_wp2_with fail
  refine (HOR.out _).mono ?_
  rintro e w5 ⟨rfl, rfl⟩
  go_wp2_with fail
  exact ret_kt (v := .int .i64 0) rfl rfl rfl rfl (set_five (CB.at_ M1 (.head _)) _ _ _ _ _) ⟨rfl, below_set5 M1.out.low (by omega) _ _ _ _ _⟩
end Go.Proofs.YtgleldpdelhhhaaDoor

namespace Go.Proofs.YtgleldpdelhhhaaDoor
open Go.RowKit Go.WideShapes Go.ChangeShapes
set_option linter.unusedVariables false
set_option maxRecDepth 100000

def vv (k n : Int) (s : ByteArray) : Value := .agg #[.int .i64 k, .int .i64 n, .int .i64 0, .int .i64 0, .string s]
def val0 : Array Value := #[.int .i64 0, .int .i64 0, .int .i64 0, .int .i64 0, .string ⟨#[]⟩]
theorem wint_yes {x : Int} (hx : Fits x) (h : IntW x) (W : World) : Calls Tryd.prog 34 #[wv (hiW x) (loW x)] W fun e w' => e = .returned (.tuple #[.int .i64 x, .int .i64 0]) ∧ Below W.heap.size W w' := by
  refine (wint_any hx W).mono ?_
  rintro e w' ⟨⟨_, h1⟩ | ⟨h2, _⟩, hb⟩
  · exact ⟨h1, hb⟩
  · exact absurd h h2
theorem wint_no {x : Int} (hx : Fits x) (h : ¬ IntW x) (W : World) : Calls Tryd.prog 34 #[wv (hiW x) (loW x)] W fun e w' => e = .returned (.tuple #[.int .i64 0, .int .i64 10]) ∧ Below W.heap.size W w' := by
  refine (wint_any hx W).mono ?_
  rintro e w' ⟨⟨h2, _⟩ | ⟨_, h1⟩, hb⟩
  · exact absurd h2 h
  · exact ⟨h1, hb⟩

theorem pvalue_odd (ka : Int) (h1 : ka ≠ 1) (h2 : ka ≠ 2) (h3 : ka ≠ 3) (h l : Int) (x : Bool) (s : ByteArray) (w : World) : Calls Tryd.prog 13 #[kon ka h l x s] w fun e w' => e = .returned (.tuple #[vv 0 0 ⟨#[]⟩, .int .i64 1]) ∧ Below w.heap.size w w' := by
  have k1 : (ka == 1) = false := by rw [beq_eq_false_iff_ne]; exact h1
  have k2 : (ka == 2) = false := by rw [beq_eq_false_iff_ne]; exact h2
  have k3 : (ka == 3) = false := by rw [beq_eq_false_iff_ne]; exact h3
  go_enter Tryd.func13, Tryd.ntmps13
  go_wp2_with fail
  exact ret_vt (v := .int .i64 1) rfl rfl rfl rfl (blk2 _ _ _ _) ⟨rfl, (CB.add _ _ (CB.add _ _ (CB.nil _))).out.low⟩

theorem pvalue_text (h l : Int) (x : Bool) (s : ByteArray) (w : World) : Calls Tryd.prog 13 #[kon 3 h l x s] w fun e w' => e = .returned (.tuple #[vv 3 0 s, .int .i64 0]) ∧ Below w.heap.size w w' := by
  go_enter Tryd.func13, Tryd.ntmps13
  go_wp2_with fail
  exact ret_vt (v := .int .i64 0) rfl rfl rfl rfl (blk2 _ _ _ _) ⟨rfl, (CB.add _ _ (CB.add _ _ (CB.nil _))).out.low⟩

theorem pvalue_true (h l : Int) (s : ByteArray) (w : World) : Calls Tryd.prog 13 #[kon 2 h l true s] w fun e w' => e = .returned (.tuple #[vv 2 1 ⟨#[]⟩, .int .i64 0]) ∧ Below w.heap.size w w' := by
  go_enter Tryd.func13, Tryd.ntmps13
  go_wp2_with fail
  exact ret_vt (v := .int .i64 0) rfl rfl rfl rfl (blk2 _ _ _ _) ⟨rfl, (CB.add _ _ (CB.add _ _ (CB.nil _))).out.low⟩

theorem pvalue_false (h l : Int) (s : ByteArray) (w : World) : Calls Tryd.prog 13 #[kon 2 h l false s] w fun e w' => e = .returned (.tuple #[vv 2 0 ⟨#[]⟩, .int .i64 0]) ∧ Below w.heap.size w w' := by
  go_enter Tryd.func13, Tryd.ntmps13
  go_wp2_with fail
  exact ret_vt (v := .int .i64 0) rfl rfl rfl rfl (blk2 _ _ _ _) ⟨rfl, (CB.add _ _ (CB.add _ _ (CB.nil _))).out.low⟩

theorem rvalue_odd (ka : Int) (h1 : ka ≠ 1) (h2 : ka ≠ 2) (h3 : ka ≠ 3) (h l : Int) (x : Bool) (s : ByteArray) (w : World) : Calls Tryd.prog 14 #[kon ka h l x s] w fun e w' => e = .returned (.tuple #[vv 0 0 ⟨#[]⟩, .int .i64 1]) ∧ Below w.heap.size w w' := by
  have k1 : (ka == 1) = false := by rw [beq_eq_false_iff_ne]; exact h1
  have k2 : (ka == 2) = false := by rw [beq_eq_false_iff_ne]; exact h2
  have k3 : (ka == 3) = false := by rw [beq_eq_false_iff_ne]; exact h3
  go_enter Tryd.func14, Tryd.ntmps14
  go_wp2_with fail
  exact ret_vt (v := .int .i64 1) rfl rfl rfl rfl (blk2 _ _ _ _) ⟨rfl, (CB.add _ _ (CB.add _ _ (CB.nil _))).out.low⟩

theorem rvalue_text (h l : Int) (x : Bool) (s : ByteArray) (w : World) : Calls Tryd.prog 14 #[kon 3 h l x s] w fun e w' => e = .returned (.tuple #[vv 3 0 s, .int .i64 0]) ∧ Below w.heap.size w w' := by
  go_enter Tryd.func14, Tryd.ntmps14
  go_wp2_with fail
  exact ret_vt (v := .int .i64 0) rfl rfl rfl rfl (blk2 _ _ _ _) ⟨rfl, (CB.add _ _ (CB.add _ _ (CB.nil _))).out.low⟩

theorem rvalue_true (h l : Int) (s : ByteArray) (w : World) : Calls Tryd.prog 14 #[kon 2 h l true s] w fun e w' => e = .returned (.tuple #[vv 2 1 ⟨#[]⟩, .int .i64 0]) ∧ Below w.heap.size w w' := by
  go_enter Tryd.func14, Tryd.ntmps14
  go_wp2_with fail
  exact ret_vt (v := .int .i64 0) rfl rfl rfl rfl (blk2 _ _ _ _) ⟨rfl, (CB.add _ _ (CB.add _ _ (CB.nil _))).out.low⟩

theorem rvalue_false (h l : Int) (s : ByteArray) (w : World) : Calls Tryd.prog 14 #[kon 2 h l false s] w fun e w' => e = .returned (.tuple #[vv 2 0 ⟨#[]⟩, .int .i64 0]) ∧ Below w.heap.size w w' := by
  go_enter Tryd.func14, Tryd.ntmps14
  go_wp2_with fail
  exact ret_vt (v := .int .i64 0) rfl rfl rfl rfl (blk2 _ _ _ _) ⟨rfl, (CB.add _ _ (CB.add _ _ (CB.nil _))).out.low⟩

theorem pvalue_yes {z : Int} (hz : Fits z) (hi : IntW z) (x : Bool) (s : ByteArray) (w : World) : Calls Tryd.prog 13 #[kon 1 (hiW z) (loW z) x s] w fun e w' => e = .returned (.tuple #[vv 1 z ⟨#[]⟩, .int .i64 0]) ∧ Below w.heap.size w w' := by
  obtain ⟨p, hp⟩ : ∃ o, o = hiW z := ⟨_, rfl⟩
  obtain ⟨q, hq⟩ : ∃ o, o = loW z := ⟨_, rfl⟩
  have HI := hide (fun W => (show Calls Tryd.prog 34 #[wv p q] W (fun e w' => e = .returned (.tuple #[.int .i64 z, .int .i64 0]) ∧ Below W.heap.size W w') from by rw [hp, hq]; exact wint_yes hz hi W))
  rw [← hp, ← hq]
  clear hp hq hi
  have HM := CB.add 36 val0 (CB.add 26 (konA 1 p q x s) (CB.nil w))
  simp only [World.size_alloc] at HM
  go_enter Tryd.func13, Tryd.ntmps13
  go_wp2_with fail
  refine (HI.out _).mono ?_
  rintro e w1 ⟨rfl, hb1⟩
  have M1 := CB.next hb1 HM
  obtain ⟨d0, d1, d2, d3, d4, f0, f1, f2, f3, f4⟩ := five_cells (CB.at_ M1 (.head _))
  clear hb1
  go_wp2_with fail
  exact ret_vt (v := .int .i64 0) rfl rfl rfl rfl (set_five (CB.at_ M1 (.head _)) _ _ _ _ _) ⟨rfl, below_set5 M1.out.low (by omega) _ _ _ _ _⟩

set_option maxHeartbeats 4000000 in
theorem rvalue_yes {z : Int} (hz : Fits z) (hi : IntW z) (x : Bool) (s : ByteArray) (w : World) : Calls Tryd.prog 14 #[kon 1 (hiW z) (loW z) x s] w fun e w' => e = .returned (.tuple #[vv 1 z ⟨#[]⟩, .int .i64 0]) ∧ Below w.heap.size w w' := by
  obtain ⟨p, hp⟩ : ∃ o, o = hiW z := ⟨_, rfl⟩
  obtain ⟨q, hq⟩ : ∃ o, o = loW z := ⟨_, rfl⟩
  obtain ⟨s0, hs⟩ : ∃ s, s = decide (z < 0) := ⟨_, rfl⟩
  have HX := hide (fun W => (show Calls Tryd.prog 26 #[wv p q] W (NumS W s0 z.natAbs) from by rw [hp, hq, hs]; exact ref_of hz W))
  have HSM := hide (fun (W : World) (A' : Option Addr) (k' c' : Nat) (h' : Dg W A' k' (dgs z.natAbs)) => (show Calls Tryd.prog 35 #[.agg #[.bool s0, .slice A' k' c']] W (fun e w' => e = .returned (.bool true) ∧ Below W.heap.size W w') from by rw [hs, show true = decide (-9223372036854775808 ≤ z ∧ z < 9223372036854775808) from (decide_eq_true (show (-9223372036854775808 ≤ z ∧ z < 9223372036854775808) from hi)).symm]; exact ref_small z h' (by have := len39 hz h'; omega)))
  have hlo : IntKind.i64.wrap q = z := by rw [hq]; exact lowI_yes hi
  rw [← hp, ← hq]
  clear hp hq hs hi
  have HM := CB.add 36 val0 (CB.add 26 (konA 1 p q x s) (CB.nil w))
  simp only [World.size_alloc] at HM
  go_enter Tryd.func14, Tryd.ntmps14
  go_wp2_with fail
  refine (HX.out _).mono ?_
  rintro e w1 ⟨A1, k1, t1, rfl, hd1, ht1, hb1⟩
  have M1 := CB.next hb1 HM
  have HD1 := hide hd1
  clear hb1 hd1
  go_wp2_with fail
  refine (HSM.out _ _ _ _ HD1.out).mono ?_
  rintro e w2 ⟨rfl, hb1⟩
  have M2 := CB.next hb1 M1
  obtain ⟨d0, d1, d2, d3, d4, f0, f1, f2, f3, f4⟩ := five_cells (CB.at_ M2 (.head _))
  clear hb1
  obtain ⟨j0, j1, j2, j3, j4, z0, z1, z2, z3, z4⟩ := five_cells (CB.at_ M2 (.tail _ (.head _)))
  go_wp2_with fail
  exact ret_vt (v := .int .i64 0) rfl rfl rfl rfl (set_five (CB.at_ M2 (.head _)) _ _ _ _ _) ⟨rfl, below_set5 M2.out.low (by omega) _ _ _ _ _⟩

theorem pvalue_no {z : Int} (hz : Fits z) (hi : ¬ IntW z) (x : Bool) (s : ByteArray) (w : World) : Calls Tryd.prog 13 #[kon 1 (hiW z) (loW z) x s] w fun e w' => e = .returned (.tuple #[vv 0 0 ⟨#[]⟩, .int .i64 10]) ∧ Below w.heap.size w w' := by
  obtain ⟨p, hp⟩ : ∃ o, o = hiW z := ⟨_, rfl⟩
  obtain ⟨q, hq⟩ : ∃ o, o = loW z := ⟨_, rfl⟩
  have HI := hide (fun W => (show Calls Tryd.prog 34 #[wv p q] W (fun e w' => e = .returned (.tuple #[.int .i64 0, .int .i64 10]) ∧ Below W.heap.size W w') from by rw [hp, hq]; exact wint_no hz hi W))
  rw [← hp, ← hq]
  clear hp hq hi
  have HM := CB.add 36 val0 (CB.add 26 (konA 1 p q x s) (CB.nil w))
  simp only [World.size_alloc] at HM
  go_enter Tryd.func13, Tryd.ntmps13
  go_wp2_with fail
  refine (HI.out _).mono ?_
  rintro e w1 ⟨rfl, hb1⟩
  have M1 := CB.next hb1 HM
  obtain ⟨d0, d1, d2, d3, d4, f0, f1, f2, f3, f4⟩ := five_cells (CB.at_ M1 (.head _))
  clear hb1
  go_wp2_with fail
  exact ret_vt (v := .int .i64 10) rfl rfl rfl rfl (set_five (CB.at_ M1 (.head _)) _ _ _ _ _) ⟨rfl, below_set5 M1.out.low (by omega) _ _ _ _ _⟩

set_option maxHeartbeats 4000000 in
theorem rvalue_no {z : Int} (hz : Fits z) (hi : ¬ IntW z) (x : Bool) (s : ByteArray) (w : World) : Calls Tryd.prog 14 #[kon 1 (hiW z) (loW z) x s] w fun e w' => e = .returned (.tuple #[vv 0 0 ⟨#[]⟩, .int .i64 10]) ∧ Below w.heap.size w w' := by
  obtain ⟨p, hp⟩ : ∃ o, o = hiW z := ⟨_, rfl⟩
  obtain ⟨q, hq⟩ : ∃ o, o = loW z := ⟨_, rfl⟩
  obtain ⟨s0, hs⟩ : ∃ s, s = decide (z < 0) := ⟨_, rfl⟩
  have HX := hide (fun W => (show Calls Tryd.prog 26 #[wv p q] W (NumS W s0 z.natAbs) from by rw [hp, hq, hs]; exact ref_of hz W))
  have HSM := hide (fun (W : World) (A' : Option Addr) (k' c' : Nat) (h' : Dg W A' k' (dgs z.natAbs)) => (show Calls Tryd.prog 35 #[.agg #[.bool s0, .slice A' k' c']] W (fun e w' => e = .returned (.bool false) ∧ Below W.heap.size W w') from by rw [hs, show false = decide (-9223372036854775808 ≤ z ∧ z < 9223372036854775808) from (decide_eq_false (show ¬ (-9223372036854775808 ≤ z ∧ z < 9223372036854775808) from hi)).symm]; exact ref_small z h' (by have := len39 hz h'; omega)))
  rw [← hp, ← hq]
  clear hp hq hs hi
  have HM := CB.add 36 val0 (CB.add 26 (konA 1 p q x s) (CB.nil w))
  simp only [World.size_alloc] at HM
  go_enter Tryd.func14, Tryd.ntmps14
  go_wp2_with fail
  refine (HX.out _).mono ?_
  rintro e w1 ⟨A1, k1, t1, rfl, hd1, ht1, hb1⟩
  have M1 := CB.next hb1 HM
  have HD1 := hide hd1
  clear hb1 hd1
  go_wp2_with fail
  refine (HSM.out _ _ _ _ HD1.out).mono ?_
  rintro e w2 ⟨rfl, hb1⟩
  have M2 := CB.next hb1 M1
  obtain ⟨d0, d1, d2, d3, d4, f0, f1, f2, f3, f4⟩ := five_cells (CB.at_ M2 (.head _))
  clear hb1
  obtain ⟨j0, j1, j2, j3, j4, z0, z1, z2, z3, z4⟩ := five_cells (CB.at_ M2 (.tail _ (.head _)))
  go_wp2_with fail
  exact ret_vt (v := .int .i64 10) rfl rfl rfl rfl (set_five (CB.at_ M2 (.head _)) _ _ _ _ _) ⟨rfl, below_set5 M2.out.low (by omega) _ _ _ _ _⟩
end Go.Proofs.YtgleldpdelhhhaaDoor

namespace Go.Proofs.YtgleldpdelhhhaaDoor
open Go.RowKit Go.WideShapes Go.ChangeShapes
set_option linter.unusedVariables false
set_option maxRecDepth 100000

/-- Two funcs answer the same constant and error. -/
def Both (f g : Nat) (args : Array Value) : Prop :=
  ∃ (k p q : Int) (b : Bool) (t : ByteArray) (er : Int), (0 ≤ er ∧ er ≤ 100) ∧ (∀ W, Calls Tryd.prog f args W fun e w' => e = .returned (.tuple #[kon k p q b t, .int .i64 er]) ∧ Below W.heap.size W w') ∧
    (∀ W, Calls Tryd.prog g args W fun e w' => e = .returned (.tuple #[kon k p q b t, .int .i64 er]) ∧ Below W.heap.size W w')
def BothV (f g : Nat) (args : Array Value) : Prop :=
  ∃ (k n : Int) (t : ByteArray) (er : Int), (0 ≤ er ∧ er ≤ 100) ∧ (∀ W, Calls Tryd.prog f args W fun e w' => e = .returned (.tuple #[vv k n t, .int .i64 er]) ∧ Below W.heap.size W w') ∧
    (∀ W, Calls Tryd.prog g args W fun e w' => e = .returned (.tuple #[vv k n t, .int .i64 er]) ∧ Below W.heap.size W w')
theorem quoW_tdiv8 (x y : Int) : quoW x y = x.tdiv y := by
  unfold quoW absW xorB
  by_cases hx : x < 0 <;> by_cases hy : y < 0
  · have h := Int.neg_tdiv_neg x y
    rw [Int.tdiv_eq_ediv_of_nonneg (by omega)] at h
    simp [hx, hy, h]
  · have h := Int.neg_tdiv x y
    rw [Int.tdiv_eq_ediv_of_nonneg (by omega)] at h
    simp [hx, hy]
    omega
  · have h := Int.tdiv_neg x y
    rw [Int.tdiv_eq_ediv_of_nonneg (by omega)] at h
    have h2 := Int.ediv_neg x y
    simp [hx, hy]
    omega
  · have h := Int.tdiv_eq_ediv_of_nonneg (a := x) (b := y) (by omega)
    rw [h]
    simp [hx, hy]
theorem remW_tmod8 (x y : Int) : remW x y = x.tmod y := by
  have e : ∀ a : Int, 0 ≤ a → a.tmod y = a % absW y := by
    intro a ha
    unfold absW
    split
    · rw [← Int.tmod_neg, Int.tmod_eq_emod_of_nonneg ha]
    · rw [Int.tmod_eq_emod_of_nonneg ha]
  unfold remW
  by_cases hx : x < 0
  · have h := Int.neg_tmod x y
    rw [e _ (by omega)] at h
    have ha : absW x = -x := by unfold absW; rw [if_pos hx]
    rw [ha]
    simp [hx]
    omega
  · have ha : absW x = x := by unfold absW; rw [if_neg hx]
    rw [e x (by omega), ha]
    simp [hx]

theorem errW_in (z : Int) : 0 ≤ errW z ∧ errW z ≤ 100 := by
  by_cases hf : Fits z
  · have h1 := valW_yes hf; omega
  · have h1 := valW_no hf; omega

theorem unary_both (op : ByteArray) (ka : Int) {z : Int} (hz : Fits z) (x : Bool) (s : ByteArray) : Both 9 10 #[.string op, kon ka (hiW z) (loW z) x s] := by
  by_cases h1 : op = ⟨#[45]⟩
  · subst h1
    by_cases hk : ka = 1
    · subst hk
      exact ⟨_, _, _, _, _, _, errW_in (-z), fun W => unary_neg hz x s W, fun W => runary_neg hz x s W⟩
    · exact ⟨_, _, _, _, _, _, by omega, fun W => unary_sub_odd ka hk _ _ x s W, fun W => runary_sub_odd ka hk _ _ x s W⟩
  · by_cases h2 : op = ⟨#[33]⟩
    · subst h2
      by_cases hk : ka = 2
      · subst hk
        exact ⟨_, _, _, _, _, _, by omega, fun W => unary_not x _ _ s W, fun W => runary_not _ _ x s W⟩
      · exact ⟨_, _, _, _, _, _, by omega, fun W => unary_not_odd ka hk _ _ x s W, fun W => runary_not_odd ka hk _ _ x s W⟩
    · exact ⟨_, _, _, _, _, _, by omega, fun W => unary_odd_op op ka h1 h2 _ _ x s W, fun W => runary_odd_op op ka h1 h2 _ _ x s W⟩

theorem value_both (ka : Int) {z : Int} (hz : Fits z) (x : Bool) (s : ByteArray) : BothV 13 14 #[kon ka (hiW z) (loW z) x s] := by
  by_cases h1 : ka = 1
  · subst h1
    by_cases hi : IntW z
    · exact ⟨_, _, _, _, by omega, fun W => pvalue_yes hz hi x s W, fun W => rvalue_yes hz hi x s W⟩
    · exact ⟨_, _, _, _, by omega, fun W => pvalue_no hz hi x s W, fun W => rvalue_no hz hi x s W⟩
  · by_cases h2 : ka = 2
    · subst h2
      cases x
      · exact ⟨_, _, _, _, by omega, fun W => pvalue_false _ _ s W, fun W => rvalue_false _ _ s W⟩
      · exact ⟨_, _, _, _, by omega, fun W => pvalue_true _ _ s W, fun W => rvalue_true _ _ s W⟩
    · by_cases h3 : ka = 3
      · subst h3
        exact ⟨_, _, _, _, by omega, fun W => pvalue_text _ _ x s W, fun W => rvalue_text _ _ x s W⟩
      · exact ⟨_, _, _, _, by omega, fun W => pvalue_odd ka h1 h2 h3 _ _ x s W, fun W => rvalue_odd ka h1 h2 h3 _ _ x s W⟩

theorem num_both (op : ByteArray) {x y : Int} (hx : Fits x) (hy : Fits y) : ∃ (k p q : Int) (b : Bool) (t : ByteArray) (er : Int), (0 ≤ er ∧ er ≤ 100) ∧
    (∀ W, Calls Tryd.prog 28 #[.string op, wv (hiW x) (loW x), wv (hiW y) (loW y)] W fun e w' => e = .returned (.tuple #[kon k p q b t, .int .i64 er]) ∧ Below W.heap.size W w') ∧
    (∀ W, Calls Tryd.prog 31 #[.string op, wv (hiW x) (loW x), wv (hiW y) (loW y)] W fun e w' => e = .returned (.tuple #[kon k p q b t, .int .i64 er]) ∧ Below W.heap.size W w') := by
  have HC : Hid (∀ W, Calls Tryd.prog 49 #[wv (hiW x) (loW x), wv (hiW y) (loW y)] W fun e w' => e = .returned (.int .i64 (cmpI x y)) ∧ Below W.heap.size W w') := hide (fun W => (cmp_any hx hy W).mono (by rintro e w' ⟨h1, h2⟩; exact ⟨h1, h2⟩))
  have hM (z : Int) : Hid (∀ W, Calls Tryd.prog 20 #[wv (hiW (valW z)) (loW (valW z)), .int .i64 (errW z)] W fun e w' => e = .returned (.tuple #[kon (kindW z) (hiW (valW z)) (loW (valW z)) false ⟨#[]⟩, .int .i64 (errW z)]) ∧ Below W.heap.size W w') := hide (fun W => checked_w _ W)
  by_cases hadd : op = ⟨#[43]⟩
  · subst hadd
    exact ⟨_, _, _, _, _, _, errW_in (x + y), fun W => numbers_plus hx hy W, fun W => ints_add hx hy W⟩
  by_cases hsub : op = ⟨#[45]⟩
  · subst hsub
    exact ⟨_, _, _, _, _, _, errW_in (x - y), fun W => numbers_minus hx hy W, fun W => ints_sub hx hy W⟩
  by_cases hmul : op = ⟨#[42]⟩
  · subst hmul
    exact ⟨_, _, _, _, _, _, errW_in (x * y), fun W => numbers_mul_to _ _ _ _ _ _ _ _ (hide (fun W => by have h := mul_any hx hy W; rw [ansW_val] at h; exact h)) (hM _) W, fun W => ints_mul hx hy W⟩
  by_cases hquo : op = ⟨#[47]⟩
  · subst hquo
    by_cases h0 : y = 0
    · subst h0
      exact ⟨_, _, _, _, _, _, by omega, fun W => numbers_quo_to _ _ _ _ 0 0 0 10 (hide (fun W => quo_zero _ _ W)) (hide (fun W => checked_no 0 0 W)) W, fun W => ints_quo_zero hx hy rfl W⟩
    · exact ⟨_, _, _, _, _, _, errW_in (x.tdiv y), fun W => numbers_quo_to _ _ _ _ _ _ _ _ (hide (fun W => by have h := quo_any hx hy h0 W; rw [quoW_tdiv8, ansW_val] at h; exact h)) (hM _) W, fun W => ints_quo hx hy h0 W⟩
  by_cases hrem : op = ⟨#[37]⟩
  · subst hrem
    by_cases h0 : y = 0
    · subst h0
      exact ⟨_, _, _, _, _, _, by omega, fun W => numbers_rem_to _ _ _ _ 0 0 0 10 (hide (fun W => rem_zero _ _ W)) (hide (fun W => checked_no 0 0 W)) W, fun W => ints_rem_zero hx hy rfl W⟩
    · exact ⟨_, _, _, _, _, _, errW_in (x.tmod y), fun W => numbers_rem_to _ _ _ _ _ _ _ _ (hide (fun W => by have h := rem_any hx hy h0 W; rw [remW_tmod8, ansW_val] at h; exact h)) (hM _) W, fun W => ints_rem hx hy h0 W⟩
  cases hor : ordP op (cmpI x y) with
  | none => exact ⟨_, _, _, _, _, _, by omega, fun W => numbers_ord_to op hadd hsub hmul hquo hrem _ _ _ _ _ 0 9 false HC (hide (fun W => by have h := ordered_any op (cmpI x y) W; rw [hor] at h; exact h)) W, fun W => ints_odd hx hy op hadd hsub hmul hquo hrem hor W⟩
  | some t => exact ⟨_, _, _, _, _, _, by omega, fun W => numbers_ord_to op hadd hsub hmul hquo hrem _ _ _ _ _ 2 0 t HC (hide (fun W => by have h := ordered_any op (cmpI x y) W; rw [hor] at h; exact h)) W, fun W => ints_ord hx hy op t hor W⟩

theorem binary_both (op : ByteArray) (ka kb : Int) {z z' : Int} (hz : Fits z) (hz' : Fits z') (x y : Bool) (s s' : ByteArray) (hs : (s.size : Int) ≤ 1024) (hs' : (s'.size : Int) ≤ 1024) :
    Both 11 12 #[.string op, kon ka (hiW z) (loW z) x s, kon kb (hiW z') (loW z') y s'] := by
  by_cases hk : ka = kb
  · subst hk
    by_cases h1 : ka = 1
    · subst h1
      obtain ⟨k, p, q, b, t, er, he, hp, hr⟩ := num_both op hz hz'
      exact ⟨k, p, q, b, t, er, he, fun W => binary_num_to op x y _ _ _ _ k p q er s s' b t (hide hp) W, fun W => rbinary_num x y _ _ _ _ s s' op k p q er b t (hide hr) W⟩
    by_cases h2 : ka = 2
    · subst h2
      by_cases hand : op = ⟨#[38, 38]⟩
      · subst hand
        exact ⟨_, _, _, _, _, _, by omega, fun W => binary_bool_to _ x y _ _ _ _ _ _ _ _ s s' _ _ (hide (fun W => truths_and x y W)) W, fun W => rbinary_and x y _ _ _ _ s s' W⟩
      by_cases hor : op = ⟨#[124, 124]⟩
      · subst hor
        exact ⟨_, _, _, _, _, _, by omega, fun W => binary_bool_to _ x y _ _ _ _ _ _ _ _ s s' _ _ (hide (fun W => truths_or x y W)) W, fun W => rbinary_or x y _ _ _ _ s s' W⟩
      by_cases heq : op = ⟨#[61, 61]⟩
      · subst heq
        exact ⟨_, _, _, _, _, _, by omega, fun W => binary_bool_to _ x y _ _ _ _ _ _ _ _ s s' _ _ (hide (fun W => truths_eq x y W)) W, fun W => rbinary_eq x y _ _ _ _ s s' W⟩
      by_cases hne : op = ⟨#[33, 61]⟩
      · subst hne
        exact ⟨_, _, _, _, _, _, by omega, fun W => binary_bool_to _ x y _ _ _ _ _ _ _ _ s s' _ _ (hide (fun W => truths_ne x y W)) W, fun W => rbinary_ne x y _ _ _ _ s s' W⟩
      exact ⟨_, _, _, _, _, _, by omega, fun W => binary_bool_to op x y _ _ _ _ _ _ _ _ s s' _ _ (hide (fun W => truths_odd op hand hor heq hne x y W)) W, fun W => rbinary_bool_odd x y _ _ _ _ s s' op hand hor heq hne W⟩
    by_cases h3 : ka = 3
    · subst h3
      by_cases hadd : op = ⟨#[43]⟩
      · subst hadd
        exact ⟨_, _, _, _, _, _, by omega, fun W => binary_text_to _ x y _ _ _ _ _ _ _ _ s s' _ _ (hide (fun W => texts_plus s s' hs hs' W)) W, fun W => rbinary_text_add x y _ _ _ _ s s' hs hs' W⟩
      cases hor : ordP op (cmpS s s') with
      | none => exact ⟨_, _, _, _, _, _, by omega, fun W => binary_text_to op x y _ _ _ _ 0 0 0 9 s s' false ⟨#[]⟩ (hide (fun W => texts_ord_to op hadd s s' _ 0 9 false (hide (fun W => compare_str s s' W)) (hide (fun W => by have h := ordered_any op (cmpS s s') W; rw [hor] at h; exact h)) W)) W, fun W => rbinary_text_odd x y _ _ _ _ s s' op hs hs' hadd hor W⟩
      | some t => exact ⟨_, _, _, _, _, _, by omega, fun W => binary_text_to op x y _ _ _ _ 2 0 0 0 s s' t ⟨#[]⟩ (hide (fun W => texts_ord_to op hadd s s' _ 2 0 t (hide (fun W => compare_str s s' W)) (hide (fun W => by have h := ordered_any op (cmpS s s') W; rw [hor] at h; exact h)) W)) W, fun W => rbinary_text_ord x y _ _ _ _ s s' op t hs hs' hor W⟩
    exact ⟨_, _, _, _, _, _, by omega, fun W => binary_odd op x y _ _ _ _ ka s s' h1 h2 h3 W, fun W => rbinary_odd x y _ _ _ _ s s' op ka h1 h2 h3 W⟩
  · exact ⟨_, _, _, _, _, _, by omega, fun W => binary_apart op x y _ _ _ _ ka kb s s' hk W, fun W => rbinary_apart x y _ _ _ _ s s' op ka kb hk W⟩
end Go.Proofs.YtgleldpdelhhhaaDoor

namespace Go.Proofs.YtgleldpdelhhhaaDoor
open Go.RowKit Go.WideShapes Go.ChangeShapes
set_option linter.unusedVariables false
set_option maxRecDepth 100000

theorem ansW_form8 (x : Int) : ∃ p q er, ansW x = .tuple #[wv p q, .int .i64 er] ∧ ((er = 0 ∧ Fits x ∧ p = hiW x ∧ q = loW x) ∨ (er = 10 ∧ p = 0 ∧ q = 0)) := by
  unfold ansW
  split
  · rename_i h
    exact ⟨_, _, _, rfl, .inl ⟨rfl, h, rfl, rfl⟩⟩
  · exact ⟨_, _, _, rfl, .inr ⟨rfl, rfl, rfl⟩⟩
/-- What is a number's text, or none: what the program and the reference answer of a text. -/
def TextIs8 (s : ByteArray) : Prop :=
  (Hid (∀ W, Calls Tryd.prog 37 #[.string s] W fun e w' => e = .returned (.tuple #[wv 0 0, .int .i64 17]) ∧ Below W.heap.size W w') ∧ Hid (∀ W, Calls Tryd.prog 15 #[.string s] W (ParseBad W))) ∨
  (∃ (v : Nat) (p q er : Int), ansW (v : Int) = .tuple #[wv p q, .int .i64 er] ∧ ((er = 0 ∧ Fits (v : Int) ∧ p = hiW (v : Int) ∧ q = loW (v : Int)) ∨ (er = 10 ∧ p = 0 ∧ q = 0)) ∧ (dgs v).length ≤ 1024 ∧ Hid (∀ W, Calls Tryd.prog 37 #[.string s] W fun e w' => e = .returned (.tuple #[wv p q, .int .i64 er]) ∧ Below W.heap.size W w') ∧ Hid (∀ W, Calls Tryd.prog 15 #[.string s] W (ParseGood W v)))
theorem parseN_ans8 (v : Nat) : parseN (v : Int) = ansW (v : Int) := by
  unfold parseN ansW
  by_cases h : (v : Int) < 170141183460469231731687303715884105728
  · rw [if_pos h, if_pos (by unfold Fits; omega)]
  · rw [if_neg h, if_neg (by unfold Fits; omega)]
theorem text_is8 (s : ByteArray) (hs : s.size ≤ 1024) : TextIs8 s := by
  by_cases h1 : 0 < s.size
  · by_cases h2 : 1 < s.size ∧ (s[0]'h1).toNat = 48
    · exact .inl ⟨hide (fun W => parse_zero s h2.1 h2.2 W), hide (fun W => rparse_zero s h2.1 h2.2 W)⟩
    · have h2' : 1 < s.size → ¬ (s[0]'h1).toNat = 48 := fun a b => h2 ⟨a, b⟩
      by_cases h3 : ∀ k, DigC s k
      · obtain ⟨p, q, er, hp, hpc⟩ := ansW_form8 (valL s.data.toList : Nat)
        have hv : (dgs (valL s.data.toList)).length ≤ 1024 := by
          have h4 := dval_lt (digD_dok h3)
          rw [digD_val, digD_len] at h4
          exact Nat.le_trans (dgs_len _ _ h4) hs
        refine .inr ⟨valL s.data.toList, p, q, er, hp, hpc, hv, hide (fun W => ?_), hide (fun W => ?_)⟩
        · have h := parse_good s (by unfold maxLen; omega) h1 h2' (fun k hk => h3 k hk) W
          rw [parseN_ans8, hp] at h
          exact h
        · refine (rparse_loop s (by omega) h1 h2' W).mono ?_
          rintro e w' (⟨_, h⟩ | ⟨h, _⟩)
          · exact h
          · exact absurd h3 (fun h5 => h.elim fun k hk => hk (h5 k))
      · have h4 : ∃ k, ¬ DigC s k := Classical.not_forall.1 h3
        have h5 : Lib.trimS s.data.toList tenS.data.toList ≠ [] := by
          obtain ⟨k, hk⟩ := h4
          unfold DigC at hk
          obtain ⟨hks, hk⟩ := Classical.not_forall.1 hk
          have hl : k < s.data.toList.length := by simpa using hks
          refine trimS_ne (x := s.data.toList[k]) (List.getElem_mem hl) ?_
          rw [ten_has]
          have e : s.data.toList[k] = s[k]'hks := by simp; rfl
          rw [e]
          unfold digB
          rw [Bool.and_eq_false_iff, decide_eq_false_iff_not, decide_eq_false_iff_not]
          omega
        refine .inl ⟨hide (fun W => parse_bad s (by unfold maxLen; omega) h1 h5 W), hide (fun W => ?_)⟩
        refine (rparse_loop s (by omega) h1 h2' W).mono ?_
        rintro e w' (⟨h, _⟩ | ⟨_, h⟩)
        · exact absurd h h3
        · exact h
  · have e : s = ⟨#[]⟩ := by
      apply ByteArray.ext
      apply Array.eq_empty_of_size_eq_zero
      have h2 : s.size = s.data.size := rfl
      omega
    subst e
    exact .inl ⟨hide (fun W => parse_empty W), hide (fun W => rparse_empty W)⟩

theorem checked_17 (w : World) : Calls Tryd.prog 20 #[wv 0 0, .int .i64 17] w fun e w' => e = .returned (.tuple #[kon 0 0 0 false ⟨#[]⟩, .int .i64 17]) ∧ Below w.heap.size w w' := by
  go_enter Tryd.func20, Tryd.ntmps20
  go_wp2_with fail
  exact ret_kt (v := .int .i64 17) rfl rfl rfl rfl (blk_at1 _ _ _) ⟨rfl, below2 _ _ _⟩
theorem int_to (s : ByteArray) (h l k er : Int) (HP : Hid (∀ W, Calls Tryd.prog 37 #[.string s] W fun e w' => e = .returned (.tuple #[wv h l, .int .i64 er]) ∧ Below W.heap.size W w'))
    (HC : Hid (∀ W, Calls Tryd.prog 20 #[wv h l, .int .i64 er] W fun e w' => e = .returned (.tuple #[kon k h l false ⟨#[]⟩, .int .i64 er]) ∧ Below W.heap.size W w')) (w : World) :
    Calls Tryd.prog 16 #[.string s] w fun e w' => e = .returned (.tuple #[kon k h l false ⟨#[]⟩, .int .i64 er]) ∧ Below w.heap.size w w' := by
  have HM := CB.add 26 kon0 (CB.nil w)
  go_enter Tryd.func16, Tryd.ntmps16
  go_wp2_with fail
  refine (HP.out _).mono ?_
  rintro e w1 ⟨rfl, hb1⟩
  have M1 := CB.next hb1 HM
  clear hb1
  go_wp2_with fail
  refine (HC.out _).mono ?_
  rintro e w2 ⟨rfl, hb2⟩
  have M2 := CB.next hb2 M1
  obtain ⟨d0, d1, d2, d3, d4, f0, f1, f2, f3, f4⟩ := five_cells (CB.at_ M2 (.head _))
  clear hb2
  go_wp2_with fail
  exact ret_kt (v := .int .i64 er) rfl rfl rfl rfl (set_five (CB.at_ M2 (.head _)) _ _ _ _ _) ⟨rfl, below_set5 M2.out.low (Nat.le_refl _) _ _ _ _ _⟩
end Go.Proofs.YtgleldpdelhhhaaDoor

namespace Go.Proofs.YtgleldpdelhhhaaDoor
open Go.RowKit Go.WideShapes Go.ChangeShapes
set_option linter.unusedVariables false
set_option maxRecDepth 100000

set_option maxHeartbeats 16000000 in
theorem exact_law (op txt : ByteArray) (ka kb : Int) {z z' : Int} (hz : Fits z) (hz' : Fits z') (x y : Bool) (s s' : ByteArray) (hot : (op.size : Int) + (txt.size : Int) ≤ 1024) (hs : (s.size : Int) ≤ 1024) (hs' : (s'.size : Int) ≤ 1024) (w : World) :
    Calls Tryd.prog 3 #[.string op, kon ka (hiW z) (loW z) x s, kon kb (hiW z') (loW z') y s', .string txt] w fun e w' => e = .returned (.bool true) ∧ Below w.heap.size w w' := by
  have BU := unary_both op ka hz x s
  have BB := binary_both op ka kb hz hz' x y s s' hs hs'
  have BV := value_both ka hz x s
  have BT := text_is8 txt (by omega)
  obtain ⟨p, hp⟩ : ∃ o, o = hiW z := ⟨_, rfl⟩
  obtain ⟨q, hq⟩ : ∃ o, o = loW z := ⟨_, rfl⟩
  obtain ⟨p', hp'⟩ : ∃ o, o = hiW z' := ⟨_, rfl⟩
  obtain ⟨q', hq'⟩ : ∃ o, o = loW z' := ⟨_, rfl⟩
  rw [← hp, ← hq] at BU BV
  rw [← hp, ← hq, ← hp', ← hq'] at BB
  rw [← hp, ← hq, ← hp', ← hq']
  clear hp hq hp' hq' hz hz'
  obtain ⟨k1, p1, q1, b1, t1, er1, he1, U1, U2⟩ := BU
  obtain ⟨k2, p2, q2, b2, t2, er2, he2, B1, B2⟩ := BB
  obtain ⟨k3, n3, t3, er3, he3, V1, V2⟩ := BV
  have HU1 := hide U1
  have HU2 := hide U2
  have HB1 := hide B1
  have HB2 := hide B2
  have HV1 := hide (show ∀ W, Calls Tryd.prog 13 #[kon ka p q x s] W (fun e w' => e = .returned (.tuple #[.agg #[.int .i64 k3, .int .i64 n3, .int .i64 0, .int .i64 0, .string t3], .int .i64 er3]) ∧ Below W.heap.size W w') from V1)
  have HV2 := hide (show ∀ W, Calls Tryd.prog 14 #[kon ka p q x s] W (fun e w' => e = .returned (.tuple #[.agg #[.int .i64 k3, .int .i64 n3, .int .i64 0, .int .i64 0, .string t3], .int .i64 er3]) ∧ Below W.heap.size W w') from V2)
  have HT := hide BT
  have HAW := hide awake08
  clear U1 U2 B1 B2 V1 V2 BT he1 he2 he3
  have hsz : ¬ 1024 < (op.size : Int) + (txt.size : Int) := by omega
  have hsz1 : ¬ 1024 < (s.size : Int) := by omega
  have hsz2 : ¬ 1024 < (s'.size : Int) := by omega
  have M0 := CB.add 26 (konA kb p' q' y s') (CB.add 26 (konA ka p q x s) (CB.nil w))
  simp only [World.size_alloc] at M0
  go_enter Tryd.func3, Tryd.ntmps3
  go_wp2_with fail
  refine (HAW.out _).mono ?_
  rintro e w0 ⟨rfl, hb0⟩
  have N0 := CB.next hb0 M0
  clear hb0 M0
  obtain ⟨ca0, ca1, ca2, ca3, ca4, ca5, ca6, ca7, ca8, ca9⟩ := five_cells (CB.at_ N0 (.tail _ (.head _)))
  obtain ⟨cb0, cb1, cb2, cb3, cb4, cb5, cb6, cb7, cb8, cb9⟩ := five_cells (CB.at_ N0 (.head _))
  go_wp2_with fail
  refine (HU1.out _).mono ?_
  rintro e w1 ⟨rfl, hb1⟩
  have N1 := CB.add 26 (konA k1 p1 q1 b1 t1) (CB.next hb1 N0)
  clear ca0 ca1 ca2 ca3 ca4 ca5 ca6 ca7 ca8 ca9 cb0 cb1 cb2 cb3 cb4 cb5 cb6 cb7 cb8 cb9
  clear hb1
  obtain ⟨ca0, ca1, ca2, ca3, ca4, ca5, ca6, ca7, ca8, ca9⟩ := five_cells (CB.at_ N1 (.tail _ (.tail _ (.head _))))
  obtain ⟨cb0, cb1, cb2, cb3, cb4, cb5, cb6, cb7, cb8, cb9⟩ := five_cells (CB.at_ N1 (.tail _ (.head _)))
  go_wp2_with fail
  refine (HU2.out _).mono ?_
  rintro e w2 ⟨rfl, hb2⟩
  have N2 := CB.add 26 (konA k1 p1 q1 b1 t1) (CB.next hb2 N1)
  clear ca0 ca1 ca2 ca3 ca4 ca5 ca6 ca7 ca8 ca9 cb0 cb1 cb2 cb3 cb4 cb5 cb6 cb7 cb8 cb9
  clear hb2
  obtain ⟨ca0, ca1, ca2, ca3, ca4, ca5, ca6, ca7, ca8, ca9⟩ := five_cells (CB.at_ N2 (.tail _ (.tail _ (.tail _ (.head _)))))
  obtain ⟨cb0, cb1, cb2, cb3, cb4, cb5, cb6, cb7, cb8, cb9⟩ := five_cells (CB.at_ N2 (.tail _ (.tail _ (.head _))))
  go_wp2_with fail
  refine (HB1.out _).mono ?_
  rintro e w3 ⟨rfl, hb3⟩
  have N3 := CB.add 26 (konA k2 p2 q2 b2 t2) (CB.next hb3 N2)
  clear ca0 ca1 ca2 ca3 ca4 ca5 ca6 ca7 ca8 ca9 cb0 cb1 cb2 cb3 cb4 cb5 cb6 cb7 cb8 cb9
  clear hb3
  obtain ⟨ca0, ca1, ca2, ca3, ca4, ca5, ca6, ca7, ca8, ca9⟩ := five_cells (CB.at_ N3 (.tail _ (.tail _ (.tail _ (.tail _ (.head _))))))
  obtain ⟨cb0, cb1, cb2, cb3, cb4, cb5, cb6, cb7, cb8, cb9⟩ := five_cells (CB.at_ N3 (.tail _ (.tail _ (.tail _ (.head _)))))
  go_wp2_with fail
  refine (HB2.out _).mono ?_
  rintro e w4 ⟨rfl, hb4⟩
  have N4 := CB.add 26 (konA k2 p2 q2 b2 t2) (CB.next hb4 N3)
  clear ca0 ca1 ca2 ca3 ca4 ca5 ca6 ca7 ca8 ca9 cb0 cb1 cb2 cb3 cb4 cb5 cb6 cb7 cb8 cb9
  clear hb4
  obtain ⟨ca0, ca1, ca2, ca3, ca4, ca5, ca6, ca7, ca8, ca9⟩ := five_cells (CB.at_ N4 (.tail _ (.tail _ (.tail _ (.tail _ (.tail _ (.head _)))))))
  obtain ⟨cb0, cb1, cb2, cb3, cb4, cb5, cb6, cb7, cb8, cb9⟩ := five_cells (CB.at_ N4 (.tail _ (.tail _ (.tail _ (.tail _ (.head _))))))
  go_wp2_with fail
  refine (HV1.out _).mono ?_
  rintro e w5 ⟨rfl, hb5⟩
  have N5 := CB.add 36 #[.int .i64 k3, .int .i64 n3, .int .i64 0, .int .i64 0, .string t3] (CB.next hb5 N4)
  clear ca0 ca1 ca2 ca3 ca4 ca5 ca6 ca7 ca8 ca9 cb0 cb1 cb2 cb3 cb4 cb5 cb6 cb7 cb8 cb9
  clear hb5
  obtain ⟨ca0, ca1, ca2, ca3, ca4, ca5, ca6, ca7, ca8, ca9⟩ := five_cells (CB.at_ N5 (.tail _ (.tail _ (.tail _ (.tail _ (.tail _ (.tail _ (.head _))))))))
  obtain ⟨cb0, cb1, cb2, cb3, cb4, cb5, cb6, cb7, cb8, cb9⟩ := five_cells (CB.at_ N5 (.tail _ (.tail _ (.tail _ (.tail _ (.tail _ (.head _)))))))
  go_wp2_with fail
  refine (HV2.out _).mono ?_
  rintro e w6 ⟨rfl, hb6⟩
  have N6 := CB.add 36 #[.int .i64 k3, .int .i64 n3, .int .i64 0, .int .i64 0, .string t3] (CB.next hb6 N5)
  clear ca0 ca1 ca2 ca3 ca4 ca5 ca6 ca7 ca8 ca9 cb0 cb1 cb2 cb3 cb4 cb5 cb6 cb7 cb8 cb9
  clear hb6
  obtain ⟨cu0, cu1, cu2, cu3, cu4, cu5, cu6, cu7, cu8, cu9⟩ := five_cells (CB.at_ N6 (.head _))
  obtain ⟨cv0, cv1, cv2, cv3, cv4, cv5, cv6, cv7, cv8, cv9⟩ := five_cells (CB.at_ N6 (.tail _ (.head _)))
  obtain ⟨h0, h1, h2, h3, h4, h5, h6, h7, h8, h9⟩ := five_cells (CB.at_ N6 (.tail _ (.tail _ (.head _))))
  obtain ⟨i0, i1, i2, i3, i4, i5, i6, i7, i8, i9⟩ := five_cells (CB.at_ N6 (.tail _ (.tail _ (.tail _ (.head _)))))
  obtain ⟨j0, j1, j2, j3, j4, j5, j6, j7, j8, j9⟩ := five_cells (CB.at_ N6 (.tail _ (.tail _ (.tail _ (.tail _ (.head _))))))
  obtain ⟨m0, m1, m2, m3, m4, m5, m6, m7, m8, m9⟩ := five_cells (CB.at_ N6 (.tail _ (.tail _ (.tail _ (.tail _ (.tail _ (.head _)))))))
  go_upto_region 13 with (fail)
  clear cu0 cu1 cu2 cu3 cu4 cu5 cu6 cu7 cu8 cu9 cv0 cv1 cv2 cv3 cv4 cv5 cv6 cv7 cv8 cv9 h0 h1 h2 h3 h4 h5 h6 h7 h8 h9 i0 i1 i2 i3 i4 i5 i6 i7 i8 i9 j0 j1 j2 j3 j4 j5 j6 j7 j8 j9 m0 m1 m2 m3 m4 m5 m6 m7 m8 m9
  rcases HT.out with ⟨HP, HR⟩ | ⟨v, vp, vq, ve, hav, hvc, hvl, HP, HR⟩
  · have HI := hide (fun W => int_to txt 0 0 0 17 HP (hide (fun W => checked_17 W)) W)
    clear HT
    go_wp2_with fail
    refine (HR.out _).mono ?_
    rintro e w7 ⟨rfl, hb7⟩
    have N7 := CB.add 43 #[.bool false, .slice none 0 0] (CB.next hb7 N6)
    clear hb7
    go_wp2_with fail
    refine (HI.out _).mono ?_
    rintro e w8 ⟨rfl, hb8⟩
    have N8 := CB.add 26 (konA 0 0 0 false ⟨#[]⟩) (CB.next hb8 N7)
    clear hb8
    obtain ⟨a0, a1, a2, a3, a4, a5, a6, a7, a8, a9⟩ := five_cells (CB.at_ N8 (.head _))
    go_wp2_with fail
    go_ret
    exact ⟨rfl, N8.out.low⟩
  · have HAN := hide (fun (W : World) (n c : Nat) (A : Option Addr) (h : Dg W A n (dgs v)) (hc : n ≤ c) => (show Calls Tryd.prog 17 #[.agg #[.bool false, .slice A n c]] W (fun e w' => e = .returned (.tuple #[wv vp vq, .int .i64 ve]) ∧ Below W.heap.size W w') from by
      have h1 := ref_answer (w := W) (n := n) (c := c) (A := A) (v : Int) (by rw [Int.natAbs_natCast]; exact h) (by have := h.1; omega) hc
      rw [show decide ((v : Int) < 0) = false from decide_eq_false (by omega), hav] at h1
      exact h1))
    have HCK : ∃ kk, (ve = 0 ∧ kk = 1 ∨ ve = 10 ∧ kk = 0 ∧ vp = 0 ∧ vq = 0) ∧ Hid (∀ W, Calls Tryd.prog 20 #[wv vp vq, .int .i64 ve] W fun e w' => e = .returned (.tuple #[kon kk vp vq false ⟨#[]⟩, .int .i64 ve]) ∧ Below W.heap.size W w') := by
      rcases hvc with ⟨rfl, _, _, _⟩ | ⟨rfl, rfl, rfl⟩
      · exact ⟨1, .inl ⟨rfl, rfl⟩, hide (fun W => checked_ok _ _ W)⟩
      · exact ⟨0, .inr ⟨rfl, rfl, rfl, rfl⟩, hide (fun W => checked_no _ _ W)⟩
    obtain ⟨kk, hkk, HC⟩ := HCK
    have HI := hide (fun W => int_to txt vp vq kk ve HP HC W)
    clear HT hav hvc hvl HC
    go_wp2_with fail
    refine (HR.out _).mono ?_
    rintro e w7 ⟨A7, n7, c7, rfl, hd7, hc7, hb7⟩
    have N7 := CB.add 43 #[.bool false, .slice A7 n7 c7] (CB.next hb7 N6)
    have HD7 := hide (hd7.alloc (.cells #[.bool false, .slice A7 n7 c7] 43))
    clear hb7 hd7
    go_wp2_with fail
    refine (HI.out _).mono ?_
    rintro e w8 ⟨rfl, hb8⟩
    have N8 := CB.add 26 (konA kk vp vq false ⟨#[]⟩) (CB.next hb8 N7)
    have HD8 := hide ((HD7.out.below hb8).alloc (.cells (konA kk vp vq false ⟨#[]⟩) 26))
    clear hb8
    have r0 := (CB.at_ N8 (.tail _ (.head _))).cell 0
    have r1 := (CB.at_ N8 (.tail _ (.head _))).cell 1
    have r2 := (CB.at_ N8 (.tail _ (.head _))).frozen 0
    have r3 := (CB.at_ N8 (.tail _ (.head _))).frozen 1
    go_wp2_with fail
    refine (HAN.out _ _ _ _ HD8.out hc7).mono ?_
    rintro e w9 ⟨rfl, hb9⟩
    have N9 := CB.add 24 #[.int .u64 vp, .int .u64 vq] (CB.next hb9 N8)
    clear hb9 r0 r1 r2 r3
    obtain ⟨a0, a1, a2, a3, a4, a5, a6, a7, a8, a9⟩ := five_cells (CB.at_ N9 (.tail _ (.head _)))
    have r0 := (CB.at_ N9 (.head _)).cell 0
    have r1 := (CB.at_ N9 (.head _)).cell 1
    rcases hkk with ⟨rfl, rfl⟩ | ⟨rfl, rfl, rfl, rfl⟩
    · go_wp2_with fail
      go_ret
      exact ⟨rfl, N9.out.low⟩
    · go_wp2_with fail
      go_ret
      exact ⟨rfl, N9.out.low⟩
end Go.Proofs.YtgleldpdelhhhaaDoor

namespace Go.Proofs.YtgleldpdelhhhaaDoor
open Go.RowKit Go.WideShapes Go.ChangeShapes
set_option linter.unusedVariables false
set_option maxRecDepth 100000

set_option maxHeartbeats 4000000 in
theorem exact_long_ot (op txt : ByteArray) (ka kb p q p' q' : Int) (x y : Bool) (s s' : ByteArray) (ho : (op.size : Int) ≤ 2305843009213693952) (ht : (txt.size : Int) ≤ 2305843009213693952) (hsz : 1024 < (op.size : Int) + (txt.size : Int)) (w : World) :
    Calls Tryd.prog 3 #[.string op, kon ka p q x s, kon kb p' q' y s', .string txt] w fun e w' => e = .returned (.bool true) ∧ Below w.heap.size w w' := by
  have HAW := hide awake08
  have M0 := CB.add 26 (konA kb p' q' y s') (CB.add 26 (konA ka p q x s) (CB.nil w))
  simp only [World.size_alloc] at M0
  have hsz0 : 1024 < (op.size : Int) + (txt.size : Int) := hsz
  go_enter Tryd.func3, Tryd.ntmps3
  go_wp2_with fail
  refine (HAW.out _).mono ?_
  rintro e w0 ⟨rfl, hb0⟩
  have N0 := CB.next hb0 M0
  clear hb0 M0
  obtain ⟨ca0, ca1, ca2, ca3, ca4, ca5, ca6, ca7, ca8, ca9⟩ := five_cells (CB.at_ N0 (.tail _ (.head _)))
  obtain ⟨cb0, cb1, cb2, cb3, cb4, cb5, cb6, cb7, cb8, cb9⟩ := five_cells (CB.at_ N0 (.head _))
  go_wp2_with fail
  go_ret
  exact ⟨rfl, N0.out.low⟩

set_option maxHeartbeats 4000000 in
theorem exact_long_a (op txt : ByteArray) (ka kb p q p' q' : Int) (x y : Bool) (s s' : ByteArray) (ho : (op.size : Int) ≤ 2305843009213693952) (ht : (txt.size : Int) ≤ 2305843009213693952) (hot : (op.size : Int) + (txt.size : Int) ≤ 1024) (hsz1 : 1024 < (s.size : Int)) (w : World) :
    Calls Tryd.prog 3 #[.string op, kon ka p q x s, kon kb p' q' y s', .string txt] w fun e w' => e = .returned (.bool true) ∧ Below w.heap.size w w' := by
  have HAW := hide awake08
  have M0 := CB.add 26 (konA kb p' q' y s') (CB.add 26 (konA ka p q x s) (CB.nil w))
  simp only [World.size_alloc] at M0
  have hsz : ¬ 1024 < (op.size : Int) + (txt.size : Int) := by omega
  go_enter Tryd.func3, Tryd.ntmps3
  go_wp2_with fail
  refine (HAW.out _).mono ?_
  rintro e w0 ⟨rfl, hb0⟩
  have N0 := CB.next hb0 M0
  clear hb0 M0
  obtain ⟨ca0, ca1, ca2, ca3, ca4, ca5, ca6, ca7, ca8, ca9⟩ := five_cells (CB.at_ N0 (.tail _ (.head _)))
  obtain ⟨cb0, cb1, cb2, cb3, cb4, cb5, cb6, cb7, cb8, cb9⟩ := five_cells (CB.at_ N0 (.head _))
  go_wp2_with fail
  go_ret
  exact ⟨rfl, N0.out.low⟩

set_option maxHeartbeats 4000000 in
theorem exact_long_b (op txt : ByteArray) (ka kb p q p' q' : Int) (x y : Bool) (s s' : ByteArray) (ho : (op.size : Int) ≤ 2305843009213693952) (ht : (txt.size : Int) ≤ 2305843009213693952) (hot : (op.size : Int) + (txt.size : Int) ≤ 1024) (hsz1 : ¬ 1024 < (s.size : Int)) (hsz2 : 1024 < (s'.size : Int)) (w : World) :
    Calls Tryd.prog 3 #[.string op, kon ka p q x s, kon kb p' q' y s', .string txt] w fun e w' => e = .returned (.bool true) ∧ Below w.heap.size w w' := by
  have HAW := hide awake08
  have M0 := CB.add 26 (konA kb p' q' y s') (CB.add 26 (konA ka p q x s) (CB.nil w))
  simp only [World.size_alloc] at M0
  have hsz : ¬ 1024 < (op.size : Int) + (txt.size : Int) := by omega
  go_enter Tryd.func3, Tryd.ntmps3
  go_wp2_with fail
  refine (HAW.out _).mono ?_
  rintro e w0 ⟨rfl, hb0⟩
  have N0 := CB.next hb0 M0
  clear hb0 M0
  obtain ⟨ca0, ca1, ca2, ca3, ca4, ca5, ca6, ca7, ca8, ca9⟩ := five_cells (CB.at_ N0 (.tail _ (.head _)))
  obtain ⟨cb0, cb1, cb2, cb3, cb4, cb5, cb6, cb7, cb8, cb9⟩ := five_cells (CB.at_ N0 (.head _))
  go_wp2_with fail
  go_ret
  exact ⟨rfl, N0.out.low⟩
end Go.Proofs.YtgleldpdelhhhaaDoor
