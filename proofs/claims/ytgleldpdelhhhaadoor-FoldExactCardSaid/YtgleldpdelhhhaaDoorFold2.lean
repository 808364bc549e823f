/- Package fold: checked, Int, Unary, truths, numbers, Binary, Value; conditions: none but that numbers are of 64 bits. -/
import Derived.Test.YtgleldpdelhhhaaDoorFold
namespace Go.Proofs.YtgleldpdelhhhaaDoor
open Go.RowKit Go.WideShapes Go.ChangeShapes
set_option linter.unusedVariables false
set_option maxRecDepth 100000

theorem five_cells {w : World} {g : Nat} {t : TypeId} {a b c d e : Value} (h : Blk w g t #[a, b, c, d, e]) : w.cell? ⟨g, 0, none⟩ = some a ∧ w.cell? ⟨g, 1, none⟩ = some b ∧ w.cell? ⟨g, 2, none⟩ = some c ∧ w.cell? ⟨g, 3, none⟩ = some d ∧ w.cell? ⟨g, 4, none⟩ = some e ∧
    w.frozen? ⟨g, 0, none⟩ = false ∧ w.frozen? ⟨g, 1, none⟩ = false ∧ w.frozen? ⟨g, 2, none⟩ = false ∧ w.frozen? ⟨g, 3, none⟩ = false ∧ w.frozen? ⟨g, 4, none⟩ = false :=
  ⟨h.cell 0, h.cell 1, h.cell 2, h.cell 3, h.cell 4, h.frozen 0, h.frozen 1, h.frozen 2, h.frozen 3, h.frozen 4⟩
theorem set_five {w : World} {g : Nat} {t : TypeId} {a b c d e : Value} (h : Blk w g t #[a, b, c, d, e]) (x0 x1 x2 x3 x4 : Value) :
    Blk (((((w.setCell ⟨g, 0, none⟩ x0).setCell ⟨g, 1, none⟩ x1).setCell ⟨g, 2, none⟩ x2).setCell ⟨g, 3, none⟩ x3).setCell ⟨g, 4, none⟩ x4) g t #[x0, x1, x2, x3, x4] := by
  have h2 := ((((h.set_ 0 x0).set_ 1 x1).set_ 2 x2).set_ 3 x3).set_ 4 x4
  simpa using h2
theorem below_set5 {w w' : World} {B g : Nat} (h : Below B w w') (hg : B ≤ g) (x0 x1 x2 x3 x4 : Value) :
    Below B w (((((w'.setCell ⟨g, 0, none⟩ x0).setCell ⟨g, 1, none⟩ x1).setCell ⟨g, 2, none⟩ x2).setCell ⟨g, 3, none⟩ x3).setCell ⟨g, 4, none⟩ x4) :=
  ((((h.setCell (p := ⟨g, 0, none⟩) hg x0).setCell (p := ⟨g, 1, none⟩) hg x1).setCell (p := ⟨g, 2, none⟩) hg x2).setCell (p := ⟨g, 3, none⟩) hg x3).setCell (p := ⟨g, 4, none⟩) hg x4
abbrev kon0 : Array Value := konA 0 0 0 false ⟨#[]⟩

theorem checked_ok (h l : Int) (w : World) : Calls Tryd.prog 20 #[wv h l, .int .i64 0] w fun e w' => e = .returned (.tuple #[kon 1 h l false ⟨#[]⟩, .int .i64 0]) ∧ Below w.heap.size w w' := by
  go_enter Tryd.func20, Tryd.ntmps20
  go_wp2_with fail
  refine (number_any _ _ _).mono ?_
  rintro e w1 ⟨rfl, hb1⟩
  obtain ⟨B0, B1, hb, hz⟩ := behind2 hb1
  obtain ⟨d0, d1, d2, d3, d4, f0, f1, f2, f3, f4⟩ := five_cells B1
  have H1 := hide B1
  have HBE := hide hb
  clear hb1 B0 B1 hb hz
  go_wp2_with fail
  have hl := below_set5 HBE.out (Nat.le_succ _) (.int .i64 1) (.int .u64 h) (.int .u64 l) (.bool false) (.string ⟨#[]⟩)
  exact ret_kt (v := .int .i64 0) rfl rfl rfl rfl (set_five H1.out _ _ _ _ _) ⟨rfl, hl⟩

theorem unary_not (b : Bool) (h l : Int) (s : ByteArray) (w : World) : Calls Tryd.prog 9 #[.string ⟨#[33]⟩, kon 2 h l b s] w fun e w' => e = .returned (.tuple #[kon 2 0 0 (!b) ⟨#[]⟩, .int .i64 0]) ∧ Below w.heap.size w w' := by
  go_enter Tryd.func9, Tryd.ntmps9
  go_wp2_with fail
  refine (truth_any _ _).mono ?_
  rintro e w1 ⟨rfl, hb1⟩
  obtain ⟨B0, B1, hb, hz⟩ := behind2 hb1
  obtain ⟨d0, d1, d2, d3, d4, f0, f1, f2, f3, f4⟩ := five_cells B1
  have H1 := hide B1
  have HBE := hide hb
  clear hb1 B0 B1 hb hz
  go_wp2_with fail
  have hl := below_set5 HBE.out (Nat.le_succ _) (.int .i64 2) (.int .u64 0) (.int .u64 0) (.bool (!b)) (.string ⟨#[]⟩)
  exact ret_kt (v := .int .i64 0) rfl rfl rfl rfl (set_five H1.out _ _ _ _ _) ⟨rfl, hl⟩

theorem truths_and (x y : Bool) (w : World) : Calls Tryd.prog 29 #[.string ⟨#[38, 38]⟩, .bool x, .bool y] w fun e w' => e = .returned (.tuple #[kon 2 0 0 (x && y) ⟨#[]⟩, .int .i64 0]) ∧ Below w.heap.size w w' := by
  have HM := CB.add 26 kon0 (CB.nil w)
  have HT := hide (fun b W => truth_any b W)
  cases x <;> cases y
  all_goals
    go_enter Tryd.func29, Tryd.ntmps29
    go_wp2_with fail
    refine (HT.out _ _).mono ?_
    rintro e w1 ⟨rfl, hb1⟩
    have M1 := CB.next hb1 HM
    obtain ⟨d0, d1, d2, d3, d4, f0, f1, f2, f3, f4⟩ := five_cells (CB.at_ M1 (.head _))
    clear hb1
    go_wp2_with fail
    exact ret_kt (v := .int .i64 0) rfl rfl rfl rfl (set_five (CB.at_ M1 (.head _)) _ _ _ _ _) ⟨rfl, below_set5 M1.out.low (Nat.le_refl _) _ _ _ _ _⟩

theorem truths_or (x y : Bool) (w : World) : Calls Tryd.prog 29 #[.string ⟨#[124, 124]⟩, .bool x, .bool y] w fun e w' => e = .returned (.tuple #[kon 2 0 0 (x || y) ⟨#[]⟩, .int .i64 0]) ∧ Below w.heap.size w w' := by
  have HM := CB.add 26 kon0 (CB.nil w)
  have HT := hide (fun b W => truth_any b W)
  cases x <;> cases y
  all_goals
    go_enter Tryd.func29, Tryd.ntmps29
    go_wp2_with fail
    refine (HT.out _ _).mono ?_
    rintro e w1 ⟨rfl, hb1⟩
    have M1 := CB.next hb1 HM
    obtain ⟨d0, d1, d2, d3, d4, f0, f1, f2, f3, f4⟩ := five_cells (CB.at_ M1 (.head _))
    clear hb1
    go_wp2_with fail
    exact ret_kt (v := .int .i64 0) rfl rfl rfl rfl (set_five (CB.at_ M1 (.head _)) _ _ _ _ _) ⟨rfl, below_set5 M1.out.low (Nat.le_refl _) _ _ _ _ _⟩

theorem truths_eq (x y : Bool) (w : World) : Calls Tryd.prog 29 #[.string ⟨#[61, 61]⟩, .bool x, .bool y] w fun e w' => e = .returned (.tuple #[kon 2 0 0 (x == y) ⟨#[]⟩, .int .i64 0]) ∧ Below w.heap.size w w' := by
  have HM := CB.add 26 kon0 (CB.nil w)
  have HT := hide (fun b W => truth_any b W)
  cases x <;> cases y
  all_goals
    go_enter Tryd.func29, Tryd.ntmps29
    go_wp2_with fail
    refine (HT.out _ _).mono ?_
    rintro e w1 ⟨rfl, hb1⟩
    have M1 := CB.next hb1 HM
    obtain ⟨d0, d1, d2, d3, d4, f0, f1, f2, f3, f4⟩ := five_cells (CB.at_ M1 (.head _))
    clear hb1
    go_wp2_with fail
    exact ret_kt (v := .int .i64 0) rfl rfl rfl rfl (set_five (CB.at_ M1 (.head _)) _ _ _ _ _) ⟨rfl, below_set5 M1.out.low (Nat.le_refl _) _ _ _ _ _⟩

theorem truths_ne (x y : Bool) (w : World) : Calls Tryd.prog 29 #[.string ⟨#[33, 61]⟩, .bool x, .bool y] w fun e w' => e = .returned (.tuple #[kon 2 0 0 (x != y) ⟨#[]⟩, .int .i64 0]) ∧ Below w.heap.size w w' := by
  have HM := CB.add 26 kon0 (CB.nil w)
  have HT := hide (fun b W => truth_any b W)
  cases x <;> cases y
  all_goals
    go_enter Tryd.func29, Tryd.ntmps29
    go_wp2_with fail
    refine (HT.out _ _).mono ?_
    rintro e w1 ⟨rfl, hb1⟩
    have M1 := CB.next hb1 HM
    obtain ⟨d0, d1, d2, d3, d4, f0, f1, f2, f3, f4⟩ := five_cells (CB.at_ M1 (.head _))
    clear hb1
    go_wp2_with fail
    exact ret_kt (v := .int .i64 0) rfl rfl rfl rfl (set_five (CB.at_ M1 (.head _)) _ _ _ _ _) ⟨rfl, below_set5 M1.out.low (Nat.le_refl _) _ _ _ _ _⟩

theorem int_any (s : ByteArray) (h l : Int) (HP : Hid (∀ W, Calls Tryd.prog 37 #[.string s] W fun e w' => e = .returned (.tuple #[wv h l, .int .i64 0]) ∧ Below W.heap.size W w')) (w : World) :
    Calls Tryd.prog 16 #[.string s] w fun e w' => e = .returned (.tuple #[kon 1 h l false ⟨#[]⟩, .int .i64 0]) ∧ Below w.heap.size w w' := by
  have HM := CB.add 26 kon0 (CB.nil w)
  go_enter Tryd.func16, Tryd.ntmps16
  go_wp2_with fail
  refine (HP.out _).mono ?_
  rintro e w1 ⟨rfl, hb1⟩
  have M1 := CB.next hb1 HM
  clear hb1
  go_wp2_with fail
  refine (checked_ok _ _ _).mono ?_
  rintro e w2 ⟨rfl, hb2⟩
  have M2 := CB.next hb2 M1
  obtain ⟨d0, d1, d2, d3, d4, f0, f1, f2, f3, f4⟩ := five_cells (CB.at_ M2 (.head _))
  clear hb2
  go_wp2_with fail
  exact ret_kt (v := .int .i64 0) rfl rfl rfl rfl (set_five (CB.at_ M2 (.head _)) _ _ _ _ _) ⟨rfl, below_set5 M2.out.low (Nat.le_refl _) _ _ _ _ _⟩

theorem cb3 (w : World) (t0 t1 t2 : TypeId) (c0 c1 c2 : Array Value) : Hid (CB w [(w.heap.size + 1 + 1, t2, c2), (w.heap.size + 1, t1, c1), (w.heap.size, t0, c0)] (((w.alloc (.cells c0 t0)).alloc (.cells c1 t1)).alloc (.cells c2 t2))) := by
  have h := CB.add t2 c2 (CB.add t1 c1 (CB.add t0 c0 (CB.nil w)))
  rw [size_alloc1, size_alloc1] at h
  exact h

theorem numbers_add (a b c d h l : Int) (HA : Hid (∀ W, Calls Tryd.prog 44 #[wv a b, wv c d] W fun e w' => e = .returned (.tuple #[wv h l, .int .i64 0]) ∧ Below W.heap.size W w')) (w : World) :
    Calls Tryd.prog 28 #[.string ⟨#[43]⟩, wv a b, wv c d] w fun e w' => e = .returned (.tuple #[kon 1 h l false ⟨#[]⟩, .int .i64 0]) ∧ Below w.heap.size w w' := by
  have HM := cb3 w 24 24 26 #[.int .u64 a, .int .u64 b] #[.int .u64 c, .int .u64 d] kon0
  go_enter Tryd.func28, Tryd.ntmps28
  go_wp2_with fail
  refine (HA.out _).mono ?_
  rintro e w1 ⟨rfl, hb1⟩
  have M1 := CB.next hb1 HM
  clear hb1
  go_wp2_with fail
  refine (checked_ok _ _ _).mono ?_
  rintro e w2 ⟨rfl, hb2⟩
  have M2 := CB.next hb2 M1
  obtain ⟨d0, d1, d2, d3, d4, f0, f1, f2, f3, f4⟩ := five_cells (CB.at_ M2 (.head _))
  clear hb2
  go_wp2_with fail
  exact ret_kt (v := .int .i64 0) rfl rfl rfl rfl (set_five (CB.at_ M2 (.head _)) _ _ _ _ _) ⟨rfl, below_set5 M2.out.low (by omega) _ _ _ _ _⟩

theorem binary_bool (op : ByteArray) (x y r : Bool) (h l h' l' : Int) (s s' : ByteArray) (HT : Hid (∀ W, Calls Tryd.prog 29 #[.string op, .bool x, .bool y] W fun e w' => e = .returned (.tuple #[kon 2 0 0 r ⟨#[]⟩, .int .i64 0]) ∧ Below W.heap.size W w')) (w : World) :
    Calls Tryd.prog 11 #[.string op, kon 2 h l x s, kon 2 h' l' y s'] w fun e w' => e = .returned (.tuple #[kon 2 0 0 r ⟨#[]⟩, .int .i64 0]) ∧ Below w.heap.size w w' := by
  have HM := cb3 w 26 26 26 (konA 2 h l x s) (konA 2 h' l' y s') kon0
  go_enter Tryd.func11, Tryd.ntmps11
  go_wp2_with fail
  refine (HT.out _).mono ?_
  rintro e w1 ⟨rfl, hb1⟩
  have M1 := CB.next hb1 HM
  obtain ⟨d0, d1, d2, d3, d4, f0, f1, f2, f3, f4⟩ := five_cells (CB.at_ M1 (.head _))
  clear hb1
  go_wp2_with fail
  exact ret_kt (v := .int .i64 0) rfl rfl rfl rfl (set_five (CB.at_ M1 (.head _)) _ _ _ _ _) ⟨rfl, below_set5 M1.out.low (by omega) _ _ _ _ _⟩
theorem binary_int (op : ByteArray) (x y : Bool) (h l h' l' p q : Int) (s s' : ByteArray) (HN : Hid (∀ W, Calls Tryd.prog 28 #[.string op, wv h l, wv h' l'] W fun e w' => e = .returned (.tuple #[kon 1 p q false ⟨#[]⟩, .int .i64 0]) ∧ Below W.heap.size W w')) (w : World) :
    Calls Tryd.prog 11 #[.string op, kon 1 h l x s, kon 1 h' l' y s'] w fun e w' => e = .returned (.tuple #[kon 1 p q false ⟨#[]⟩, .int .i64 0]) ∧ Below w.heap.size w w' := by
  have HM := cb3 w 26 26 26 (konA 1 h l x s) (konA 1 h' l' y s') kon0
  go_enter Tryd.func11, Tryd.ntmps11
  go_wp2_with fail
  refine (HN.out _).mono ?_
  rintro e w1 ⟨rfl, hb1⟩
  have M1 := CB.next hb1 HM
  obtain ⟨d0, d1, d2, d3, d4, f0, f1, f2, f3, f4⟩ := five_cells (CB.at_ M1 (.head _))
  clear hb1
  go_wp2_with fail
  exact ret_kt (v := .int .i64 0) rfl rfl rfl rfl (set_five (CB.at_ M1 (.head _)) _ _ _ _ _) ⟨rfl, below_set5 M1.out.low (by omega) _ _ _ _ _⟩
theorem binary_mixed (op : ByteArray) (x y : Bool) (h l h' l' : Int) (s s' : ByteArray) (w : World) :
    Calls Tryd.prog 11 #[.string op, kon 1 h l x s, kon 2 h' l' y s'] w fun e w' => e = .returned (.tuple #[kon 0 0 0 false ⟨#[]⟩, .int .i64 9]) ∧ Below w.heap.size w w' := by
  have HM := cb3 w 26 26 26 (konA 1 h l x s) (konA 2 h' l' y s') kon0
  go_enter Tryd.func11, Tryd.ntmps11
  go_wp2_with fail
  refine (none_any _ _).mono ?_
  rintro e w1 ⟨rfl, hb1⟩
  have M1 := CB.next hb1 HM
  obtain ⟨d0, d1, d2, d3, d4, f0, f1, f2, f3, f4⟩ := five_cells (CB.at_ M1 (.head _))
  clear hb1
  go_wp2_with fail
  exact ret_kt (v := .int .i64 9) rfl rfl rfl rfl (set_five (CB.at_ M1 (.head _)) _ _ _ _ _) ⟨rfl, below_set5 M1.out.low (by omega) _ _ _ _ _⟩

theorem wint_5 (w : World) : Calls Tryd.prog 34 #[wv 0 5] w fun e w' => e = .returned (.tuple #[.int .i64 5, .int .i64 0]) ∧ Below w.heap.size w w' := by
  have HM := CB.drew (CB.add 24 #[.int .u64 0, .int .u64 5] (CB.nil w))
  have hS := And.intro ((CB.at_ HM (.head _)).cell 0) ((CB.at_ HM (.head _)).cell 1)
  simp only [List.getElem?_toArray, List.getElem?_cons_succ, List.getElem?_cons_zero] at hS
  have HO := hide (fun W => of_any 5 (by decide) W)
  rw [show hiW 5 = 0 from rfl, show loW 5 = 5 from rfl] at HO
  go_enter Tryd.func34, Tryd.ntmps34
  go_wp2_with fail
  refine wp_region_tail 99 (fun w' => w'.cell? ⟨w.heap.size, 0, none⟩ = some (.int .u64 0) ∧ w'.cell? ⟨w.heap.size, 1, none⟩ = some (.int .u64 5)) (by kernel_rfl) hS (fun hHeld => ?_)
  clear hHeld
  try simp only [Act.put, List.setIfInBounds_toArray, List.set_cons_zero, List.set_cons_succ]
  refine' wpTail_take (i := 0) (oi := _) ?hiu1001 ?hsu1001 ?hfu1001 ?hru1001 ?hzu1001 ?hQu1001 (v := _) (Or.inl ⟨?hwu1001, ?hyu1001⟩) (hS) ?_
  case hiu1001 => (simp only [List.getElem?_toArray, List.getElem?_cons_zero]; exact rfl)
  case hsu1001 => kernel_rfl
  case hfu1001 => kernel_rfl
  case hru1001 => kernel_rfl
  case hzu1001 => kernel_rfl
  case hQu1001 => exact fun _ _ _ h => h
  case hwu1001 => rfl
  case hyu1001 => (intro w hSw; (try dsimp only at hSw); go_simp; (try with_reducible rfl))
  try simp only [Act.put, List.setIfInBounds_toArray, List.set_cons_zero, List.set_cons_succ]
  refine' wpTail_take (i := 2) (oi := _) ?hiu1002 ?hsu1002 ?hfu1002 ?hru1002 ?hzu1002 ?hQu1002 (v := _) (Or.inl ⟨?hwu1002, ?hyu1002⟩) (hS) ?_
  case hiu1002 => (simp only [List.getElem?_toArray, List.getElem?_cons_succ, List.getElem?_cons_zero]; exact rfl)
  case hsu1002 => kernel_rfl
  case hfu1002 => kernel_rfl
  case hru1002 => kernel_rfl
  case hzu1002 => kernel_rfl
  case hQu1002 => exact fun _ _ _ h => h
  case hwu1002 => rfl
  case hyu1002 => (intro w hSw; (try dsimp only at hSw); go_simp; (try with_reducible rfl))
  try simp only [Act.put, List.setIfInBounds_toArray, List.set_cons_zero, List.set_cons_succ]
  refine' wpTail_one (i := 1) (o := _) (by kernel_rfl) ?hou1003 ?hwu1003 (fun K hK => ?_)
  case hou1003 => (simp only [List.getElem?_toArray, List.getElem?_cons_succ, List.getElem?_cons_zero]; exact rfl)
  case hwu1003 => rfl
  go_simp
  (with_reducible refine (HO.out _).mono ?_)
  rintro e v1 ⟨rfl, hb1⟩
  have M1 := CB.next hb1 HM
  refine hK.out _ _ (fun _ => ⟨(CB.at_ M1 (.head _)).cell 0, (CB.at_ M1 (.head _)).cell 1⟩) ?_
  clear hK K hb1
  try simp only [Act.put, List.setIfInBounds_toArray, List.set_cons_zero, List.set_cons_succ]
  refine' wpTail_take (i := 3) (oi := _) ?hiu1004 ?hsu1004 ?hfu1004 ?hru1004 ?hzu1004 ?hQu1004 (v := _) (Or.inl ⟨?hwu1004, ?hyu1004⟩) (⟨(CB.at_ M1 (.head _)).cell 0, (CB.at_ M1 (.head _)).cell 1⟩) ?_
  case hiu1004 => (simp only [List.getElem?_toArray, List.getElem?_cons_succ, List.getElem?_cons_zero]; exact rfl)
  case hsu1004 => kernel_rfl
  case hfu1004 => kernel_rfl
  case hru1004 => kernel_rfl
  case hzu1004 => kernel_rfl
  case hQu1004 => exact fun _ _ _ h => h
  case hwu1004 => rfl
  case hyu1004 => (intro w hSw; (try dsimp only at hSw); go_simp; (try with_reducible rfl))
  try simp only [Act.put, List.setIfInBounds_toArray, List.set_cons_zero, List.set_cons_succ]
  refine wpTail_done (by kernel_rfl) ?_ _
  go_wp2_with fail
  go_ret2
  exact ⟨rfl, M1.out.low⟩
theorem val_size : (Tryd.prog.info? 36).map (·.size) = some 5 := by kernel_rfl
theorem val_und : ((Tryd.prog.underlying 36).map fun d => (match d with | .struct _ | .array _ _ => true | _ => false)) = some true := by kernel_rfl
theorem ret_vt {fn : Func} {t p : Tmp} (hf : fn.results = #[.cell t 36, .tmp p]) {R : Ending → World → Prop} {a : Act} {wf : World} {g : Nat} {c0 c1 c2 c3 c4 v : Value} (hp : a.tmps.getD t undef = .pointer (some ⟨g, 0, none⟩)) (hs : a.tmps.getD p undef = v) (hd : a.defers = [])
    (hb : Blk wf g 36 #[c0, c1, c2, c3, c4]) (hr : R (.returned (.tuple #[.agg #[c0, c1, c2, c3, c4], v])) wf) : bodyPost Tryd.prog fn R .ret a wf := by
  have hu := val_und
  cases hq : Tryd.prog.underlying 36 with
  | none => rw [hq] at hu; cases hu
  | some d =>
    rw [hq] at hu
    have h := results_cell_tmp hf a.tmps wf _ _ _ _ d hp hb hq (by cases d <;> simp_all) val_size
    rw [hs] at h
    exact bodyPost_ret h hd hr
theorem value_5 (w : World) : Calls Tryd.prog 13 #[kon 1 0 5 false ⟨#[]⟩] w fun e w' => e = .returned (.tuple #[.agg #[.int .i64 1, .int .i64 5, .int .i64 0, .int .i64 0, .string ⟨#[]⟩], .int .i64 0]) ∧ Below w.heap.size w w' := by
  go_enter Tryd.func13, Tryd.ntmps13
  go_wp2_with fail
  refine (wint_5 _).mono ?_
  rintro e w1 ⟨rfl, hb1⟩
  obtain ⟨B0, B1, hb, hz⟩ := behind2 hb1
  obtain ⟨d0, d1, d2, d3, d4, f0, f1, f2, f3, f4⟩ := five_cells B1
  have H1 := hide B1
  have HBE := hide hb
  clear hb1 B0 B1 hb hz
  go_wp2_with fail
  have hl := below_set5 HBE.out (Nat.le_succ _) (.int .i64 1) (.int .i64 5) (.int .i64 0) (.int .i64 0) (.string ⟨#[]⟩)
  exact ret_vt (v := .int .i64 0) rfl rfl rfl rfl (set_five H1.out _ _ _ _ _) ⟨rfl, hl⟩
end Go.Proofs.YtgleldpdelhhhaaDoor
