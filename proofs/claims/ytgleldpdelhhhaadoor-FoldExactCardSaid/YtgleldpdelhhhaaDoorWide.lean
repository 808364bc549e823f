/- What the small funcs of package wide do; conditions: none but that numbers are of 64 bits. -/
import Derived.Test.YtgleldpdelhhhaaDoorRows
import Derived.Test.YtgleldpdelhhhaaDoorWords
import Derived.Test.YtgleldpdelhhhaaDoorShelf
import Derived.Test.YtgleldpdelhhhaaDoorWMath
import Derived.StillTactics
import Derived.Deep.RegionHeld3
import Derived.BigQuiet
import Derived.WalkSmall
import Derived.Lib.QuietBelow
namespace Go.Proofs.YtgleldpdelhhhaaDoor
open Go.RowKit Go.WideShapes Go.ChangeShapes Go.Shelf
set_option linter.unusedVariables false
set_option maxRecDepth 100000

/-! ### calls of math/bits -/
theorem add64 (x y c : Int) (hx : 0 ≤ x) (hy : 0 ≤ y) (hc0 : 0 ≤ c) (hc : c ≤ 1) (w : World) : (callFunc 60 #[.int .u64 x, .int .u64 y, .int .u64 c]).run Tryd.prog w =
    .ok (.value (.tuple #[.int .u64 ((x + y + c) % 18446744073709551616), .int .u64 ((x + y + c) / 18446744073709551616)])) w := by
  obtain ⟨x, rfl⟩ := Int.eq_ofNat_of_zero_le hx
  obtain ⟨y, rfl⟩ := Int.eq_ofNat_of_zero_le hy
  obtain ⟨c, rfl⟩ := Int.eq_ofNat_of_zero_le hc0
  refine (Any7.bits_Add64 Tryd.lays25 x y c (by omega) w).trans ?_
  congr 5 <;> omega
theorem sub64 (x y b : Int) (hx : 0 ≤ x) (hy : 0 ≤ y) (hy' : y < 18446744073709551616) (hb0 : 0 ≤ b) (hb : b ≤ 1) (w : World) : (callFunc 62 #[.int .u64 x, .int .u64 y, .int .u64 b]).run Tryd.prog w =
    .ok (.value (.tuple #[.int .u64 ((x - y - b) % 18446744073709551616), .int .u64 (bor x (y + b))])) w := by
  obtain ⟨x, rfl⟩ := Int.eq_ofNat_of_zero_le hx
  obtain ⟨y, rfl⟩ := Int.eq_ofNat_of_zero_le hy
  obtain ⟨b, rfl⟩ := Int.eq_ofNat_of_zero_le hb0
  have e1 : (((x + 18446744073709551616 - y - b) % 18446744073709551616 : Nat) : Int) = ((x : Int) - y - b) % 18446744073709551616 := by omega
  have e2 : ((if x < y + b then 1 else 0 : Nat) : Int) = bor (x : Int) (y + b) := by unfold bor; split <;> split <;> omega
  rw [← e1, ← e2]
  exact Any7.bits_Sub64 Tryd.lays26 x y b (by omega) w
theorem add64_0 (x y : Int) (hx : 0 ≤ x) (hy : 0 ≤ y) (w : World) : (callFunc 60 #[.int .u64 x, .int .u64 y, .int .u64 0]).run Tryd.prog w =
    .ok (.value (.tuple #[.int .u64 ((x + y) % 18446744073709551616), .int .u64 ((x + y) / 18446744073709551616)])) w := by
  simpa using add64 x y 0 hx hy (Int.le_refl 0) (by decide) w
theorem sub64_0 (x y : Int) (hx : 0 ≤ x) (hy : 0 ≤ y) (hy' : y < 18446744073709551616) (w : World) : (callFunc 62 #[.int .u64 x, .int .u64 y, .int .u64 0]).run Tryd.prog w =
    .ok (.value (.tuple #[.int .u64 ((x - y) % 18446744073709551616), .int .u64 (bor x y)])) w := by
  simpa using sub64 x y 0 hx hy hy' (Int.le_refl 0) (by decide) w
theorem mul64 (x y : Int) (hx : 0 ≤ x) (hx' : x < 18446744073709551616) (hy : 0 ≤ y) (hy' : y < 18446744073709551616) (w : World) :
    Calls Tryd.prog 79 #[.int .u64 x, .int .u64 y] w fun e w' => e = .returned (.tuple #[.int .u64 (x * y / 18446744073709551616), .int .u64 (x * y % 18446744073709551616)]) ∧ w' = w := by
  obtain ⟨x, rfl⟩ := Int.eq_ofNat_of_zero_le hx
  obtain ⟨y, rfl⟩ := Int.eq_ofNat_of_zero_le hy
  refine Calls.mono (Any.bits_Mul64 Tryd.lays264 x y (by omega) (by omega) w) ?_
  rintro e w' ⟨rfl, rfl⟩
  exact ⟨by simp, rfl⟩

/-! ### numbers -/
abbrev wv (h l : Int) : Value := .agg #[.int .u64 h, .int .u64 l]
/-- A number that fits, or the error. -/
def ansW (z : Int) : Value := if Fits z then .tuple #[wv (hiW z) (loW z), .int .i64 0] else .tuple #[wv 0 0, .int .i64 10]

/-! ### results in variables -/
theorem wide_size : (Tryd.prog.info? 24).map (·.size) = some 2 := by kernel_rfl
theorem wide_und : ((Tryd.prog.underlying 24).map fun d => (match d with | .struct _ | .array _ _ => true | _ => false)) = some true := by kernel_rfl
theorem ret_w {fn : Func} {t : Tmp} (hf : fn.results = #[.cell t 24]) {R : Ending → World → Prop} {a : Act} {wf : World} {g : Nat} {h l : Int} (hp : a.tmps.getD t undef = .pointer (some ⟨g, 0, none⟩)) (hd : a.defers = [])
    (hb : Blk wf g 24 #[.int .u64 h, .int .u64 l]) (hr : R (.returned (wv h l)) wf) : bodyPost Tryd.prog fn R .ret a wf := by
  have hu := wide_und
  cases hq : Tryd.prog.underlying 24 with
  | none => rw [hq] at hu; cases hu
  | some d =>
    rw [hq] at hu
    exact bodyPost_ret (results_cell_row hf _ _ _ _ _ _ d hp hb hq (by cases d <;> simp_all) wide_size) hd hr
theorem results_cell_tmp {P : Program} {fn : Func} {p s : Tmp} {ty : TypeId} (h : fn.results = #[.cell p ty, .tmp s]) (tmps : Array Value) (w : World) (g : Nat) (t : TypeId) (cs : Array Value) (fr : Nat × Nat) (d : TypeDesc)
    (hp : tmps.getD p undef = .pointer (some ⟨g, 0, none⟩)) (hg : w.heap[g]? = some (.cells cs t fr))
    (hu : P.underlying ty = some d) (hd : (match d with | .struct _ | .array _ _ => true | _ => false) = true) (hi : (P.info? ty).map (·.size) = some cs.size) :
    (results fn tmps).run P w = .ok (.tuple #[.agg cs, tmps.getD s undef]) w := by
  have hp' : tmps[p]?.getD undef = .pointer (some ⟨g, 0, none⟩) := by simpa using hp
  simp [results, h, hp', asAddr, run_loadVar_row w g t ty cs fr d hg hu hd hi]
theorem ret_wt {fn : Func} {t s : Tmp} (hf : fn.results = #[.cell t 24, .tmp s]) {R : Ending → World → Prop} {a : Act} {wf : World} {g : Nat} {h l : Int} {v : Value} (hp : a.tmps.getD t undef = .pointer (some ⟨g, 0, none⟩)) (hs : a.tmps.getD s undef = v) (hd : a.defers = [])
    (hb : Blk wf g 24 #[.int .u64 h, .int .u64 l]) (hr : R (.returned (.tuple #[wv h l, v])) wf) : bodyPost Tryd.prog fn R .ret a wf := by
  have hu := wide_und
  cases hq : Tryd.prog.underlying 24 with
  | none => rw [hq] at hu; cases hu
  | some d =>
    rw [hq] at hu
    have h := results_cell_tmp hf a.tmps wf _ _ _ _ d hp hb hq (by cases d <;> simp_all) wide_size
    rw [hs] at h
    exact bodyPost_ret h hd hr

theorem blk_at0 (w : World) (cs : Array Value) (o : Obj) {t : TypeId} : Blk ((w.alloc (.cells cs t)).alloc o) w.heap.size t cs := (Blk.new w t cs).alloc o
theorem blk_at1 (w : World) (o : Obj) (cs : Array Value) {t : TypeId} : Blk ((w.alloc o).alloc (.cells cs t)) (w.heap.size + 1) t cs := by
  have h := Blk.new (w.alloc o) t cs
  simpa using h
theorem below2 (w : World) (o o' : Obj) : Below w.heap.size w ((w.alloc o).alloc o') := ((Below.refl _ _).alloc (Nat.le_refl _) o).alloc (by simp) o'

theorem two_cells {w : World} {g : Nat} {t : TypeId} {a b : Value} (h : Blk w g t #[a, b]) : w.cell? ⟨g, 0, none⟩ = some a ∧ w.cell? ⟨g, 1, none⟩ = some b ∧ w.frozen? ⟨g, 0, none⟩ = false ∧ w.frozen? ⟨g, 1, none⟩ = false :=
  ⟨h.cell 0, h.cell 1, h.frozen 0, h.frozen 1⟩
theorem set_two {w : World} {g : Nat} {t : TypeId} {a b : Value} (h : Blk w g t #[a, b]) (x y : Value) : Blk ((w.setCell ⟨g, 0, none⟩ x).setCell ⟨g, 1, none⟩ y) g t #[x, y] := by
  have h2 := (h.set_ 0 x).set_ 1 y
  simpa using h2
theorem below_set2 {w w' : World} {B g : Nat} (h : Below B w w') (hg : B ≤ g) (x y : Value) : Below B w ((w'.setCell ⟨g, 0, none⟩ x).setCell ⟨g, 1, none⟩ y) :=
  (h.setCell (p := ⟨g, 0, none⟩) hg x).setCell (p := ⟨g, 1, none⟩) hg y
/-- Behind a call that two blocks of the caller's stand ahead of. -/
theorem behind2 {w w1 : World} {cs cs' : Array Value} {t t' : TypeId} (h : Below ((w.alloc (.cells cs t)).alloc (.cells cs' t')).heap.size ((w.alloc (.cells cs t)).alloc (.cells cs' t')) w1) :
    Blk w1 w.heap.size t cs ∧ Blk w1 (w.heap.size + 1) t' cs' ∧ Below w.heap.size w w1 ∧ w.heap.size + 1 < w1.heap.size :=
  ⟨(blk_at0 w cs _).below h (by simp; omega), (blk_at1 w _ cs').below h (by simp), (below2 w _ _).trans (h.mono (by simp; omega)), by have := h.size; simp at this; omega⟩

/-! ### isBelow, turned -/
theorem mask_top {h : Int} (hh : Word h) : bits .and .u64 h 9223372036854775808 = if h < 9223372036854775808 then 0 else 9223372036854775808 := by
  obtain ⟨h0, h1⟩ := hh
  obtain ⟨n, rfl⟩ := Int.eq_ofNat_of_zero_le h0
  have hb := bits_and_u64_nat n 9223372036854775808 (by omega) (by omega)
  have e : n &&& 9223372036854775808 = (n.testBit 63).toNat * 9223372036854775808 := by
    show n &&& 2 ^ 63 = (n.testBit 63).toNat * 2 ^ 63
    apply Nat.eq_of_testBit_eq
    intro i
    rw [Nat.testBit_and, Nat.testBit_two_pow]
    have h2 : ((n.testBit 63).toNat * 2 ^ 63).testBit i = (n.testBit 63 && decide (63 = i)) := by
      cases n.testBit 63
      · show (0 * 2 ^ 63).testBit i = false; rw [Nat.zero_mul, Nat.zero_testBit]
      · show (1 * 2 ^ 63).testBit i = _; rw [Nat.one_mul, Nat.testBit_two_pow]; rfl
    rw [h2]
    by_cases hi : 63 = i
    · subst hi; rfl
    · rw [decide_eq_false hi, Bool.and_false, Bool.and_false]
  rw [e] at hb
  have ht : n.testBit 63 = decide (9223372036854775808 ≤ n) := by
    rw [Nat.testBit_eq_decide_div_mod_eq]
    apply decide_eq_decide.2
    omega
  rw [ht] at hb
  refine hb.trans ?_
  by_cases hc : 9223372036854775808 ≤ n
  · rw [decide_eq_true hc, if_neg (by omega)]; rfl
  · rw [decide_eq_false hc, if_pos (by omega)]; rfl

theorem below_any (h l : Int) (hh : Word h) (w : World) :
    Calls Tryd.prog 61 #[.agg #[.int .u64 h, .int .u64 l]] w fun e w' => e = .returned (.bool (decide (9223372036854775808 ≤ h))) ∧ Below w.heap.size w w' := by
  obtain ⟨m, hm⟩ : ∃ m, bits .and .u64 h 9223372036854775808 = m := ⟨_, rfl⟩
  have hm2 := hm.symm.trans (mask_top hh)
  obtain ⟨r, hr⟩ : ∃ r, r = decide (9223372036854775808 ≤ h) := ⟨_, rfl⟩
  have hmr : (m != 0) = r := by rw [hr, hm2]; by_cases hc : h < 9223372036854775808 <;> simp [hc] <;> omega
  rw [← hr]
  clear hr hm2
  go_enter Tryd.func61, Tryd.ntmps61
  go_wp2_with fail
  go_ret
  exact ⟨rfl, (Below.refl _ _).alloc (Nat.le_refl _) _⟩


theorem turned_any (h l : Int) (hh : Word h) (hl : Word l) (w : World) :
    Calls Tryd.prog 80 #[.agg #[.int .u64 h, .int .u64 l]] w fun e w' => e = .returned (wv (hiW (-numW h l)) (loW (-numW h l))) ∧ Below w.heap.size w w' := by
  obtain ⟨x, hx⟩ : ∃ x, x = 18446744073709551615 - l := ⟨_, rfl⟩
  obtain ⟨y, hy⟩ : ∃ y, y = 18446744073709551615 - h := ⟨_, rfl⟩
  have hxw : Word x := by unfold Word at hl ⊢; omega
  have hyw : Word y := by unfold Word at hh ⊢; omega
  have x1 : bits .xor .u64 IntKind.u64.max l = x := by rw [hx]; exact xor_max hl
  have x2 : bits .xor .u64 IntKind.u64.max h = y := by rw [hy]; exact xor_max hh
  have ht := turned_words hh hl
  rw [← hx, ← hy] at ht
  obtain ⟨c, hc⟩ : ∃ c, c = (x + 1) / 18446744073709551616 := ⟨_, rfl⟩
  obtain ⟨lo, hlo⟩ : ∃ lo, lo = (x + 1) % 18446744073709551616 := ⟨_, rfl⟩
  obtain ⟨hi, hhi⟩ : ∃ hi, hi = (y + c) % 18446744073709551616 := ⟨_, rfl⟩
  have hsum : IntKind.u64.wrap (y + c) = hi := by rw [IntKind.wrap_u64]; exact hhi.symm
  have ha := fun W => add64_0 x 1 hxw.1 (by decide) W
  simp only [← hc, ← hlo] at ha
  rw [← hc, ← hlo] at ht
  rw [← hhi] at ht
  rw [← ht.1, ← ht.2]
  clear hx hy hxw hyw ht hc hlo hhi hh hl
  go_enter Tryd.func80, Tryd.ntmps80
  go_wp2_with fail
  exact ret_w rfl rfl rfl (blk_at1 _ _ _) ⟨rfl, below2 _ _ _⟩

theorem of_any (n : Int) (hn : -9223372036854775808 ≤ n ∧ n ≤ 9223372036854775807) (w : World) :
    Calls Tryd.prog 55 #[.int .i64 n] w fun e w' => e = .returned (wv (hiW n) (loW n)) ∧ Below w.heap.size w w' := by
  have hw : IntKind.u64.wrap n = loW n := by rw [IntKind.wrap_u64]; rfl
  by_cases h0 : n < 0
  · have e : hiW n = 18446744073709551615 := by unfold hiW; omega
    rw [e]
    obtain ⟨l, hl⟩ : ∃ l, l = loW n := ⟨_, rfl⟩
    rw [← hl] at hw ⊢
    clear hl e hn
    go_enter Tryd.func55, Tryd.ntmps55
    go_wp2_with fail
    exact ret_w rfl rfl rfl (blk_at0 _ _ _) ⟨rfl, below2 _ _ _⟩
  · have e : hiW n = 0 := by unfold hiW; omega
    have e2 : loW n = n := by unfold loW; omega
    rw [e, e2]
    have h1 : 0 ≤ n := by omega
    have h2 : n ≤ 9223372036854775807 := hn.2
    clear e e2 hn hw h0
    go_enter Tryd.func55, Tryd.ntmps55
    go_wp2_with fail
    exact ret_w rfl rfl rfl (blk_at0 _ _ _) ⟨rfl, below2 _ _ _⟩

/-- The number without its sign. -/
theorem size_any (h l : Int) (hh : Word h) (hl : Word l) (w : World) :
    Calls Tryd.prog 64 #[.agg #[.int .u64 h, .int .u64 l]] w fun e w' => e = .returned (wv (hiW (absW (numW h l))) (loW (absW (numW h l)))) ∧ Below w.heap.size w w' := by
  obtain ⟨r, hr⟩ : ∃ r, r = decide (9223372036854775808 ≤ h) := ⟨_, rfl⟩
  have HB := hide (fun W => below_any h l hh W)
  rw [← hr] at HB
  have HT := hide (fun W => turned_any h l hh hl W)
  cases r with
  | true =>
    have e : absW (numW h l) = -numW h l := by
      have := of_decide_eq_true hr.symm
      unfold Word at hh hl
      unfold absW numW
      split <;> split <;> omega
    rw [e]
    obtain ⟨a, ha⟩ : ∃ a, a = hiW (-numW h l) := ⟨_, rfl⟩
    obtain ⟨b, hb⟩ : ∃ b, b = loW (-numW h l) := ⟨_, rfl⟩
    rw [← ha, ← hb] at HT ⊢
    clear e ha hb hr hh hl
    go_enter Tryd.func64, Tryd.ntmps64
    go_wp2_with fail
    refine (HB.out _).mono ?_
    rintro e w1 ⟨rfl, hb1⟩
    obtain ⟨B0, B1, hb, hz⟩ := behind2 hb1
    have H1 := hide B1
    have HZ := hide hz
    have HBE := hide hb
    obtain ⟨c0, c1, _, _⟩ := two_cells B0
    clear hb1 B0 B1 hb hz
    go_wp2_with fail
    refine (HT.out _).mono ?_
    rintro e w2 ⟨rfl, hb2⟩
    have hk := H1.out.below hb2 HZ.out
    have HK := hide hk
    obtain ⟨d0, d1, f0, f1⟩ := two_cells hk
    have HB2 := hide (HBE.out.trans (hb2.mono (by have := HZ.out; omega)))
    clear hk hb2 c0 c1 H1
    go_wp2_with fail
    have h := below_set2 HB2.out (Nat.le_succ _) (.int .u64 a) (.int .u64 b)
    exact ret_w rfl rfl rfl (set_two HK.out _ _) ⟨rfl, h⟩
  | false =>
    have e : absW (numW h l) = numW h l := by
      have := of_decide_eq_false hr.symm
      unfold Word at hh hl
      unfold absW numW
      split <;> split <;> omega
    rw [e, hiW_num hh hl, loW_num hh hl]
    clear e hr hh hl
    go_enter Tryd.func64, Tryd.ntmps64
    go_wp2_with fail
    refine (HB.out _).mono ?_
    rintro e w1 ⟨rfl, hb1⟩
    obtain ⟨B0, B1, hb, hz⟩ := behind2 hb1
    have H1 := hide B1
    have HBE := hide hb
    obtain ⟨c0, c1, _, _⟩ := two_cells B0
    obtain ⟨d0, d1, f0, f1⟩ := two_cells B1
    clear hb1 B0 B1 hb hz
    go_wp2_with fail
    have h := below_set2 HBE.out (Nat.le_succ _) (.int .u64 h) (.int .u64 l)
    exact ret_w rfl rfl rfl (set_two H1.out _ _) ⟨rfl, h⟩

end Go.Proofs.YtgleldpdelhhhaaDoor
