/- Package wide: what Add, Sub, Neg, Cmp answer; conditions: none but that numbers are of 128 bits. -/
import Derived.Test.YtgleldpdelhhhaaDoorWide7
namespace Go.Proofs.YtgleldpdelhhhaaDoor
open Go.RowKit Go.WideShapes Go.ChangeShapes
set_option linter.unusedVariables false
set_option maxRecDepth 100000

theorem ansW_if {z : Int} {b : Bool} (h : b = true ↔ ¬ Fits z) : (if b = true then Value.tuple #[wv 0 0, .int .i64 10] else .tuple #[wv (hiW z) (loW z), .int .i64 0]) = ansW z := by
  unfold ansW
  by_cases hf : Fits z
  · rw [if_pos hf, if_neg (fun e => h.1 e hf)]
  · rw [if_neg hf, if_pos (h.2 hf)]
theorem add_over {x y : Int} (hx : Fits x) (hy : Fits y) : ((decide (x < 0) == decide (y < 0)) && !(decide (9223372036854775808 ≤ hiW (x + y)) == decide (x < 0))) = true ↔ ¬ Fits (x + y) := by
  rw [Bool.and_eq_true, beq_iff_eq, Bool.not_eq_true', beq_eq_false_iff_ne, Ne, decide_eq_decide, decide_eq_decide]
  unfold Fits at *
  unfold hiW
  omega
theorem sub_over {x y : Int} (hx : Fits x) (hy : Fits y) : ((!(decide (x < 0) == decide (y < 0))) && !(decide (9223372036854775808 ≤ hiW (x - y)) == decide (x < 0))) = true ↔ ¬ Fits (x - y) := by
  rw [Bool.and_eq_true, Bool.not_eq_true', beq_eq_false_iff_ne, Bool.not_eq_true', beq_eq_false_iff_ne, Ne, Ne, decide_eq_decide, decide_eq_decide]
  unfold Fits at *
  unfold hiW
  omega

theorem add_any {x y : Int} (hx : Fits x) (hy : Fits y) (w : World) :
    Calls Tryd.prog 44 #[wv (hiW x) (loW x), wv (hiW y) (loW y)] w fun e w' => e = .returned (ansW (x + y)) ∧ Below w.heap.size w w' := by
  have ha := add_words x y
  have h1 : ∀ W, _ := fun W => add64_0 (loW x) (loW y) (loW_word x).1 (loW_word y).1 W
  have hc : 0 ≤ (loW x + loW y) / 18446744073709551616 ∧ (loW x + loW y) / 18446744073709551616 ≤ 1 := by have := loW_word x; have := loW_word y; unfold Word at *; omega
  have h2 : ∀ W, _ := fun W => add64 (hiW x) (hiW y) _ (hiW_word x).1 (hiW_word y).1 hc.1 hc.2 W
  simp only [ha.1] at h1
  simp only [ha.2] at h2
  have h := add_walk (hiW x) (loW x) (hiW y) (loW y) (hiW (x + y)) (loW (x + y)) _ _ (decide (x < 0)) (decide (y < 0)) (decide (9223372036854775808 ≤ hiW (x + y))) _ _ rfl rfl h1 h2
    (hide (below_fit hx)) (hide (below_fit hy)) (hide (fun W => below_any (hiW (x + y)) (loW (x + y)) (hiW_word _) W)) w
  rw [ansW_if (add_over hx hy)] at h
  exact h

theorem sub_any {x y : Int} (hx : Fits x) (hy : Fits y) (w : World) :
    Calls Tryd.prog 41 #[wv (hiW x) (loW x), wv (hiW y) (loW y)] w fun e w' => e = .returned (ansW (x - y)) ∧ Below w.heap.size w w' := by
  have ha := sub_words x y
  have h1 : ∀ W, _ := fun W => sub64_0 (loW x) (loW y) (loW_word x).1 (loW_word y).1 (loW_word y).2 W
  have hc := bor_01 (loW x) (loW y)
  have h2 : ∀ W, _ := fun W => sub64 (hiW x) (hiW y) _ (hiW_word x).1 (hiW_word y).1 (hiW_word y).2 hc.1 hc.2 W
  simp only [ha.1] at h1
  simp only [ha.2] at h2
  have h := sub_walk (hiW x) (loW x) (hiW y) (loW y) (hiW (x - y)) (loW (x - y)) _ _ (decide (x < 0)) (decide (y < 0)) (decide (9223372036854775808 ≤ hiW (x - y))) _ _ rfl rfl h1 h2
    (hide (below_fit hx)) (hide (below_fit hy)) (hide (fun W => below_any (hiW (x - y)) (loW (x - y)) (hiW_word _) W)) w
  rw [ansW_if (sub_over hx hy)] at h
  exact h

theorem fits_zero : Fits 0 := by unfold Fits; omega
theorem neg_any {x : Int} (hx : Fits x) (w : World) :
    Calls Tryd.prog 21 #[wv (hiW x) (loW x)] w fun e w' => e = .returned (ansW (-x)) ∧ Below w.heap.size w w' := by
  have hs := fun W => sub_any fits_zero hx W
  rw [Int.zero_sub, show hiW 0 = 0 from rfl, show loW 0 = 0 from rfl] at hs
  obtain ⟨zh, zl, ze, hz⟩ := ansW_form (-x)
  rw [hz] at hs ⊢
  obtain ⟨xh, hxh⟩ : ∃ v, v = hiW x := ⟨_, rfl⟩
  obtain ⟨xl, hxl⟩ : ∃ v, v = loW x := ⟨_, rfl⟩
  rw [← hxh, ← hxl] at hs ⊢
  have HS := hide hs
  clear hs hz hxh hxl hx
  go_enter Tryd.func21, Tryd.ntmps21
  go_wp2_with fail
  refine (HS.out _).mono ?_
  rintro e w1 ⟨rfl, hb1⟩
  obtain ⟨B0, B1, hb, hz⟩ := behind2 hb1
  obtain ⟨d0, d1, f0, f1⟩ := two_cells B1
  have H1 := hide B1
  have HBE := hide hb
  clear hb1 B0 B1 hb hz
  go_wp2_with fail
  have h := below_set2 HBE.out (Nat.le_succ _) (.int .u64 zh) (.int .u64 zl)
  exact ret_wt (v := .int .i64 ze) rfl rfl rfl rfl (set_two H1.out _ _) ⟨rfl, h⟩

theorem ret_i {a b : Int} (h : a = b) : Ending.returned (.int .i64 a) = .returned (.int .i64 b) := by rw [h]
def cmpI (p q : Int) : Int := if p < q then -1 else if q < p then 1 else 0
theorem nan_i64 (p : Int) (w : World) : Calls Tryd.prog 82 #[.int .i64 p] w fun e w' => e = .returned (.bool false) ∧ w = w' := by
  go_enter Tryd.func82, Tryd.ntmps82
  go_wp2_with fail
  go_ret
  exact ⟨rfl, rfl⟩
theorem nan_u64 (p : Int) (w : World) : Calls Tryd.prog 83 #[.int .u64 p] w fun e w' => e = .returned (.bool false) ∧ w = w' := by
  go_enter Tryd.func83, Tryd.ntmps83
  go_wp2_with fail
  go_ret
  exact ⟨rfl, rfl⟩
theorem compare_i64 (p q : Int) (w : World) : Calls Tryd.prog 68 #[.int .i64 p, .int .i64 q] w fun e w' => e = .returned (.int .i64 (cmpI p q)) ∧ w = w' := by
  obtain ⟨c, hc⟩ : ∃ c, c = cmpI p q := ⟨_, rfl⟩
  rw [← hc]
  have HC := hide hc
  clear hc
  go_enter Tryd.func68, Tryd.ntmps68
  go_wp2_with (go_at_call 82; refine (nan_i64 _ _).mono ?_; rintro e w' ⟨rfl, rfl⟩)
  all_goals go_ret
  all_goals exact ⟨ret_i (by rw [HC.out]; unfold cmpI; (repeat' split) <;> omega), rfl⟩
theorem compare_u64 (p q : Int) (w : World) : Calls Tryd.prog 69 #[.int .u64 p, .int .u64 q] w fun e w' => e = .returned (.int .i64 (cmpI p q)) ∧ w = w' := by
  obtain ⟨c, hc⟩ : ∃ c, c = cmpI p q := ⟨_, rfl⟩
  rw [← hc]
  have HC := hide hc
  clear hc
  go_enter Tryd.func69, Tryd.ntmps69
  go_wp2_with (go_at_call 83; refine (nan_u64 _ _).mono ?_; rintro e w' ⟨rfl, rfl⟩)
  all_goals go_ret
  all_goals exact ⟨ret_i (by rw [HC.out]; unfold cmpI; (repeat' split) <;> omega), rfl⟩
theorem or_any (a b : Int) (g : Nat) (w : World) (h0 : w.cell? ⟨g, 0, none⟩ = some (.int .i64 a)) (h1 : w.cell? ⟨g, 1, none⟩ = some (.int .i64 b)) :
    Calls Tryd.prog 67 #[.slice (some ⟨g, 0, none⟩) 2 2] w fun e w' => e = .returned (.int .i64 (if a = 0 then b else a)) ∧ w = w' := by
  obtain ⟨c, hc⟩ : ∃ c, c = (if a = 0 then b else a) := ⟨_, rfl⟩
  rw [← hc]
  have HC := hide hc
  clear hc
  go_enter Tryd.func67, Tryd.ntmps67
  go_wp2_with fail
  go_loop [8] (fun i => ∃ k : Nat, k ≤ 2 ∧ i = .int .i64 k ∧ (1 ≤ k → a = 0) ∧ (2 ≤ k → b = 0)) (fun i => 2 - (intOf i).toNat)
  case atStart => exact ⟨0, by omega, rfl, by omega, by omega⟩
  case round =>
    obtain ⟨k, hk, rfl, hka, hkb⟩ := hrel
    have HA := hide hka
    have HB := hide hkb
    clear hka hkb
    rcases (show k = 0 ∨ k = 1 ∨ k = 2 by omega) with rfl | rfl | rfl
    · by_cases hz : a = 0
      · subst hz
        go_wp2_with fail
        go_round
        case rel => exact ⟨1, by omega, rfl, (fun _ => by first | rfl | trivial), by omega⟩
        case measure => simp [intOf]
      · have hb : (a != 0) = true := bne_iff_ne.2 hz
        go_wp2_with fail
        go_ret
        exact ⟨ret_i (by rw [HC.out]; simp [hz]), rfl⟩
    · obtain rfl := HA.out (by omega)
      by_cases hz : b = 0
      · subst hz
        go_wp2_with fail
        go_round
        case rel => exact ⟨2, by omega, rfl, (fun _ => by first | rfl | trivial), (fun _ => by first | rfl | trivial)⟩
        case measure => simp [intOf]
      · have hb : (b != 0) = true := bne_iff_ne.2 hz
        go_wp2_with fail
        go_ret
        exact ⟨ret_i (by rw [HC.out]; simp), rfl⟩
    · obtain rfl := HA.out (by omega)
      obtain rfl := HB.out (by omega)
      go_wp2_with fail
      go_ret
      exact ⟨ret_i (by rw [HC.out]; simp), rfl⟩

theorem wb_new2 (w : World) (a b c d : Int) : WB w [(w.heap.size + 1, c, d), (w.heap.size, a, b)] ((w.alloc (.cells #[.int .u64 a, .int .u64 b] 24)).alloc (.cells #[.int .u64 c, .int .u64 d] 24)) := by
  refine ⟨fun p hp => ?_, below2 _ _ _, fun p hp => ?_, by simp⟩
  · simp only [List.mem_cons, List.not_mem_nil, or_false] at hp
    rcases hp with rfl | rfl
    · exact blk_at1 w _ _
    · exact blk_at0 w _ _
  · simp only [List.mem_cons, List.not_mem_nil, or_false] at hp
    rcases hp with rfl | rfl <;> simp
def sg (h : Int) : Int := IntKind.i64.wrap h
theorem cmp_words {x y : Int} (hx : Fits x) (hy : Fits y) : (if cmpI (sg (hiW x)) (sg (hiW y)) = 0 then cmpI (loW x) (loW y) else cmpI (sg (hiW x)) (sg (hiW y))) = cmpI x y := by
  have e : ∀ z, Fits z → sg (hiW z) * 18446744073709551616 + loW z = z := fun z hz => by
    unfold sg
    rw [IntKind.wrap_i64]
    unfold Fits at hz
    unfold hiW loW
    omega
  have ex := e x hx
  have ey := e y hy
  have lx := loW_word x
  have ly := loW_word y
  unfold Word at lx ly
  generalize sg (hiW x) = a at *
  generalize sg (hiW y) = b at *
  unfold cmpI
  (repeat' split) <;> omega

set_option maxHeartbeats 4000000 in
theorem cmp_walk (xh xl yh yl p q c1 c2 c : Int) (hp : IntKind.i64.wrap xh = p) (hq : IntKind.i64.wrap yh = q)
    (HC1 : Hid (∀ W, Calls Tryd.prog 68 #[.int .i64 p, .int .i64 q] W fun e w' => e = .returned (.int .i64 c1) ∧ W = w'))
    (HC2 : Hid (∀ W, Calls Tryd.prog 69 #[.int .u64 xl, .int .u64 yl] W fun e w' => e = .returned (.int .i64 c2) ∧ W = w'))
    (HCO : Hid (∀ (g : Nat) (W : World), W.cell? ⟨g, 0, none⟩ = some (.int .i64 c1) → W.cell? ⟨g, 1, none⟩ = some (.int .i64 c2) → Calls Tryd.prog 67 #[.slice (some ⟨g, 0, none⟩) 2 2] W fun e w' => e = .returned (.int .i64 c) ∧ W = w'))
    (w : World) : Calls Tryd.prog 49 #[wv xh xl, wv yh yl] w fun e w' => e = .returned (.int .i64 c) ∧ Below w.heap.size w w' := by
  have HM := hide (wb_new2 w xh xl yh yl)
  obtain ⟨s, hs⟩ : ∃ s, s = w.heap.size := ⟨_, rfl⟩
  rw [← hs] at HM
  have HS := hide hs
  clear hs
  go_enter Tryd.func49, Tryd.ntmps49
  go_wp2_with fail
  rw [← HS.out]
  obtain ⟨W0, hW0⟩ : ∃ W : World, W = ((w.alloc (.cells #[.int .u64 xh, .int .u64 xl] 24)).alloc (.cells #[.int .u64 yh, .int .u64 yl] 24)) := ⟨_, rfl⟩
  rw [← hW0] at HM ⊢
  have HM1 := WB.drew HM
  clear hW0
  obtain ⟨a0, a1, b0, b1⟩ := WB.argsM HM1 (s := s) (k := s + 1) (xh := xh) (xl := xl) (yh := yh) (yl := yl) (by simp) (by simp)
  refine wp_region_tail 99 (fun w' => w'.cell? ⟨s, 0, none⟩ = some (.int .u64 xh) ∧ w'.cell? ⟨s, 1, none⟩ = some (.int .u64 xl) ∧ w'.cell? ⟨s + 1, 0, none⟩ = some (.int .u64 yh) ∧ w'.cell? ⟨s + 1, 1, none⟩ = some (.int .u64 yl)) (by kernel_rfl) ⟨a0, a1, b0, b1⟩ (fun hHeld => ?_)
  try simp only [Act.put, List.setIfInBounds_toArray, List.set_cons_zero, List.set_cons_succ]
  refine' wpTail_take (i := 0) (oi := _) ?hi ?hs ?hf ?hr ?hz ?hQ (v := _) (Or.inl ⟨?hw, ?hy⟩) (⟨a0, a1, b0, b1⟩) ?_
  case hi => (simp only [List.getElem?_toArray, List.getElem?_cons_zero]; exact rfl)
  case hs => kernel_rfl
  case hf => kernel_rfl
  case hr => kernel_rfl
  case hz => kernel_rfl
  case hQ => exact fun _ _ _ h => h
  case hw => rfl
  case hy => (intro w hSw; (try dsimp only at hSw); go_simp; (try with_reducible rfl))
  try simp only [Act.put, List.setIfInBounds_toArray, List.set_cons_zero, List.set_cons_succ]
  refine' wpTail_take (i := 1) (oi := _) ?hi ?hs ?hf ?hr ?hz ?hQ (v := _) (Or.inl ⟨?hw, ?hy⟩) (⟨a0, a1, b0, b1⟩) ?_
  case hi => (simp only [List.getElem?_toArray, List.getElem?_cons_succ, List.getElem?_cons_zero]; exact rfl)
  case hs => kernel_rfl
  case hf => kernel_rfl
  case hr => kernel_rfl
  case hz => kernel_rfl
  case hQ => exact fun _ _ _ h => h
  case hw => rfl
  case hy => (intro w hSw; (try dsimp only at hSw); go_simp; (try with_reducible rfl))
  try simp only [Act.put, List.setIfInBounds_toArray, List.set_cons_zero, List.set_cons_succ]
  refine' wpTail_take (i := 2) (oi := _) ?hi ?hs ?hf ?hr ?hz ?hQ (v := _) (Or.inl ⟨?hw, ?hy⟩) (⟨a0, a1, b0, b1⟩) ?_
  case hi => (simp only [List.getElem?_toArray, List.getElem?_cons_succ, List.getElem?_cons_zero]; exact rfl)
  case hs => kernel_rfl
  case hf => kernel_rfl
  case hr => kernel_rfl
  case hz => kernel_rfl
  case hQ => exact fun _ _ _ h => h
  case hw => rfl
  case hy => (intro w hSw; (try dsimp only at hSw); go_simp; (try with_reducible rfl))
  try simp only [Act.put, List.setIfInBounds_toArray, List.set_cons_zero, List.set_cons_succ]
  refine' wpTail_take (i := 3) (oi := _) ?hi ?hs ?hf ?hr ?hz ?hQ (v := _) (Or.inl ⟨?hw, ?hy⟩) (⟨a0, a1, b0, b1⟩) ?_
  case hi => (simp only [List.getElem?_toArray, List.getElem?_cons_succ, List.getElem?_cons_zero]; exact rfl)
  case hs => kernel_rfl
  case hf => kernel_rfl
  case hr => kernel_rfl
  case hz => kernel_rfl
  case hQ => exact fun _ _ _ h => h
  case hw => rfl
  case hy => (intro w hSw; (try dsimp only at hSw); go_simp; (try with_reducible rfl))
  try simp only [Act.put, List.setIfInBounds_toArray, List.set_cons_zero, List.set_cons_succ]
  refine' wpTail_take (i := 4) (oi := _) ?hi ?hs ?hf ?hr ?hz ?hQ (v := _) (Or.inl ⟨?hw, ?hy⟩) (⟨a0, a1, b0, b1⟩) ?_
  case hi => (simp only [List.getElem?_toArray, List.getElem?_cons_succ, List.getElem?_cons_zero]; exact rfl)
  case hs => kernel_rfl
  case hf => kernel_rfl
  case hr => kernel_rfl
  case hz => kernel_rfl
  case hQ => exact fun _ _ _ h => h
  case hw => rfl
  case hy => (intro w hSw; (try dsimp only at hSw); go_simp; (try with_reducible rfl))
  try simp only [Act.put, List.setIfInBounds_toArray, List.set_cons_zero, List.set_cons_succ]
  refine' wpTail_take (i := 5) (oi := _) ?hi ?hs ?hf ?hr ?hz ?hQ (v := _) (Or.inl ⟨?hw, ?hy⟩) (⟨a0, a1, b0, b1⟩) ?_
  case hi => (simp only [List.getElem?_toArray, List.getElem?_cons_succ, List.getElem?_cons_zero]; exact rfl)
  case hs => kernel_rfl
  case hf => kernel_rfl
  case hr => kernel_rfl
  case hz => kernel_rfl
  case hQ => exact fun _ _ _ h => h
  case hw => rfl
  case hy => (intro w hSw; (try dsimp only at hSw); go_simp; (try with_reducible rfl))
  try simp only [Act.put, List.setIfInBounds_toArray, List.set_cons_zero, List.set_cons_succ]
  refine' wpTail_take (i := 7) (oi := _) ?hi ?hs ?hf ?hr ?hz ?hQ (v := _) (Or.inl ⟨?hw, ?hy⟩) (⟨a0, a1, b0, b1⟩) ?_
  case hi => (simp only [List.getElem?_toArray, List.getElem?_cons_succ, List.getElem?_cons_zero]; exact rfl)
  case hs => kernel_rfl
  case hf => kernel_rfl
  case hr => kernel_rfl
  case hz => kernel_rfl
  case hQ => exact fun _ _ _ h => h
  case hw => rfl
  case hy => (intro w hSw; (try dsimp only at hSw); go_simp; (try with_reducible rfl))
  try simp only [Act.put, List.setIfInBounds_toArray, List.set_cons_zero, List.set_cons_succ]
  refine' wpTail_take (i := 8) (oi := _) ?hi ?hs ?hf ?hr ?hz ?hQ (v := _) (Or.inl ⟨?hw, ?hy⟩) (⟨a0, a1, b0, b1⟩) ?_
  case hi => (simp only [List.getElem?_toArray, List.getElem?_cons_succ, List.getElem?_cons_zero]; exact rfl)
  case hs => kernel_rfl
  case hf => kernel_rfl
  case hr => kernel_rfl
  case hz => kernel_rfl
  case hQ => exact fun _ _ _ h => h
  case hw => rfl
  case hy => (intro w hSw; (try dsimp only at hSw); go_simp; (try with_reducible rfl))
  try simp only [Act.put, List.setIfInBounds_toArray, List.set_cons_zero, List.set_cons_succ]
  refine' wpTail_take (i := 9) (oi := _) ?hi ?hs ?hf ?hr ?hz ?hQ (v := _) (Or.inl ⟨?hw, ?hy⟩) (⟨a0, a1, b0, b1⟩) ?_
  case hi => (simp only [List.getElem?_toArray, List.getElem?_cons_succ, List.getElem?_cons_zero]; exact rfl)
  case hs => kernel_rfl
  case hf => kernel_rfl
  case hr => kernel_rfl
  case hz => kernel_rfl
  case hQ => exact fun _ _ _ h => h
  case hw => rfl
  case hy => (intro w hSw; (try dsimp only at hSw); go_simp; (try with_reducible rfl))
  try simp only [Act.put, List.setIfInBounds_toArray, List.set_cons_zero, List.set_cons_succ]
  refine' wpTail_take (i := 10) (oi := _) ?hi ?hs ?hf ?hr ?hz ?hQ (v := _) (Or.inl ⟨?hw, ?hy⟩) (⟨a0, a1, b0, b1⟩) ?_
  case hi => (simp only [List.getElem?_toArray, List.getElem?_cons_succ, List.getElem?_cons_zero]; exact rfl)
  case hs => kernel_rfl
  case hf => kernel_rfl
  case hr => kernel_rfl
  case hz => kernel_rfl
  case hQ => exact fun _ _ _ h => h
  case hw => rfl
  case hy => (intro w hSw; (try dsimp only at hSw); go_simp; (try with_reducible rfl))
  try simp only [Act.put, List.setIfInBounds_toArray, List.set_cons_zero, List.set_cons_succ]
  refine' wpTail_one (i := 6) (o := _) (by kernel_rfl) ?ho ?hw (fun K hK => ?_)
  case ho => (simp only [List.getElem?_toArray, List.getElem?_cons_succ, List.getElem?_cons_zero]; exact rfl)
  case hw => rfl
  go_simp
  (with_reducible refine (HC1.out _).mono ?_)
  rintro e w' ⟨rfl, rfl⟩
  refine hK.out _ _ (fun _ => ⟨a0, a1, b0, b1⟩) ?_
  clear hK K
  try simp only [Act.put, List.setIfInBounds_toArray, List.set_cons_zero, List.set_cons_succ]
  refine' wpTail_one (i := 11) (o := _) (by kernel_rfl) ?ho ?hw (fun K hK => ?_)
  case ho => (simp only [List.getElem?_toArray, List.getElem?_cons_succ, List.getElem?_cons_zero]; exact rfl)
  case hw => rfl
  go_simp
  (with_reducible refine (HC2.out _).mono ?_)
  rintro e w' ⟨rfl, rfl⟩
  refine hK.out _ _ (fun _ => ⟨a0, a1, b0, b1⟩) ?_
  clear hK K
  try simp only [Act.put, List.setIfInBounds_toArray, List.set_cons_zero, List.set_cons_succ]
  refine' wpTail_one (i := 12) (o := _) (by kernel_rfl) ?ho ?hw (fun K hK => ?_)
  case ho => (simp only [List.getElem?_toArray, List.getElem?_cons_succ, List.getElem?_cons_zero]; exact rfl)
  case hw => rfl
  go_simp
  have hm2 := WB.drew (WB.next ((Below.refl _ _).alloc (Nat.le_refl _) (.cells #[.int .i64 c1, .int .i64 c2] 3)) HM)
  have hbk : Blk (W0.alloc (.cells #[.int .i64 c1, .int .i64 c2] 3)).drew W0.heap.size 3 #[.int .i64 c1, .int .i64 c2] := Blk.new _ _ _
  refine hK.out _ _ (fun _ => WB.argsM hm2 (by simp) (by simp)) ?_
  clear hK K
  try simp only [Act.put, List.setIfInBounds_toArray, List.set_cons_zero, List.set_cons_succ]
  refine' wpTail_one (i := 13) (o := _) (by kernel_rfl) ?ho ?hw (fun K hK => ?_)
  case ho => (simp only [List.getElem?_toArray, List.getElem?_cons_succ, List.getElem?_cons_zero]; exact rfl)
  case hw => rfl
  go_simp
  (with_reducible refine (HCO.out _ _ (hbk.cell 0) (hbk.cell 1)).mono ?_)
  rintro e w' ⟨rfl, rfl⟩
  refine hK.out _ _ (fun _ => WB.argsM hm2 (by simp) (by simp)) ?_
  clear hK K
  try simp only [Act.put, List.setIfInBounds_toArray, List.set_cons_zero, List.set_cons_succ]
  refine' wpTail_take (i := 14) (oi := _) ?hi ?hs ?hf ?hr ?hz ?hQ (v := _) (Or.inl ⟨?hw, ?hy⟩) (WB.argsM hm2 (by simp) (by simp)) ?_
  case hi => (simp only [List.getElem?_toArray, List.getElem?_cons_succ, List.getElem?_cons_zero]; exact rfl)
  case hs => kernel_rfl
  case hf => kernel_rfl
  case hr => kernel_rfl
  case hz => kernel_rfl
  case hQ => exact fun _ _ _ h => h
  case hw => rfl
  case hy => (intro w hSw; (try dsimp only at hSw); go_simp; (try with_reducible rfl))
  try simp only [Act.put, List.setIfInBounds_toArray, List.set_cons_zero, List.set_cons_succ]
  refine wpTail_done (by kernel_rfl) ?_ _
  go_wp2_with fail
  go_ret
  exact ⟨rfl, hm2.out.low⟩

theorem cmp_any {x y : Int} (hx : Fits x) (hy : Fits y) (w : World) :
    Calls Tryd.prog 49 #[wv (hiW x) (loW x), wv (hiW y) (loW y)] w fun e w' => e = .returned (.int .i64 (cmpI x y)) ∧ Below w.heap.size w w' := by
  rw [← cmp_words hx hy]
  exact cmp_walk _ _ _ _ _ _ _ _ _ rfl rfl (hide (compare_i64 _ _)) (hide (compare_u64 _ _)) (hide (fun g W h0 h1 => or_any _ _ g W h0 h1)) w
end Go.Proofs.YtgleldpdelhhhaaDoor
