/- The reference's rows of digits: what more, plus, minus answer; conditions: the digits' cells are in memory. -/
import Derived.Test.YtgleldpdelhhhaaDoorDig
namespace Go.Proofs.YtgleldpdelhhhaaDoor
open Go.RowKit Go.WideShapes Go.ChangeShapes
set_option linter.unusedVariables false
set_option maxRecDepth 100000

set_option maxHeartbeats 4000000 in
theorem more_any {w : World} {n m c c' : Nat} {A A' : Option Addr} {a b : List Nat} (ha : Dg w A n a) (hb : Dg w A' m b) (da : DOk a) (db : DOk b) (hn : n ≤ 1100) (hm : m ≤ 1100) :
    Calls Tryd.prog 56 #[.slice A n c, .slice A' m c'] w fun e w' => e = .returned (.int .i64 (ordN (dval a) (dval b))) ∧ w = w' := by
  have HA := hide ha
  have HB := hide hb
  have HD := hide (And.intro da db)
  clear ha hb da db
  go_enter Tryd.func56, Tryd.ntmps56
  go_wp2_with fail
  all_goals
    go_loopw [5] (fun i wr => ∃ (k : Nat), i = .int .i64 ((k : Int) - 1) ∧ k ≤ 1100 ∧ dval (a.drop k) = dval (b.drop k) ∧ wr = w) (fun i _ => (intOf i + 1).toNat)
    case atStart =>
      have h1 := HA.out.1
      have h2 := HB.out.1
      first
        | exact ⟨m, rfl, by omega, by rw [dval_over a m (by omega), dval_over b m (by omega)], rfl⟩
        | exact ⟨n, rfl, by omega, by rw [dval_over a n (by omega), dval_over b n (by omega)], rfl⟩
    case round =>
      obtain ⟨k, rfl, hk, hd, rfl⟩ := hrel
      cases k with
      | zero =>
        have HE := hide hd
        clear hd
        go_wp2_with fail
        go_ret
        exact ⟨by have h := HE.out; rw [List.drop_zero, List.drop_zero] at h; unfold ordN; rw [h, if_neg (by omega), if_pos rfl]; rfl, rfl⟩
      | succ k =>
        have hx := at_any HA.out (by omega) k (by omega) (c := c)
        have hy := at_any HB.out (by omega) k (by omega) (c := c')
        have ba := HD.out.1.dg k
        have bb := HD.out.2.dg k
        have la := dg_less HD.out.1 HD.out.2 k hd
        have lb := dg_less HD.out.2 HD.out.1 k hd.symm
        have le : dg a k = dg b k → dval (a.drop k) = dval (b.drop k) := fun e => by rw [dg_drop a k, dg_drop b k, e, hd]
        obtain ⟨x, hx'⟩ : ∃ x, x = dg a k := ⟨_, rfl⟩
        obtain ⟨y, hy'⟩ : ∃ y, y = dg b k := ⟨_, rfl⟩
        rw [← hx'] at hx ba la lb le
        rw [← hy'] at hy bb la lb le
        have HX := hide hx
        have HY := hide hy
        have HL := hide (And.intro la (And.intro lb le))
        clear hx hy la lb le hx' hy' hd
        rw [show (((k + 1 : Nat) : Int) - 1) = (k : Int) by omega]
        rcases Nat.lt_trichotomy x y with h | h | h
        · have hlt : ((x : Int) < (y : Int)) := by omega
          have hne : ((x : Int) != (y : Int)) = true := by rw [bne_iff_ne]; omega
          go_wp2_with (first
            | ((with_reducible refine HX.out.mono ?_); rintro e w1 ⟨rfl, rfl⟩)
            | ((with_reducible refine HY.out.mono ?_); rintro e w1 ⟨rfl, rfl⟩))
          go_ret
          exact ⟨by have h := HL.out.1 (by omega); unfold ordN; rw [if_pos h]; rfl, rfl⟩
        · subst h
          go_wp2_with (first
            | ((with_reducible refine HX.out.mono ?_); rintro e w1 ⟨rfl, rfl⟩)
            | ((with_reducible refine HY.out.mono ?_); rintro e w1 ⟨rfl, rfl⟩))
          go_roundw
          case rel => exact ⟨k, by go_num, by omega, HL.out.2.2 trivial, trivial⟩
          case measure => simp [intOf]
        · have hlt : ¬ ((x : Int) < (y : Int)) := by omega
          have hne : ((x : Int) != (y : Int)) = true := by rw [bne_iff_ne]; omega
          go_wp2_with (first
            | ((with_reducible refine HX.out.mono ?_); rintro e w1 ⟨rfl, rfl⟩)
            | ((with_reducible refine HY.out.mono ?_); rintro e w1 ⟨rfl, rfl⟩))
          go_ret
          exact ⟨by have h := HL.out.2.1 (by omega); unfold ordN; rw [if_neg (by omega), if_neg (by omega)]; rfl, rfl⟩

theorem _root_.Go.World.ownsRow.allocD {w : World} {B e s n : Nat} {v : Value} {xs : List Value} (h : w.ownsRow B e s v n xs) (o : Obj) : (w.alloc o).ownsRow B e s v n xs :=
  h.kept (row := none) ⟨rfl, rfl, rfl, by simp, fun k hk _ => Below.heap_alloc w o k hk⟩ (Classical.em _)
theorem readsD1 (w : World) (x : Nat) : Reads (w.alloc (.cells #[.int .i64 (x : Int)] 3)) (w.heap.size + 1) 1 (some ⟨w.heap.size, 0, none⟩) 1 (nums [x]) := by
  refine ⟨rfl, fun _ => ⟨_, rfl, by simp, fun j u hu => ?_⟩⟩
  have hb : Blk (w.alloc (.cells #[.int .i64 (x : Int)] 3)) w.heap.size 3 #[.int .i64 (x : Int)] := Blk.new _ _ _
  have e : (⟨w.heap.size, 0, none⟩ : Addr).add j = ⟨w.heap.size, j, none⟩ := by unfold Addr.add; split <;> simp_all
  rw [e, hb.cell j]
  simpa [nums] using hu
theorem belowD1 {w wr w1 : World} {o : Obj} {n : Nat} {v : Value} {xs : List Value} (h : Below w.heap.size w wr) (ho : (wr.alloc o).ownsRow w.heap.size 3 1 v n xs) (hg : (wr.alloc o).grownBy w1 v.ownBlock) : Below w.heap.size w w1 :=
  (h.alloc h.size o).grown hg (by have := h.size; simp; omega) (fun k hk => (ho.lt k hk).1)
theorem own_capD {w : World} {B e s n c : Nat} {A : Option Addr} {xs : List Value} (h : w.ownsRow B e s (.slice A n c) n xs) : n ≤ c := by
  rcases h.2 with ⟨h1, h2⟩ | ⟨g, cap, cur, h1, _, _, h2, _⟩
  · omega
  · simp at h1; omega

def PlusRel (w : World) (a b : List Nat) (M : Nat) (o cy i : Value) (wr : World) : Prop :=
  ∃ (k y cp : Nat) (A : Option Addr) (ds : List Nat), o = .slice A k cp ∧ cy = .int .i64 y ∧ i = .int .i64 k ∧ wr.ownsRow w.heap.size 3 1 (.slice A k cp) k (nums ds) ∧ ds.length = k ∧ DOk ds ∧ y ≤ 1 ∧ k ≤ M + 1 ∧ dval ds + y * 10 ^ k = dval (a.take k) + dval (b.take k) ∧ Below w.heap.size w wr
theorem PlusRel.push {w : World} {a b : List Nat} {M k y : Nat} {ds : List Nat} {A1 : Option Addr} {c1 : Nat} {w1 : World} {o cy i : Value} (ho : w1.ownsRow w.heap.size 3 1 (.slice A1 (k + 1) c1) (k + 1) (nums ds ++ nums [(dg a k + dg b k + y) % 10])) (hl : ds.length = k) (hd : DOk ds) (ha : dg a k < 10) (hb : dg b k < 10) (hy : y ≤ 1) (hk : k + 1 ≤ M + 1)
    (hv : dval ds + y * 10 ^ k = dval (a.take k) + dval (b.take k)) (hbl : Below w.heap.size w w1) (h1 : o = .slice A1 (k + 1) c1) (h2 : cy = .int .i64 (((dg a k + dg b k + y) / 10 : Nat) : Int)) (h3 : i = .int .i64 ((k + 1 : Nat) : Int)) : PlusRel w a b M o cy i w1 := by
  refine ⟨k + 1, (dg a k + dg b k + y) / 10, c1, A1, ds ++ [(dg a k + dg b k + y) % 10], h1, h2, h3, ?_, by simp [hl], hd.push (by omega), by omega, hk, ?_, hbl⟩
  · unfold nums at ho ⊢
    rw [List.map_append]
    exact ho
  · rw [dval_append, dg_take, dg_take, hl, Nat.pow_succ]
    simp only [dval, Nat.mul_zero, Nat.add_zero]
    have e := Nat.div_add_mod (dg a k + dg b k + y) 10
    obtain ⟨q, hq⟩ : ∃ q, q = (dg a k + dg b k + y) / 10 := ⟨_, rfl⟩
    obtain ⟨r, hr⟩ : ∃ r, r = (dg a k + dg b k + y) % 10 := ⟨_, rfl⟩
    rw [← hq, ← hr] at e ⊢
    have e2 : 10 ^ k * (10 * q + r) = 10 ^ k * (dg a k + dg b k + y) := by rw [e]
    rw [Nat.mul_add, Nat.mul_add, Nat.mul_add] at e2
    rw [Nat.mul_comm (dg a k), Nat.mul_comm (dg b k)]
    rw [Nat.mul_comm y] at hv
    have e3 : q * (10 ^ k * 10) = 10 ^ k * (10 * q) := by rw [Nat.mul_comm q, Nat.mul_assoc]
    omega

set_option maxHeartbeats 4000000 in
theorem plus_a {w : World} {n m c c' : Nat} {A A' : Option Addr} {a b : List Nat} (ha : Dg w A n a) (hb : Dg w A' m b) (da : DOk a) (db : DOk b) (hn : n ≤ 1100) (hm : m ≤ 1100) (hnm : n < m) :
    Calls Tryd.prog 43 #[.slice A n c, .slice A' m c'] w fun e w' => ∃ A k cp ds, e = .returned (.slice A k cp) ∧ Dg w' A k ds ∧ DOk ds ∧ k ≤ m + 1 ∧ k ≤ cp ∧ dval ds = dval a + dval b ∧ Below w.heap.size w w' := by
  have hla := ha.1
  have hlb := hb.1
  have HA := hide ha
  have HB := hide hb
  have HD := hide (And.intro da db)
  clear ha hb da db
  obtain ⟨i0, hi0, hz0, hz1, hz2⟩ := info_parts intInfoD
  go_enter Tryd.func43, Tryd.ntmps43
  go_wp2_with fail
  go_loopw [5, 6, 7] (fun o cy i wr => PlusRel w a b m o cy i wr) (fun _ _ i _ => m + 2 - (intOf i).toNat)
  case atStart => exact ⟨0, 0, 0, _, [], rfl, rfl, rfl, World.ownsRow_made _ #[] 0 (Nat.le_refl _) (by simp [maxLen]) (by simp), rfl, DOk.nil, by omega, by omega, by simp [dval], (Below.refl _ _).alloc (Nat.le_refl _) _⟩
  case round =>
    obtain ⟨k, y, cp, A1, ds, rfl, rfl, rfl, hown, hl, hd, hy, hk, hv, hbl⟩ := hrel
    have hxx := at_any (HA.out.below hbl) (by omega) k (by omega) (c := c)
    have hyy := at_any (HB.out.below hbl) (by omega) k (by omega) (c := c')
    have ba := HD.out.1.dg k
    have bb := HD.out.2.dg k
    have hfin : m ≤ k → dval ds + y * 10 ^ k = dval a + dval b := fun h => by rw [hv, dval_all a k (by omega), dval_all b k (by omega)]
    have hover : y = 1 → k ≤ m := fun h1 => by
      apply Decidable.byContradiction
      intro h
      have h2 := hfin (by omega)
      have h3 := dval_take_lt HD.out.1 m
      have h4 := dval_take_lt HD.out.2 m
      rw [dval_all a m (by omega)] at h3
      rw [dval_all b m (by omega)] at h4
      rw [h1, show k = m + 1 by omega, Nat.pow_succ] at h2
      omega
    obtain ⟨x, hx⟩ : ∃ x, x = dg a k := ⟨_, rfl⟩
    obtain ⟨z, hz⟩ : ∃ x, x = dg b k := ⟨_, rfl⟩
    rw [← hx] at hxx ba
    rw [← hz] at hyy bb
    have hs2 : (((x : Int) + (z : Int) + (y : Int))).tmod 10 = (((x + z + y) % 10 : Nat) : Int) := by rw [Int.tmod_eq_emod_of_nonneg (by omega)]; omega
    have hs3 : (((x : Int) + (z : Int) + (y : Int))).tdiv 10 = (((x + z + y) / 10 : Nat) : Int) := by rw [Int.tdiv_eq_ediv_of_nonneg (by omega)]; omega
    have HX := hide hxx
    have HY := hide hyy
    have HO := hide hown
    have HL := hide hbl
    have HV := hide hv
    have HF := hide hfin
    have HDS := hide (And.intro hl hd)
    have HXZ := hide (And.intro hx hz)
    clear hxx hyy hown hbl hv hfin hl hd hx hz
    by_cases hk1 : k < m
    · clear hover
      go_wp2_with (first
          | ((with_reducible refine HX.out.mono ?_); rintro e w1 ⟨rfl, rfl⟩)
          | ((with_reducible refine HY.out.mono ?_); rintro e w1 ⟨rfl, rfl⟩)
          | (at_builtin
             refine wpList_append_any _ rfl (.tmp 32) (.tmp 35) _ rfl (w.heap.size) 3 i0 _ 1 8 Tryd.underlying41 hi0 hz0 hz1 hz2 rfl (by omega) (.slice A1 k cp) k (nums ds) rfl (HO.out.allocD _) (wr.heap.size + 1) (some ⟨wr.heap.size, 0, none⟩) 1 1 (nums [((x + z + y) % 10)]) rfl (readsD1 wr ((x + z + y) % 10)) (nums_one _) (by simp only [maxLen]; omega) (by omega) (by have := HL.out.size; simp; omega) ?_
             intro v1 w1 hown1 hg1 hat1
             obtain ⟨A1, k1, rfl⟩ := own_formD hown1
             have HO1 := hide hown1
             have HB1 := hide (belowD1 HL.out (HO.out.allocD _) hg1)
             clear hown1 hg1 hat1))
      go_roundw
      case rel => exact PlusRel.push (y := y) (k := k) (ds := ds) (by rw [← HXZ.out.1, ← HXZ.out.2]; exact HO1.out) HDS.out.1 HDS.out.2 (by rw [← HXZ.out.1]; exact ba) (by rw [← HXZ.out.2]; exact bb) hy (by omega) HV.out HB1.out rfl (by rw [← HXZ.out.1, ← HXZ.out.2]; rfl) (by go_num)
      case measure => simp [intOf]; omega
    · have hy01 : y = 0 ∨ y = 1 := by omega
      rcases hy01 with rfl | rfl
      · clear hover
        go_wp2_with fail
        go_ret
        exact ⟨A1, k, cp, ds, rfl, Dg.own HDS.out.1 HO.out, HDS.out.2, hk, own_capD HO.out, by have := HF.out (by omega); omega, HL.out⟩
      · have hk2 := hover rfl
        clear hover
        go_wp2_with (first
          | ((with_reducible refine HX.out.mono ?_); rintro e w1 ⟨rfl, rfl⟩)
          | ((with_reducible refine HY.out.mono ?_); rintro e w1 ⟨rfl, rfl⟩)
          | (at_builtin
             refine wpList_append_any _ rfl (.tmp 32) (.tmp 35) _ rfl (w.heap.size) 3 i0 _ 1 8 Tryd.underlying41 hi0 hz0 hz1 hz2 rfl (by omega) (.slice A1 k cp) k (nums ds) rfl (HO.out.allocD _) (wr.heap.size + 1) (some ⟨wr.heap.size, 0, none⟩) 1 1 (nums [((x + z + 1) % 10)]) rfl (readsD1 wr ((x + z + 1) % 10)) (nums_one _) (by simp only [maxLen]; omega) (by omega) (by have := HL.out.size; simp; omega) ?_
             intro v1 w1 hown1 hg1 hat1
             obtain ⟨A1, k1, rfl⟩ := own_formD hown1
             have HO1 := hide hown1
             have HB1 := hide (belowD1 HL.out (HO.out.allocD _) hg1)
             clear hown1 hg1 hat1))
        go_roundw
        case rel => exact PlusRel.push (y := 1) (k := k) (ds := ds) (by rw [← HXZ.out.1, ← HXZ.out.2]; exact HO1.out) HDS.out.1 HDS.out.2 (by rw [← HXZ.out.1]; exact ba) (by rw [← HXZ.out.2]; exact bb) hy (by omega) HV.out HB1.out rfl (by rw [← HXZ.out.1, ← HXZ.out.2]; rfl) (by go_num)
        case measure => simp [intOf]; omega

set_option maxHeartbeats 4000000 in
theorem plus_b {w : World} {n m c c' : Nat} {A A' : Option Addr} {a b : List Nat} (ha : Dg w A n a) (hb : Dg w A' m b) (da : DOk a) (db : DOk b) (hn : n ≤ 1100) (hm : m ≤ 1100) (hnm : ¬ n < m) :
    Calls Tryd.prog 43 #[.slice A n c, .slice A' m c'] w fun e w' => ∃ A k cp ds, e = .returned (.slice A k cp) ∧ Dg w' A k ds ∧ DOk ds ∧ k ≤ n + 1 ∧ k ≤ cp ∧ dval ds = dval a + dval b ∧ Below w.heap.size w w' := by
  have hla := ha.1
  have hlb := hb.1
  have HA := hide ha
  have HB := hide hb
  have HD := hide (And.intro da db)
  clear ha hb da db
  obtain ⟨i0, hi0, hz0, hz1, hz2⟩ := info_parts intInfoD
  go_enter Tryd.func43, Tryd.ntmps43
  go_wp2_with fail
  go_loopw [5, 6, 7] (fun o cy i wr => PlusRel w a b n o cy i wr) (fun _ _ i _ => n + 2 - (intOf i).toNat)
  case atStart => exact ⟨0, 0, 0, _, [], rfl, rfl, rfl, World.ownsRow_made _ #[] 0 (Nat.le_refl _) (by simp [maxLen]) (by simp), rfl, DOk.nil, by omega, by omega, by simp [dval], (Below.refl _ _).alloc (Nat.le_refl _) _⟩
  case round =>
    obtain ⟨k, y, cp, A1, ds, rfl, rfl, rfl, hown, hl, hd, hy, hk, hv, hbl⟩ := hrel
    have hxx := at_any (HA.out.below hbl) (by omega) k (by omega) (c := c)
    have hyy := at_any (HB.out.below hbl) (by omega) k (by omega) (c := c')
    have ba := HD.out.1.dg k
    have bb := HD.out.2.dg k
    have hfin : n ≤ k → dval ds + y * 10 ^ k = dval a + dval b := fun h => by rw [hv, dval_all a k (by omega), dval_all b k (by omega)]
    have hover : y = 1 → k ≤ n := fun h1 => by
      apply Decidable.byContradiction
      intro h
      have h2 := hfin (by omega)
      have h3 := dval_take_lt HD.out.1 n
      have h4 := dval_take_lt HD.out.2 n
      rw [dval_all a n (by omega)] at h3
      rw [dval_all b n (by omega)] at h4
      rw [h1, show k = n + 1 by omega, Nat.pow_succ] at h2
      omega
    obtain ⟨x, hx⟩ : ∃ x, x = dg a k := ⟨_, rfl⟩
    obtain ⟨z, hz⟩ : ∃ x, x = dg b k := ⟨_, rfl⟩
    rw [← hx] at hxx ba
    rw [← hz] at hyy bb
    have hs2 : (((x : Int) + (z : Int) + (y : Int))).tmod 10 = (((x + z + y) % 10 : Nat) : Int) := by rw [Int.tmod_eq_emod_of_nonneg (by omega)]; omega
    have hs3 : (((x : Int) + (z : Int) + (y : Int))).tdiv 10 = (((x + z + y) / 10 : Nat) : Int) := by rw [Int.tdiv_eq_ediv_of_nonneg (by omega)]; omega
    have HX := hide hxx
    have HY := hide hyy
    have HO := hide hown
    have HL := hide hbl
    have HV := hide hv
    have HF := hide hfin
    have HDS := hide (And.intro hl hd)
    have HXZ := hide (And.intro hx hz)
    clear hxx hyy hown hbl hv hfin hl hd hx hz
    by_cases hk1 : k < n
    · clear hover
      go_wp2_with (first
          | ((with_reducible refine HX.out.mono ?_); rintro e w1 ⟨rfl, rfl⟩)
          | ((with_reducible refine HY.out.mono ?_); rintro e w1 ⟨rfl, rfl⟩)
          | (at_builtin
             refine wpList_append_any _ rfl (.tmp 32) (.tmp 35) _ rfl (w.heap.size) 3 i0 _ 1 8 Tryd.underlying41 hi0 hz0 hz1 hz2 rfl (by omega) (.slice A1 k cp) k (nums ds) rfl (HO.out.allocD _) (wr.heap.size + 1) (some ⟨wr.heap.size, 0, none⟩) 1 1 (nums [((x + z + y) % 10)]) rfl (readsD1 wr ((x + z + y) % 10)) (nums_one _) (by simp only [maxLen]; omega) (by omega) (by have := HL.out.size; simp; omega) ?_
             intro v1 w1 hown1 hg1 hat1
             obtain ⟨A1, k1, rfl⟩ := own_formD hown1
             have HO1 := hide hown1
             have HB1 := hide (belowD1 HL.out (HO.out.allocD _) hg1)
             clear hown1 hg1 hat1))
      go_roundw
      case rel => exact PlusRel.push (y := y) (k := k) (ds := ds) (by rw [← HXZ.out.1, ← HXZ.out.2]; exact HO1.out) HDS.out.1 HDS.out.2 (by rw [← HXZ.out.1]; exact ba) (by rw [← HXZ.out.2]; exact bb) hy (by omega) HV.out HB1.out rfl (by rw [← HXZ.out.1, ← HXZ.out.2]; rfl) (by go_num)
      case measure => simp [intOf]; omega
    · have hy01 : y = 0 ∨ y = 1 := by omega
      rcases hy01 with rfl | rfl
      · clear hover
        go_wp2_with fail
        go_ret
        exact ⟨A1, k, cp, ds, rfl, Dg.own HDS.out.1 HO.out, HDS.out.2, hk, own_capD HO.out, by have := HF.out (by omega); omega, HL.out⟩
      · have hk2 := hover rfl
        clear hover
        go_wp2_with (first
          | ((with_reducible refine HX.out.mono ?_); rintro e w1 ⟨rfl, rfl⟩)
          | ((with_reducible refine HY.out.mono ?_); rintro e w1 ⟨rfl, rfl⟩)
          | (at_builtin
             refine wpList_append_any _ rfl (.tmp 32) (.tmp 35) _ rfl (w.heap.size) 3 i0 _ 1 8 Tryd.underlying41 hi0 hz0 hz1 hz2 rfl (by omega) (.slice A1 k cp) k (nums ds) rfl (HO.out.allocD _) (wr.heap.size + 1) (some ⟨wr.heap.size, 0, none⟩) 1 1 (nums [((x + z + 1) % 10)]) rfl (readsD1 wr ((x + z + 1) % 10)) (nums_one _) (by simp only [maxLen]; omega) (by omega) (by have := HL.out.size; simp; omega) ?_
             intro v1 w1 hown1 hg1 hat1
             obtain ⟨A1, k1, rfl⟩ := own_formD hown1
             have HO1 := hide hown1
             have HB1 := hide (belowD1 HL.out (HO.out.allocD _) hg1)
             clear hown1 hg1 hat1))
        go_roundw
        case rel => exact PlusRel.push (y := 1) (k := k) (ds := ds) (by rw [← HXZ.out.1, ← HXZ.out.2]; exact HO1.out) HDS.out.1 HDS.out.2 (by rw [← HXZ.out.1]; exact ba) (by rw [← HXZ.out.2]; exact bb) hy (by omega) HV.out HB1.out rfl (by rw [← HXZ.out.1, ← HXZ.out.2]; rfl) (by go_num)
        case measure => simp [intOf]; omega

end Go.Proofs.YtgleldpdelhhhaaDoor
