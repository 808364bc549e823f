/- The reference's rows of digits: what plus and minus answer; conditions: the digits' cells are in memory. -/
import Derived.Test.YtgleldpdelhhhaaDoorDig2
namespace Go.Proofs.YtgleldpdelhhhaaDoor
open Go.RowKit Go.WideShapes Go.ChangeShapes
set_option linter.unusedVariables false
set_option maxRecDepth 100000

/-- A call's answer is digits of a number. -/
def Digs (w : World) (most v : Nat) (e : Ending) (w' : World) : Prop :=
  ∃ A k cp ds, e = .returned (.slice A k cp) ∧ Dg w' A k ds ∧ DOk ds ∧ k ≤ most ∧ k ≤ cp ∧ dval ds = v ∧ Below w.heap.size w w'

/-- .., in memory of its own. -/
def DigsF (w : World) (most v : Nat) (e : Ending) (w' : World) : Prop :=
  ∃ A k cp ds, e = .returned (.slice A k cp) ∧ Dg w' A k ds ∧ DOk ds ∧ k ≤ most ∧ k ≤ cp ∧ dval ds = v ∧ Below w.heap.size w w' ∧ ∀ b off sp, A = some ⟨b, off, sp⟩ → w.heap.size ≤ b
theorem DigsF.digs {w w' : World} {most v : Nat} {e : Ending} (h : DigsF w most v e w') : Digs w most v e w' := by
  obtain ⟨A, k, cp, ds, h1, h2, h3, h4, h5, h6, h7, _⟩ := h
  exact ⟨A, k, cp, ds, h1, h2, h3, h4, h5, h6, h7⟩
theorem own_fresh {w : World} {B e s n c : Nat} {A : Option Addr} {xs : List Value} (h : w.ownsRow B e s (.slice A n c) n xs) : ∀ b off sp, A = some ⟨b, off, sp⟩ → B ≤ b := by
  intro b off sp hA
  subst hA
  exact (h.lt b rfl).1

theorem plus_any {w : World} {n m c c' : Nat} {A A' : Option Addr} {a b : List Nat} (ha : Dg w A n a) (hb : Dg w A' m b) (da : DOk a) (db : DOk b) (hn : n ≤ 1100) (hm : m ≤ 1100) :
    Calls Tryd.prog 43 #[.slice A n c, .slice A' m c'] w (Digs w (max n m + 1) (dval a + dval b)) := by
  by_cases hnm : n < m
  · refine (plus_a ha hb da db hn hm hnm (c := c) (c' := c')).mono ?_
    rintro e w' ⟨A, k, cp, ds, h1, h2, h3, h4, h5, h6, h7⟩
    exact ⟨A, k, cp, ds, h1, h2, h3, by omega, h5, h6, h7⟩
  · refine (plus_b ha hb da db hn hm hnm (c := c) (c' := c')).mono ?_
    rintro e w' ⟨A, k, cp, ds, h1, h2, h3, h4, h5, h6, h7⟩
    exact ⟨A, k, cp, ds, h1, h2, h3, by omega, h5, h6, h7⟩

def MinusRel (w : World) (a b : List Nat) (n : Nat) (o cy i : Value) (wr : World) : Prop :=
  ∃ (k y cp : Nat) (A : Option Addr) (ds : List Nat), o = .slice A k cp ∧ cy = .int .i64 y ∧ i = .int .i64 k ∧ wr.ownsRow w.heap.size 3 1 (.slice A k cp) k (nums ds) ∧ ds.length = k ∧ DOk ds ∧ y ≤ 1 ∧ k ≤ n ∧ dval ds + dval (b.take k) = dval (a.take k) + y * 10 ^ k ∧ Below w.heap.size w wr
theorem MinusRel.push {w : World} {a b : List Nat} {n k y d y' : Nat} {ds : List Nat} {A1 : Option Addr} {c1 : Nat} {w1 : World} {o cy i : Value} (ho : w1.ownsRow w.heap.size 3 1 (.slice A1 (k + 1) c1) (k + 1) (nums ds ++ nums [d])) (hl : ds.length = k) (hd : DOk ds) (hdd : d < 10) (hs : d + dg b k + y = dg a k + 10 * y') (hy : y' ≤ 1) (hk : k + 1 ≤ n)
    (hv : dval ds + dval (b.take k) = dval (a.take k) + y * 10 ^ k) (hbl : Below w.heap.size w w1) (h1 : o = .slice A1 (k + 1) c1) (h2 : cy = .int .i64 (y' : Int)) (h3 : i = .int .i64 ((k + 1 : Nat) : Int)) : MinusRel w a b n o cy i w1 := by
  refine ⟨k + 1, y', c1, A1, ds ++ [d], h1, h2, h3, ?_, by simp [hl], hd.push hdd, hy, hk, ?_, hbl⟩
  · unfold nums at ho ⊢
    rw [List.map_append]
    exact ho
  · rw [dval_append, dg_take, dg_take, hl, Nat.pow_succ]
    simp only [dval, Nat.mul_zero, Nat.add_zero]
    have e2 : 10 ^ k * (d + dg b k + y) = 10 ^ k * (dg a k + 10 * y') := by rw [hs]
    rw [Nat.mul_add, Nat.mul_add, Nat.mul_add] at e2
    rw [Nat.mul_comm (dg a k), Nat.mul_comm (dg b k)]
    rw [Nat.mul_comm y] at hv
    have e3 : y' * (10 ^ k * 10) = 10 ^ k * (10 * y') := by rw [Nat.mul_comm y', Nat.mul_assoc]
    omega

set_option maxHeartbeats 4000000 in
theorem minus_fresh {w : World} {n m c c' : Nat} {A A' : Option Addr} {a b : List Nat} (ha : Dg w A n a) (hb : Dg w A' m b) (da : DOk a) (db : DOk b) (hn : n ≤ 1100) (hm : m ≤ 1100) (hle : dval b ≤ dval a) :
    Calls Tryd.prog 42 #[.slice A n c, .slice A' m c'] w (DigsF w n (dval a - dval b)) := by
  have hla := ha.1
  have hlb := hb.1
  have HA := hide ha
  have HB := hide hb
  have HD := hide (And.intro da db)
  have HLE := hide hle
  clear ha hb da db hle
  obtain ⟨i0, hi0, hz0, hz1, hz2⟩ := info_parts intInfoD
  go_enter Tryd.func42, Tryd.ntmps42
  go_wp2_with fail
  go_loopw [5, 6, 7] (fun o cy i wr => MinusRel w a b n o cy i wr) (fun _ _ i _ => n - (intOf i).toNat)
  case atStart => exact ⟨0, 0, 0, _, [], rfl, rfl, rfl, World.ownsRow_made _ #[] 0 (Nat.le_refl _) (by simp [maxLen]) (by simp), rfl, DOk.nil, by omega, by omega, by simp [dval], (Below.refl _ _).alloc (Nat.le_refl _) _⟩
  case round =>
    obtain ⟨k, y, cp, A1, ds, rfl, rfl, rfl, hown, hl, hd, hy, hk, hv, hbl⟩ := hrel
    have hxx := at_any (HA.out.below hbl) (by omega) k (by omega) (c := c)
    have hyy := at_any (HB.out.below hbl) (by omega) k (by omega) (c := c')
    have ba := HD.out.1.dg k
    have bb := HD.out.2.dg k
    obtain ⟨x, hx⟩ : ∃ x, x = dg a k := ⟨_, rfl⟩
    obtain ⟨z, hz⟩ : ∃ x, x = dg b k := ⟨_, rfl⟩
    rw [← hx] at hxx ba
    rw [← hz] at hyy bb
    have HX := hide hxx
    have HY := hide hyy
    have HO := hide hown
    have HL := hide hbl
    have HV := hide hv
    have HDS := hide (And.intro hl hd)
    have HXZ := hide (And.intro hx hz)
    clear hxx hyy hown hbl hv hl hd hx hz
    by_cases hk1 : k < n
    · by_cases hneg : (x : Int) - (z : Int) - (y : Int) < 0
      · have hs2 : (x : Int) - (z : Int) - (y : Int) + 10 = ((x + 10 - z - y : Nat) : Int) := by omega
        go_wp2_with (first
          | ((with_reducible refine HX.out.mono ?_); rintro e w1 ⟨rfl, rfl⟩)
          | ((with_reducible refine HY.out.mono ?_); rintro e w1 ⟨rfl, rfl⟩)
          | (at_builtin
             refine wpList_append_any _ rfl (.tmp 29) (.tmp 31) _ rfl (w.heap.size) 3 i0 _ 1 8 Tryd.underlying41 hi0 hz0 hz1 hz2 rfl (by omega) (.slice A1 k cp) k (nums ds) rfl (HO.out.allocD _) (wr.heap.size + 1) (some ⟨wr.heap.size, 0, none⟩) 1 1 (nums [(x + 10 - z - y)]) rfl (readsD1 wr (x + 10 - z - y)) (nums_one _) (by simp only [maxLen]; omega) (by omega) (by have := HL.out.size; simp; omega) ?_
             intro v1 w1 hown1 hg1 hat1
             obtain ⟨A1, k1, rfl⟩ := own_formD hown1
             have HO1 := hide hown1
             have HB1 := hide (belowD1 HL.out (HO.out.allocD _) hg1)
             clear hown1 hg1 hat1))
        go_roundw
        case rel => exact MinusRel.push (y := y) (k := k) (ds := ds) (y' := 1) HO1.out HDS.out.1 HDS.out.2 (by omega) (by rw [← HXZ.out.1, ← HXZ.out.2]; omega) (by omega) (by omega) HV.out HB1.out rfl rfl (by go_num)
        case measure => simp [intOf]; omega
      · have hs2 : (x : Int) - (z : Int) - (y : Int) = ((x - z - y : Nat) : Int) := by omega
        go_wp2_with (first
          | ((with_reducible refine HX.out.mono ?_); rintro e w1 ⟨rfl, rfl⟩)
          | ((with_reducible refine HY.out.mono ?_); rintro e w1 ⟨rfl, rfl⟩)
          | (at_builtin
             refine wpList_append_any _ rfl (.tmp 29) (.tmp 31) _ rfl (w.heap.size) 3 i0 _ 1 8 Tryd.underlying41 hi0 hz0 hz1 hz2 rfl (by omega) (.slice A1 k cp) k (nums ds) rfl (HO.out.allocD _) (wr.heap.size + 1) (some ⟨wr.heap.size, 0, none⟩) 1 1 (nums [(x - z - y)]) rfl (readsD1 wr (x - z - y)) (nums_one _) (by simp only [maxLen]; omega) (by omega) (by have := HL.out.size; simp; omega) ?_
             intro v1 w1 hown1 hg1 hat1
             obtain ⟨A1, k1, rfl⟩ := own_formD hown1
             have HO1 := hide hown1
             have HB1 := hide (belowD1 HL.out (HO.out.allocD _) hg1)
             clear hown1 hg1 hat1))
        go_roundw
        case rel => exact MinusRel.push (y := y) (k := k) (ds := ds) (y' := 0) HO1.out HDS.out.1 HDS.out.2 (by omega) (by rw [← HXZ.out.1, ← HXZ.out.2]; omega) (by omega) (by omega) HV.out HB1.out rfl rfl (by go_num)
        case measure => simp [intOf]; omega
    · obtain rfl : k = n := by omega
      go_wp2_with fail
      go_ret
      refine ⟨A1, k, cp, ds, rfl, Dg.own HDS.out.1 HO.out, HDS.out.2, Nat.le_refl _, own_capD HO.out, ?_, HL.out, own_fresh HO.out⟩
      have h1 := HV.out
      have h2 := HLE.out
      have h3 := dval_lt HDS.out.2
      rw [HDS.out.1] at h3
      rw [dval_all a k (by omega)] at h1
      have h4 := dval_split' b k
      have h5 := dval_take_lt HD.out.1 k
      rw [dval_all a k (by omega)] at h5
      have h6 : dval (b.drop k) = 0 := by
        apply Decidable.byContradiction
        intro h
        have : 10 ^ k * 1 ≤ 10 ^ k * dval (b.drop k) := Nat.mul_le_mul_left _ (by omega)
        omega
      rw [h6, Nat.mul_zero, Nat.add_zero] at h4
      rw [← h4] at h1
      have hy01 : y = 0 ∨ y = 1 := by omega
      rcases hy01 with rfl | rfl <;> omega
theorem minus_any {w : World} {n m c c' : Nat} {A A' : Option Addr} {a b : List Nat} (ha : Dg w A n a) (hb : Dg w A' m b) (da : DOk a) (db : DOk b) (hn : n ≤ 1100) (hm : m ≤ 1100) (hle : dval b ≤ dval a) :
    Calls Tryd.prog 42 #[.slice A n c, .slice A' m c'] w (Digs w n (dval a - dval b)) := (minus_fresh ha hb da db hn hm hle).mono fun _ _ h => h.digs
end Go.Proofs.YtgleldpdelhhhaaDoor
