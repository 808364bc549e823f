/- Package wide: bit, times; conditions: none but that numbers are of 64 bits. -/
import Derived.Test.YtgleldpdelhhhaaDoorWide2
namespace Go.Proofs.YtgleldpdelhhhaaDoor
open Go.RowKit Go.WideShapes Go.ChangeShapes
set_option linter.unusedVariables false
set_option maxRecDepth 100000

theorem blk_new3 (w : World) {t : TypeId} (c0 c1 c2 : Array Value) : Blk (((w.alloc (.cells c0 t)).alloc (.cells c1 t)).alloc (.cells c2 t)) (w.heap.size + 2) t c2 := by
  have h := Blk.new ((w.alloc (.cells c0 t)).alloc (.cells c1 t)) t c2
  simpa using h
theorem below3 (w : World) (o o' o'' : Obj) : Below w.heap.size w (((w.alloc o).alloc o').alloc o'') := (below2 w o o').alloc (by simp; omega) o''

set_option maxHeartbeats 1000000 in
theorem times_over_any (ah al bh bl : Int) (h1 : ¬ ah = 0) (h2 : ¬ bh = 0) (w : World) :
    Calls Tryd.prog 59 #[wv ah al, wv bh bl] w fun e w' => e = .returned (.tuple #[wv 0 0, .bool false]) ∧ Below w.heap.size w w' := by
  have g1 : (ah != 0) = true := bne_iff_ne.2 h1
  have g2 : (bh != 0) = true := bne_iff_ne.2 h2
  clear h1 h2
  go_enter Tryd.func59, Tryd.ntmps59
  go_wp2_with fail
  exact ret_wt (v := .bool false) rfl rfl rfl rfl (blk_new3 _ _ _ _) ⟨rfl, below3 _ _ _ _⟩

def MulIs (x y p q : Int) : Prop := ∀ W, Calls Tryd.prog 79 #[.int .u64 x, .int .u64 y] W fun e w' => e = .returned (.tuple #[.int .u64 p, .int .u64 q]) ∧ w' = W
def AddIs (x y p q : Int) : Prop := ∀ W, (callFunc 60 #[.int .u64 x, .int .u64 y, .int .u64 0]).run Tryd.prog W = .ok (.value (.tuple #[.int .u64 p, .int .u64 q])) W

set_option maxHeartbeats 2000000 in
theorem times_walk (ah al bh bl hi0 lo0 ov1 cr1 ov2 cr2 r1 k1 r2 k2 o1 o2 o3 : Int) (ft : Bool) (hz : ah = 0 ∨ bh = 0) (m0 : MulIs al bl hi0 lo0) (m1 : MulIs ah bl ov1 cr1) (m2 : MulIs al bh ov2 cr2)
    (a1 : AddIs hi0 cr1 r1 k1) (a2 : AddIs r1 cr2 r2 k2) (e1 : bits .or .u64 ov1 ov2 = o1) (e2 : bits .or .u64 o1 k1 = o2) (e3 : bits .or .u64 o2 k2 = o3) (hf : (o3 == 0) = ft) (w : World) :
    Calls Tryd.prog 59 #[wv ah al, wv bh bl] w fun e w' => e = .returned (.tuple #[wv r2 lo0, .bool ft]) ∧ Below w.heap.size w w' := by
  have M0 := hide m0
  have M1 := hide m1
  have M2 := hide m2
  unfold AddIs at a1 a2
  clear m0 m1 m2
  by_cases ha : ah = 0
  · subst ha
    clear hz
    go_enter Tryd.func59, Tryd.ntmps59
    go_wp2_with fail
    refine (M0.out _).mono ?_
    rintro e w' ⟨rfl, rfl⟩
    go_wp2_with fail
    refine (M1.out _).mono ?_
    rintro e w' ⟨rfl, rfl⟩
    go_wp2_with fail
    refine (M2.out _).mono ?_
    rintro e w' ⟨rfl, rfl⟩
    go_wp2_with fail
    exact ret_wt (v := .bool ft) rfl rfl rfl rfl (blk_new3 _ _ _ _) ⟨rfl, below3 _ _ _ _⟩
  · obtain rfl : bh = 0 := hz.resolve_left ha
    have g1 : (ah != 0) = true := bne_iff_ne.2 ha
    clear hz ha
    go_enter Tryd.func59, Tryd.ntmps59
    go_wp2_with fail
    refine (M0.out _).mono ?_
    rintro e w' ⟨rfl, rfl⟩
    go_wp2_with fail
    refine (M1.out _).mono ?_
    rintro e w' ⟨rfl, rfl⟩
    go_wp2_with fail
    refine (M2.out _).mono ?_
    rintro e w' ⟨rfl, rfl⟩
    go_wp2_with fail
    exact ret_wt (v := .bool ft) rfl rfl rfl rfl (blk_new3 _ _ _ _) ⟨rfl, below3 _ _ _ _⟩

theorem mulIs {x y : Int} (hx : Word x) (hy : Word y) : MulIs x y (x * y / 18446744073709551616) (x * y % 18446744073709551616) := fun W => mul64 x y hx.1 hx.2 hy.1 hy.2 W
theorem addIs {x y : Int} (hx : Word x) (hy : Word y) : AddIs x y ((x + y) % 18446744073709551616) ((x + y) / 18446744073709551616) := fun W => add64_0 x y hx.1 hy.1 W
theorem mod_word (x : Int) : Word (x % 18446744073709551616) := by unfold Word; omega
theorem div_word {x y : Int} (hx : Word x) (hy : Word y) : Word (x * y / 18446744073709551616) := by
  have h0 := Int.mul_nonneg hx.1 hy.1
  have h1 : x * y ≤ 18446744073709551615 * 18446744073709551615 := Int.mul_le_mul (by have := hx.2; omega) (by have := hy.2; omega) hy.1 (by decide)
  unfold Word; omega
theorem sum_word {x y : Int} (hx : Word x) (hy : Word y) : Word ((x + y) / 18446744073709551616) := by unfold Word at *; omega

/-- The words that times answers. -/
def timesP (m n : Int) : Int := if hiW m = 0 ∨ hiW n = 0 then ((loW m * loW n / 18446744073709551616 + hiW m * loW n % 18446744073709551616) % 18446744073709551616 + loW m * hiW n % 18446744073709551616) % 18446744073709551616 else 0
def timesQ (m n : Int) : Int := if hiW m = 0 ∨ hiW n = 0 then loW m * loW n % 18446744073709551616 else 0
def timesB (m n : Int) : Bool := decide (m * n < 340282366920938463463374607431768211456)
theorem timesP_word (m n : Int) : Word (timesP m n) := by unfold timesP; split; exact mod_word _; exact ⟨by decide, by decide⟩
theorem timesQ_word (m n : Int) : Word (timesQ m n) := by unfold timesQ; split; exact mod_word _; exact ⟨by decide, by decide⟩
theorem times_is {m n : Int} (hm : Big m) (hn : Big n) (h : m * n < 340282366920938463463374607431768211456) : timesP m n = hiW (m * n) ∧ timesQ m n = loW (m * n) := by
  by_cases hz : hiW m = 0 ∨ hiW n = 0
  · unfold timesP timesQ
    rw [if_pos hz, if_pos hz]
    exact (times_fits hm hn hz rfl rfl rfl).2 h
  · exact absurd h (times_over hm hn (fun e => hz (.inl e)) (fun e => hz (.inr e)))
/-- The product of two sizes: what it is, and whether it fits. -/
theorem times_any (m n : Int) (hm : Big m) (hn : Big n) (w : World) :
    Calls Tryd.prog 59 #[wv (hiW m) (loW m), wv (hiW n) (loW n)] w fun e w' => e = .returned (.tuple #[wv (timesP m n) (timesQ m n), .bool (timesB m n)]) ∧ Below w.heap.size w w' := by
  by_cases hz : hiW m = 0 ∨ hiW n = 0
  · have h := times_fits hm hn hz rfl rfl rfl
    have wm := hiW_word m
    have wm' := loW_word m
    have wn := hiW_word n
    have wn' := loW_word n
    have o1 := or_zero (div_word wm wn') (div_word wm' wn)
    have o2 := or_zero o1.1 (sum_word (div_word wm' wn') (mod_word (hiW m * loW n)))
    have o3 := or_zero o2.1 (sum_word (mod_word (loW m * loW n / 18446744073709551616 + hiW m * loW n % 18446744073709551616)) (mod_word (loW m * hiW n)))
    have hft := o3.2.trans (and_congr (o2.2.trans (and_congr o1.2 Iff.rfl)) Iff.rfl)
    have hft2 : (bits .or .u64 (bits .or .u64 (bits .or .u64 (hiW m * loW n / 18446744073709551616) (loW m * hiW n / 18446744073709551616)) ((loW m * loW n / 18446744073709551616 + hiW m * loW n % 18446744073709551616) / 18446744073709551616))
        (((loW m * loW n / 18446744073709551616 + hiW m * loW n % 18446744073709551616) % 18446744073709551616 + loW m * hiW n % 18446744073709551616) / 18446744073709551616) == 0) = timesB m n := by
      unfold timesB
      apply Bool.eq_iff_iff.2
      rw [beq_iff_eq, hft, decide_eq_true_eq, h.1]
      exact ⟨fun ⟨⟨⟨a, b⟩, c⟩, d⟩ => ⟨a, b, c, d⟩, fun ⟨a, b, c, d⟩ => ⟨⟨⟨a, b⟩, c⟩, d⟩⟩
    have hw := times_walk _ _ _ _ _ _ _ _ _ _ _ _ _ _ _ _ _ _ hz (mulIs wm' wn') (mulIs wm wn') (mulIs wm' wn) (addIs (div_word wm' wn') (mod_word _)) (addIs (mod_word _) (mod_word _)) rfl rfl rfl hft2 w
    unfold timesP timesQ
    rw [if_pos hz, if_pos hz]
    exact hw
  · have h1 : ¬ hiW m = 0 := fun e => hz (.inl e)
    have h2 : ¬ hiW n = 0 := fun e => hz (.inr e)
    have hw := times_over_any _ (loW m) _ (loW n) h1 h2 w
    unfold timesP timesQ timesB
    rw [if_neg hz, if_neg hz, decide_eq_false (times_over hm hn h1 h2)]
    exact hw

theorem bit_hi (h l : Int) (i : Int) (hh : Word h) (h1 : 64 ≤ i) (h2 : i < 128) (w : World) :
    Calls Tryd.prog 81 #[wv h l, .int .i64 i] w fun e w' => e = .returned (.int .u64 (h / 2 ^ (i - 64).toNat % 2)) ∧ Below w.heap.size w w' := by
  have hp : (0 : Int) < 2 ^ (i - 64).toNat := Int.pow_pos (by decide)
  have h0 : 0 ≤ h / 2 ^ (i - 64).toNat := Int.ediv_nonneg hh.1 (Int.le_of_lt hp)
  have h3 : h / 2 ^ (i - 64).toNat ≤ h := Int.ediv_le_self _ hh.1
  have HA := hide (and_one_u64 (h / 2 ^ (i - 64).toNat) h0 (by have := hh.2; omega))
  clear hp h0 h3 hh
  go_enter Tryd.func81, Tryd.ntmps81
  go_wp2_with fail
  go_ret
  exact ⟨congrArg (fun z => Ending.returned (.int .u64 z)) HA.out, (Below.refl _ _).alloc (Nat.le_refl _) _⟩
theorem bit_lo (h l : Int) (i : Int) (hl : Word l) (h1 : 0 ≤ i) (h2 : i < 64) (w : World) :
    Calls Tryd.prog 81 #[wv h l, .int .i64 i] w fun e w' => e = .returned (.int .u64 (l / 2 ^ i.toNat % 2)) ∧ Below w.heap.size w w' := by
  have hp : (0 : Int) < 2 ^ i.toNat := Int.pow_pos (by decide)
  have h0 : 0 ≤ l / 2 ^ i.toNat := Int.ediv_nonneg hl.1 (Int.le_of_lt hp)
  have h3 : l / 2 ^ i.toNat ≤ l := Int.ediv_le_self _ hl.1
  have HA := hide (and_one_u64 (l / 2 ^ i.toNat) h0 (by have := hl.2; omega))
  clear hp h0 h3 hl
  go_enter Tryd.func81, Tryd.ntmps81
  go_wp2_with fail
  go_ret
  exact ⟨congrArg (fun z => Ending.returned (.int .u64 z)) HA.out, (Below.refl _ _).alloc (Nat.le_refl _) _⟩
/-- The bit k of a size. -/
theorem bit_any (m : Int) (k : Nat) (hm : Big m) (hk : k < 128) (w : World) :
    Calls Tryd.prog 81 #[wv (hiW m) (loW m), .int .i64 k] w fun e w' => e = .returned (.int .u64 (bitW m k)) ∧ Below w.heap.size w w' := by
  by_cases h : 64 ≤ k
  · have e := bit_hi (hiW m) (loW m) k (hiW_word m) (by omega) (by omega) w
    rw [show ((k : Int) - 64).toNat = k - 64 by omega, bitW_hi hm h hk] at e
    exact e
  · have e := bit_lo (hiW m) (loW m) k (loW_word m) (by omega) (by omega) w
    rw [show ((k : Int)).toNat = k by omega, bitW_lo (by omega)] at e
    exact e
end Go.Proofs.YtgleldpdelhhhaaDoor
