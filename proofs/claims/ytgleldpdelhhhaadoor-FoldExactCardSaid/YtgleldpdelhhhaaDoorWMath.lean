/- Whole numbers of 128 bits as two words; sums, products, quotients bit by bit, decimal digits; no conditions. -/
import Derived.WalkSmall
namespace Go.Proofs.YtgleldpdelhhhaaDoor
set_option linter.unusedVariables false
set_option maxRecDepth 100000

/-! ### numbers -/
def hiW (x : Int) : Int := (x / 18446744073709551616) % 18446744073709551616
def loW (x : Int) : Int := x % 18446744073709551616
def Fits (x : Int) : Prop := -170141183460469231731687303715884105728 ≤ x ∧ x < 170141183460469231731687303715884105728
instance (x : Int) : Decidable (Fits x) := inferInstanceAs (Decidable (_ ∧ _))
def Word (x : Int) : Prop := 0 ≤ x ∧ x < 18446744073709551616
/-- A size: a number without sign of 128 bits. -/
def Big (x : Int) : Prop := 0 ≤ x ∧ x < 340282366920938463463374607431768211456
theorem hiW_word (x : Int) : Word (hiW x) := by unfold Word hiW; omega
theorem loW_word (x : Int) : Word (loW x) := by unfold Word loW; omega
/-- Which number two words are. -/
def numW (h l : Int) : Int := (if h < 9223372036854775808 then h else h - 18446744073709551616) * 18446744073709551616 + l
theorem numW_fits {h l : Int} (hh : Word h) (hl : Word l) : Fits (numW h l) := by
  unfold Word at hh hl; unfold Fits numW; split <;> omega
theorem hiW_num {h l : Int} (hh : Word h) (hl : Word l) : hiW (numW h l) = h := by
  unfold Word at hh hl; unfold hiW numW; split <;> omega
theorem loW_num {h l : Int} (hh : Word h) (hl : Word l) : loW (numW h l) = l := by
  unfold Word at hh hl; unfold loW numW; split <;> omega
theorem num_of {x : Int} (hx : Fits x) : numW (hiW x) (loW x) = x := by
  unfold Fits at hx; unfold numW hiW loW; split <;> omega
theorem wv_inj {x y : Int} (hx : Fits x) (hy : Fits y) (h1 : hiW x = hiW y) (h2 : loW x = loW y) : x = y := by
  rw [← num_of hx, ← num_of hy, h1, h2]
theorem big_of {x : Int} (hx : Big x) : hiW x * 18446744073709551616 + loW x = x := by
  unfold Big at hx; unfold hiW loW; omega
theorem hiW_eq {x : Int} (hx : Big x) : hiW x = x / 18446744073709551616 := by unfold Big at hx; unfold hiW; omega
theorem neg_iff {x : Int} (hx : Fits x) : 9223372036854775808 ≤ hiW x ↔ x < 0 := by
  unfold Fits at hx; unfold hiW; omega
def absW (x : Int) : Int := if x < 0 then -x else x
theorem absW_big {x : Int} (hx : Fits x) : Big (absW x) := by unfold Fits at hx; unfold Big absW; split <;> omega

/-! ### sums of words -/
theorem turned_words {h l : Int} (hh : Word h) (hl : Word l) : (18446744073709551615 - l + 1) % 18446744073709551616 = loW (-numW h l) ∧
    (18446744073709551615 - h + (18446744073709551615 - l + 1) / 18446744073709551616) % 18446744073709551616 = hiW (-numW h l) := by
  unfold Word at hh hl; unfold hiW loW numW; split <;> constructor <;> omega
theorem add_words (x y : Int) : (loW x + loW y) % 18446744073709551616 = loW (x + y) ∧ (hiW x + hiW y + (loW x + loW y) / 18446744073709551616) % 18446744073709551616 = hiW (x + y) := by
  unfold hiW loW; constructor <;> omega
def bor (x y : Int) : Int := if x < y then 1 else 0
theorem bor_01 (x y : Int) : 0 ≤ bor x y ∧ bor x y ≤ 1 := by unfold bor; split <;> omega
theorem sub_words (x y : Int) : (loW x - loW y) % 18446744073709551616 = loW (x - y) ∧ (hiW x - hiW y - bor (loW x) (loW y)) % 18446744073709551616 = hiW (x - y) := by
  unfold hiW loW bor; constructor <;> (try split) <;> omega
theorem sub_borrow {x y : Int} (hx : Big x) (hy : Big y) : bor (hiW x) (hiW y + bor (loW x) (loW y)) = if x < y then 1 else 0 := by
  unfold Big at hx hy; unfold hiW loW bor; split <;> split <;> (try split) <;> omega

theorem neg_num (n : Int) : hiW (-numW (hiW n) (loW n)) = hiW (-n) ∧ loW (-numW (hiW n) (loW n)) = loW (-n) := by
  unfold numW hiW loW; split <;> constructor <;> omega
theorem signed_zero {n : Int} (hn : Big n) (s : Bool) (ha : hiW (if s = true then -n else n) = 0) (hb : loW (if s = true then -n else n) = 0) : Fits (if s = true then -n else n) := by
  unfold Big at hn; unfold hiW at ha; unfold loW at hb; unfold Fits
  cases s <;> simp only [if_true, if_false, Bool.false_eq_true] at * <;> omega
theorem signed_fits {n : Int} (hn : Big n) (s : Bool) (h : ¬(hiW (if s = true then -n else n) = 0 ∧ loW (if s = true then -n else n) = 0)) :
    Fits (if s = true then -n else n) ↔ decide (9223372036854775808 ≤ hiW (if s = true then -n else n)) = s := by
  unfold Big at hn; unfold hiW loW at h; unfold Fits hiW
  cases s <;> simp only [if_true, if_false, Bool.false_eq_true, decide_eq_true_eq, decide_eq_false_iff_not] at * <;> omega

/-! ### products -/
theorem times_words {m n : Int} (hm : Big m) (hn : Big n) (hz : hiW m = 0 ∨ hiW n = 0) :
    m * n = (hiW m * loW n + loW m * hiW n) * 18446744073709551616 + loW m * loW n := by
  have e1 := big_of hm
  have e2 := big_of hn
  have h3 : hiW m * hiW n = 0 := by rcases hz with h | h <;> simp [h]
  calc m * n = (hiW m * 18446744073709551616 + loW m) * (hiW n * 18446744073709551616 + loW n) := by rw [e1, e2]
    _ = (hiW m * hiW n) * 340282366920938463463374607431768211456 + (hiW m * loW n + loW m * hiW n) * 18446744073709551616 + loW m * loW n := by simp only [Int.mul_add, Int.add_mul, Int.mul_assoc, Int.mul_comm, Int.mul_left_comm]; omega
    _ = _ := by rw [h3]; omega

theorem mul_le_word {x y : Int} (hx : Word x) (hy : Word y) : 0 ≤ x * y := Int.mul_nonneg hx.1 hy.1
/-- The words of a product of sizes, and whether it fits, of the products of words. -/
theorem times_fits {m n : Int} (hm : Big m) (hn : Big n) (hz : hiW m = 0 ∨ hiW n = 0) {p c1 c2 : Int} (hp : p = loW m * loW n) (h1 : c1 = hiW m * loW n) (h2 : c2 = loW m * hiW n) :
    (m * n < 340282366920938463463374607431768211456 ↔ c1 / 18446744073709551616 = 0 ∧ c2 / 18446744073709551616 = 0 ∧ (p / 18446744073709551616 + c1 % 18446744073709551616) / 18446744073709551616 = 0 ∧
      ((p / 18446744073709551616 + c1 % 18446744073709551616) % 18446744073709551616 + c2 % 18446744073709551616) / 18446744073709551616 = 0) ∧
    (m * n < 340282366920938463463374607431768211456 → ((p / 18446744073709551616 + c1 % 18446744073709551616) % 18446744073709551616 + c2 % 18446744073709551616) % 18446744073709551616 = hiW (m * n) ∧ p % 18446744073709551616 = loW (m * n)) := by
  have e := times_words hm hn hz
  have q0 : 0 ≤ p := by rw [hp]; exact mul_le_word (loW_word m) (loW_word n)
  have q1 : 0 ≤ c1 := by rw [h1]; exact mul_le_word (hiW_word m) (loW_word n)
  have q2 : 0 ≤ c2 := by rw [h2]; exact mul_le_word (loW_word m) (hiW_word n)
  rw [← hp, ← h1, ← h2] at e
  generalize m * n = t at *
  clear hp h1 h2 hz hm hn
  unfold hiW loW
  constructor
  · constructor
    · intro h
      refine ⟨?_, ?_, ?_, ?_⟩ <;> omega
    · rintro ⟨a, b, c, d⟩
      omega
  · intro h
    constructor <;> omega
/-- Two sizes that both have a high word. -/
theorem times_over {m n : Int} (hm : Big m) (hn : Big n) (h1 : hiW m ≠ 0) (h2 : hiW n ≠ 0) : ¬ m * n < 340282366920938463463374607431768211456 := by
  have a : 18446744073709551616 ≤ m := by unfold Big at hm; unfold hiW at h1; omega
  have b : 18446744073709551616 ≤ n := by unfold Big at hn; unfold hiW at h2; omega
  have := Int.mul_le_mul a b (by decide) (by omega)
  omega

def xorB (a b : Bool) : Bool := a != b
/-- A product with its sign. -/
theorem mul_abs (x y : Int) : (if xorB (decide (x < 0)) (decide (y < 0)) = true then -(absW x * absW y) else absW x * absW y) = x * y := by
  unfold xorB absW
  by_cases hx : x < 0 <;> by_cases hy : y < 0 <;> simp [hx, hy, Int.neg_mul, Int.mul_neg]
theorem mul_over {x y : Int} (h : ¬ absW x * absW y < 340282366920938463463374607431768211456) : ¬ Fits (x * y) := by
  have e := mul_abs x y
  unfold Fits
  split at e <;> omega
theorem mul_big {x y : Int} (hx : Fits x) (hy : Fits y) (h : absW x * absW y < 340282366920938463463374607431768211456) : Big (absW x * absW y) :=
  ⟨Int.mul_nonneg (absW_big hx).1 (absW_big hy).1, h⟩
def quoW (x y : Int) : Int := if xorB (decide (x < 0)) (decide (y < 0)) = true then -(absW x / absW y) else absW x / absW y
def remW (x y : Int) : Int := if decide (x < 0) = true then -(absW x % absW y) else absW x % absW y
theorem absW_pos {y : Int} (h : y ≠ 0) : 0 < absW y := by unfold absW; split <;> omega
theorem quo_big {x y : Int} (hx : Fits x) (h : y ≠ 0) : Big (absW x / absW y) :=
  ⟨Int.ediv_nonneg (absW_big hx).1 (Int.le_of_lt (absW_pos h)), Int.lt_of_le_of_lt (Int.ediv_le_self _ (absW_big hx).1) (absW_big hx).2⟩
theorem rem_big {x y : Int} (hy : Fits y) (h : y ≠ 0) : Big (absW x % absW y) :=
  ⟨Int.emod_nonneg _ (Int.ne_of_gt (absW_pos h)), Int.lt_trans (Int.emod_lt_of_pos _ (absW_pos h)) (absW_big hy).2⟩
theorem zero_iff {x : Int} (hx : Fits x) : hiW x = 0 ∧ loW x = 0 ↔ x = 0 := by unfold Fits at hx; unfold hiW loW; omega

/-! ### bits -/
theorem or_word {x y : Int} (hx : Word x) (hy : Word y) : ∃ a b : Nat, x = a ∧ y = b ∧ a < 18446744073709551616 ∧ b < 18446744073709551616 ∧ bits .or .u64 x y = ((a ||| b : Nat) : Int) := by
  obtain ⟨a, rfl⟩ := Int.eq_ofNat_of_zero_le hx.1
  obtain ⟨b, rfl⟩ := Int.eq_ofNat_of_zero_le hy.1
  have h1 := hx.2
  have h2 := hy.2
  exact ⟨a, b, rfl, rfl, by omega, by omega, bits_or_u64_nat a b (by omega) (by omega)⟩
theorem or_zero {x y : Int} (hx : Word x) (hy : Word y) : Word (bits .or .u64 x y) ∧ (bits .or .u64 x y = 0 ↔ x = 0 ∧ y = 0) := by
  obtain ⟨a, b, rfl, rfl, ha, hb, e⟩ := or_word hx hy
  rw [e]
  have hlt : a ||| b < 2 ^ 64 := Nat.or_lt_two_pow (by omega) (by omega)
  refine ⟨⟨by omega, by omega⟩, ?_⟩
  have h : (a ||| b = 0) ↔ a = 0 ∧ b = 0 := Nat.or_eq_zero_iff
  omega
/-- An even word and a bit. -/
theorem or_even {x y : Int} (hx : Word x) (he : x % 2 = 0) (hy0 : 0 ≤ y) (hy1 : y ≤ 1) : bits .or .u64 x y = x + y := by
  obtain ⟨a, b, rfl, rfl, ha, hb, e⟩ := or_word hx (⟨hy0, by omega⟩ : Word y)
  rw [e]
  obtain ⟨c, rfl⟩ : ∃ c, a = 2 ^ 1 * c := ⟨a / 2, by omega⟩
  rw [← Nat.two_pow_add_eq_or_of_lt (by omega)]
  omega

theorem xor_max {l : Int} (hl : Word l) : bits .xor .u64 IntKind.u64.max l = 18446744073709551615 - l := by
  obtain ⟨n, rfl⟩ := Int.eq_ofNat_of_zero_le hl.1
  have h1 := hl.2
  have h := bits_xor_u64_nat 18446744073709551615 n (by decide) (by omega)
  have e : (18446744073709551615 ^^^ n : Nat) = 18446744073709551615 - n := by
    have h2 : (BitVec.allOnes 64 ^^^ BitVec.ofNat 64 n).toNat = (~~~ (BitVec.ofNat 64 n)).toNat := by rw [BitVec.allOnes_xor]
    rw [BitVec.toNat_xor, BitVec.toNat_allOnes, BitVec.toNat_ofNat, BitVec.toNat_not, BitVec.toNat_ofNat, Nat.mod_eq_of_lt (by omega)] at h2
    simpa using h2
  rw [e] at h
  refine h.trans ?_
  omega

/-! ### quotients, bit by bit -/
/-- A size's bits from the k-th on. -/
def topW (m : Int) (k : Nat) : Int := m / 2 ^ k
def bitW (m : Int) (k : Nat) : Int := topW m k % 2
theorem topW_step (m : Int) (k : Nat) : topW m k = 2 * topW m (k + 1) + bitW m k := by
  unfold bitW topW
  have h : m / 2 ^ (k + 1) = m / 2 ^ k / 2 := by rw [Int.pow_succ, Int.ediv_ediv_of_nonneg (Int.le_of_lt (Int.pow_pos (by decide)))]
  omega
theorem topW_zero (m : Int) : topW m 0 = m := by unfold topW; simp
theorem topW_end {m : Int} (hm : Big m) : topW m 128 = 0 := by unfold Big at hm; unfold topW; omega
theorem topW_big {m : Int} (hm : Big m) (k : Nat) : Big (topW m k) := by
  unfold topW
  have h1 : 0 ≤ m / 2 ^ k := Int.ediv_nonneg hm.1 (Int.le_of_lt (Int.pow_pos (by decide)))
  have h2 : m / 2 ^ k ≤ m := Int.ediv_le_self _ hm.1
  exact ⟨h1, Int.lt_of_le_of_lt h2 hm.2⟩
theorem bitW_hi {m : Int} (hm : Big m) {k : Nat} (h1 : 64 ≤ k) (h2 : k < 128) : hiW m / 2 ^ (k - 64) % 2 = bitW m k := by
  unfold bitW topW
  rw [hiW_eq hm]
  have e : (2 : Int) ^ k = 18446744073709551616 * 2 ^ (k - 64) := by
    have : (2 : Int) ^ (64 + (k - 64)) = 2 ^ 64 * 2 ^ (k - 64) := Int.pow_add _ _ _
    rw [show 64 + (k - 64) = k by omega] at this
    rw [this]; rfl
  rw [e, ← Int.ediv_ediv_of_nonneg (by decide)]
theorem bitW_lo {m : Int} {k : Nat} (h2 : k < 64) : loW m / 2 ^ k % 2 = bitW m k := by
  unfold bitW topW loW
  have e : (18446744073709551616 : Int) = 2 ^ k * 2 * 2 ^ (63 - k) := by
    have : (2 : Int) ^ (k + 1 + (63 - k)) = 2 ^ (k + 1) * 2 ^ (63 - k) := Int.pow_add _ _ _
    rw [show k + 1 + (63 - k) = 64 by omega, Int.pow_succ] at this
    exact this.symm.symm ▸ rfl
  have hp : (0 : Int) < 2 ^ k := Int.pow_pos (by decide)
  have hm1 : m % 18446744073709551616 = m - 2 ^ k * (2 * 2 ^ (63 - k) * (m / 18446744073709551616)) := by
    have := Int.emod_add_mul_ediv m 18446744073709551616
    have h3 : (2 : Int) ^ k * (2 * 2 ^ (63 - k) * (m / 18446744073709551616)) = 18446744073709551616 * (m / 18446744073709551616) := by
      rw [← Int.mul_assoc, ← Int.mul_assoc, ← e]
    omega
  rw [hm1]
  have h4 : (m - 2 ^ k * (2 * 2 ^ (63 - k) * (m / 18446744073709551616))) / 2 ^ k = m / 2 ^ k - 2 * 2 ^ (63 - k) * (m / 18446744073709551616) := by
    rw [show m - 2 ^ k * (2 * 2 ^ (63 - k) * (m / 18446744073709551616)) = m + 2 ^ k * (-(2 * 2 ^ (63 - k) * (m / 18446744073709551616))) by rw [Int.mul_neg]; omega]
    rw [Int.add_mul_ediv_left _ _ (by omega)]
    omega
  rw [h4, Int.mul_assoc]
  omega
theorem div_step {t n b : Int} (hn : 0 < n) (ht : 0 ≤ t) (hb0 : 0 ≤ b) (hb1 : b ≤ 1) :
    (2 * t + b) / n = (if n ≤ 2 * (t % n) + b then 2 * (t / n) + 1 else 2 * (t / n)) ∧ (2 * t + b) % n = (if n ≤ 2 * (t % n) + b then 2 * (t % n) + b - n else 2 * (t % n) + b) := by
  have h0 := Int.emod_nonneg t (Int.ne_of_gt hn)
  have h1 := Int.emod_lt_of_pos t hn
  have h2 := Int.mul_ediv_add_emod t n
  split
  · have e : 2 * t + b = (2 * (t % n) + b - n) + n * (2 * (t / n) + 1) := by rw [Int.mul_add, Int.mul_one, Int.mul_left_comm]; omega
    rw [e, Int.add_mul_ediv_left _ _ (Int.ne_of_gt hn), Int.add_mul_emod_self_left, Int.ediv_eq_zero_of_lt (by omega) (by omega), Int.emod_eq_of_lt (by omega) (by omega)]
    exact ⟨by omega, rfl⟩
  · have e : 2 * t + b = (2 * (t % n) + b) + n * (2 * (t / n)) := by rw [Int.mul_left_comm]; omega
    rw [e, Int.add_mul_ediv_left _ _ (Int.ne_of_gt hn), Int.add_mul_emod_self_left, Int.ediv_eq_zero_of_lt (by omega) (by omega), Int.emod_eq_of_lt (by omega) (by omega)]
    exact ⟨by omega, rfl⟩

/-! ### one bit more -/
theorem shl_words {x b : Int} (h0 : 0 ≤ b) (h1 : b ≤ 1) : (hiW x * 2) % 18446744073709551616 + loW x / 9223372036854775808 = hiW (2 * x + b) ∧ (loW x * 2) % 18446744073709551616 + b = loW (2 * x + b) := by
  unfold hiW loW; constructor <;> omega
theorem over_bit {r b : Int} (hr : Big r) (h0 : 0 ≤ b) (h1 : b ≤ 1) : hiW r / 9223372036854775808 = (2 * r + b) / 340282366920938463463374607431768211456 := by
  unfold Big at hr; unfold hiW; omega
/-- Whether the lesser of both is taken away. -/
theorem take_iff {r n b : Int} (hr : Big r) (hn : Big n) (hlt : r < n) (h0 : 0 ≤ b) (h1 : b ≤ 1) :
    (hiW r / 9223372036854775808 = 1 ∨ bor (hiW (2 * r + b)) (hiW n + bor (loW (2 * r + b)) (loW n)) = 0) ↔ n ≤ 2 * r + b := by
  rw [over_bit hr h0 h1]
  have e1 : hiW ((2 * r + b) % 340282366920938463463374607431768211456) = hiW (2 * r + b) := by unfold hiW; omega
  have e2 : loW ((2 * r + b) % 340282366920938463463374607431768211456) = loW (2 * r + b) := by unfold loW; omega
  rw [← e1, ← e2, sub_borrow (⟨by omega, by omega⟩ : Big _) hn]
  unfold Big at hr hn
  split <;> omega
theorem shl_or (x : Int) {b : Int} (h0 : 0 ≤ b) (h1 : b ≤ 1) : bits .or .u64 (IntKind.u64.wrap (hiW x * 2)) (loW x / 9223372036854775808) = hiW (2 * x + b) ∧ bits .or .u64 (IntKind.u64.wrap (loW x * 2)) b = loW (2 * x + b) := by
  have h := shl_words (x := x) h0 h1
  have hl := loW_word x
  rw [IntKind.wrap_u64, IntKind.wrap_u64, or_even (by unfold Word; omega) (by omega) (by unfold Word at hl; omega) (by unfold Word at hl; omega), or_even (by unfold Word; omega) (by omega) h0 h1]
  exact h
theorem hi_odd (x : Int) : hiW (2 * x + 1) = hiW (2 * x) := by unfold hiW; omega
theorem lo_odd {x : Int} : bits .or .u64 (loW (2 * x)) 1 = loW (2 * x + 1) := by
  rw [or_even (loW_word _) (by unfold loW; omega) (by decide) (by decide)]
  unfold loW; omega

theorem shl_q (x : Int) : bits .or .u64 (IntKind.u64.wrap (hiW x * 2)) (loW x / 9223372036854775808) = hiW (2 * x) ∧ IntKind.u64.wrap (loW x * 2) = loW (2 * x) ∧ bits .or .u64 (IntKind.u64.wrap (loW x * 2)) 1 = loW (2 * x + 1) ∧ hiW (2 * x + 1) = hiW (2 * x) := by
  have h := shl_or x (Int.le_refl 0) (by decide)
  have e : IntKind.u64.wrap (loW x * 2) = loW (2 * x) := by rw [IntKind.wrap_u64]; unfold loW; omega
  refine ⟨by simpa using h.1, e, by rw [e]; exact lo_odd, hi_odd x⟩

/-! ### decimal digits -/
def digsF : Nat → Nat → List UInt8
  | 0, _ => []
  | f + 1, n => if n < 10 then [UInt8.ofNat (48 + n)] else digsF f (n / 10) ++ [UInt8.ofNat (48 + n % 10)]
def digs (n : Nat) : List UInt8 := digsF (n + 1) n
theorem digsF_more : ∀ (f g n : Nat), n < f → n < g → digsF f n = digsF g n
  | 0, _, n, h, _ => by omega
  | _, 0, n, _, h => by omega
  | f + 1, g + 1, n, hf, hg => by
    unfold digsF
    by_cases h : n < 10
    · rw [if_pos h, if_pos h]
    · rw [if_neg h, if_neg h, digsF_more f g (n / 10) (by omega) (by omega)]
theorem digs_lt {n : Nat} (h : n < 10) : digs n = [UInt8.ofNat (48 + n)] := by unfold digs digsF; rw [if_pos h]
theorem digs_ge {n : Nat} (h : ¬ n < 10) : digs n = digs (n / 10) ++ [UInt8.ofNat (48 + n % 10)] := by
  unfold digs
  rw [digsF, if_neg h, digsF_more n (n / 10 + 1) (n / 10) (by omega) (by omega)]
def valL (l : List UInt8) : Nat := l.foldl (fun v c => v * 10 + (c.toNat - 48)) 0
theorem valL_snoc (l : List UInt8) (c : UInt8) : valL (l ++ [c]) = valL l * 10 + (c.toNat - 48) := by unfold valL; rw [List.foldl_append]; rfl
theorem dig_nat {k : Nat} (h : k < 10) : (UInt8.ofNat (48 + k)).toNat = 48 + k := by
  rw [UInt8.toNat_ofNat']; omega
theorem digs_rec {P : Nat → List UInt8 → Prop} (h1 : ∀ n, n < 10 → P n [UInt8.ofNat (48 + n)]) (h2 : ∀ n, ¬ n < 10 → P (n / 10) (digs (n / 10)) → P n (digs (n / 10) ++ [UInt8.ofNat (48 + n % 10)])) : ∀ n, P n (digs n) := by
  intro n
  induction n using Nat.strongRecOn with
  | ind n ih =>
    by_cases h : n < 10
    · rw [digs_lt h]; exact h1 n h
    · rw [digs_ge h]; exact h2 n h (ih _ (by omega))
theorem valL_digs (n : Nat) : valL (digs n) = n :=
  digs_rec (P := fun n l => valL l = n) (fun n h => by rw [show [UInt8.ofNat (48 + n)] = [] ++ [UInt8.ofNat (48 + n)] from rfl, valL_snoc, dig_nat h]; show 0 * 10 + _ = n; omega)
    (fun n h ih => by rw [valL_snoc, ih, dig_nat (by omega)]; omega) n
theorem digs_inj {m n : Nat} (h : digs m = digs n) : m = n := by rw [← valL_digs m, ← valL_digs n, h]
theorem digs_all (n : Nat) : ∀ c ∈ digs n, 48 ≤ c.toNat ∧ c.toNat ≤ 57 :=
  digs_rec (P := fun n l => ∀ c ∈ l, 48 ≤ c.toNat ∧ c.toNat ≤ 57) (fun n h c hc => by rw [List.mem_singleton.1 hc, dig_nat h]; omega)
    (fun n h ih c hc => by
      rcases List.mem_append.1 hc with hc | hc
      · exact ih c hc
      · rw [List.mem_singleton.1 hc, dig_nat (by omega)]; omega) n
theorem digs_ne (n : Nat) : digs n ≠ [] := digs_rec (P := fun n l => l ≠ []) (fun n h => by simp) (fun n h _ => by simp) n
/-- The first digit is 0 of 0 alone. -/
theorem digs_head (n : Nat) : ∃ c l, digs n = c :: l ∧ (c.toNat = 48 → n = 0) :=
  digs_rec (P := fun n l => ∃ c m, l = c :: m ∧ (c.toNat = 48 → n = 0)) (fun n h => ⟨_, [], rfl, fun e => by rw [dig_nat h] at e; omega⟩)
    (fun n h ⟨c, m, e, hc⟩ => ⟨c, m ++ [UInt8.ofNat (48 + n % 10)], by rw [e]; rfl, fun e => by have := hc e; omega⟩) n
theorem digs_len (k : Nat) : ∀ n, n < 10 ^ (k + 1) → (digs n).length ≤ k + 1 := by
  induction k with
  | zero => intro n h; rw [digs_lt (by simpa using h)]; simp
  | succ k ih =>
    intro n h
    by_cases h10 : n < 10
    · rw [digs_lt h10]; simp
    · rw [digs_ge h10, List.length_append]
      have := ih (n / 10) (by rw [Nat.pow_succ] at h; omega)
      simp; omega
theorem digs_len39 {n : Nat} (h : n ≤ 170141183460469231731687303715884105728) : (digs n).length ≤ 39 := digs_len 38 n (Nat.lt_of_le_of_lt h (by decide))
theorem valL_mono (l m : List UInt8) : valL l ≤ valL (l ++ m) := by
  induction m generalizing l with
  | nil => simp
  | cons c m ih =>
    have := ih (l ++ [c])
    rw [valL_snoc, List.append_assoc] at this
    have e : l ++ ([c] ++ m) = l ++ c :: m := rfl
    rw [e] at this
    omega
/-- What a number is printed as. -/
def textW (x : Int) : List UInt8 := if x < 0 then 45 :: digs (-x).toNat else digs x.toNat

theorem textW_neg {x : Int} (h : x < 0) : textW x = 45 :: digs (-x).toNat := by unfold textW; rw [if_pos h]
theorem textW_pos {x : Int} (h : ¬ x < 0) : textW x = digs x.toNat := by unfold textW; rw [if_neg h]
theorem textW_ne (x : Int) : textW x ≠ [] := by
  unfold textW; split
  · simp
  · exact digs_ne _
theorem digs_no_sign (n : Nat) (l : List UInt8) : digs n ≠ 45 :: l := by
  intro e
  have := digs_all n 45 (by rw [e]; simp)
  simp at this
theorem textW_inj {x y : Int} (h : textW x = textW y) : x = y := by
  unfold textW at h
  split at h <;> split at h
  · injection h with _ h; have := digs_inj h; omega
  · exact absurd h.symm (digs_no_sign _ _)
  · exact absurd h (digs_no_sign _ _)
  · have := digs_inj h; omega
theorem textW_iff (x y : Int) : textW x = textW y ↔ x = y := ⟨textW_inj, fun h => by rw [h]⟩
theorem textW_sign (x : Int) : (∃ l, textW x = 45 :: l) ↔ x < 0 := by
  constructor
  · rintro ⟨l, h⟩
    apply Decidable.byContradiction
    intro hx
    rw [textW_pos hx] at h
    exact digs_no_sign _ _ h
  · intro h; exact ⟨_, textW_neg h⟩
/-- What stands ahead of a text's number: form. -/
def formOk (l : List UInt8) : Bool := !l.isEmpty && (l.length ≤ 1 || l.head? != some 48) && l.all fun c => 48 ≤ c.toNat && c.toNat ≤ 57
theorem digs_form (n : Nat) : formOk (digs n) = true := by
  obtain ⟨c, l, e, hc⟩ := digs_head n
  have ha := digs_all n
  unfold formOk
  rw [Bool.and_eq_true, Bool.and_eq_true]
  refine ⟨⟨by rw [e]; rfl, ?_⟩, ?_⟩
  · by_cases h : c.toNat = 48
    · have h0 := hc h
      have hl : (digs n).length ≤ 1 := by rw [h0]; decide
      simp [hl]
    · rw [e]
      have hne : c ≠ 48 := fun h' => h (by rw [h']; rfl)
      simp [hne]
  · rw [List.all_eq_true]
    intro c hc
    have := ha c hc
    simp [this.1, this.2]
/-- The number of a text, or the error. -/
def parseW (l : List UInt8) : Option Nat := if formOk l = true then (if valL l < 170141183460469231731687303715884105728 then some (valL l) else none) else none

theorem dig_words {v d p q l1 k1 h2 k2 : Int} (hv : 0 ≤ v) (hfit : v * 10 < 340282366920938463463374607431768211456) (hd : 0 ≤ d) (hd9 : d ≤ 9) (hp : p = hiW (v * 10)) (hq : q = loW (v * 10))
    (hl1 : l1 = (q + d) % 18446744073709551616) (hk1 : k1 = (q + d) / 18446744073709551616) (hh2 : h2 = (p + 0 + k1) % 18446744073709551616) (hk2 : k2 = (p + 0 + k1) / 18446744073709551616) :
    l1 = loW (v * 10 + d) ∧ (k2 = 0 → v * 10 + d < 340282366920938463463374607431768211456 ∧ h2 = hiW (v * 10 + d)) ∧ (k2 = 1 → ¬ v * 10 + d < 170141183460469231731687303715884105728) := by
  have hb : Big (v * 10) := ⟨by omega, hfit⟩
  rw [hiW_eq hb] at hp
  generalize v * 10 = x at *
  unfold Big at hb
  unfold loW at hq
  have ha : x / 18446744073709551616 < 18446744073709551616 := by omega
  obtain ⟨a, hxa⟩ : ∃ a, a = x / 18446744073709551616 := ⟨_, rfl⟩
  obtain ⟨b, hxb⟩ : ∃ b, b = x % 18446744073709551616 := ⟨_, rfl⟩
  have hx : x = 18446744073709551616 * a + b := by omega
  have hb2 : 0 ≤ b ∧ b < 18446744073709551616 := by omega
  have ha0 : 0 ≤ a := by omega
  rw [← hxa] at hp ha
  rw [← hxb] at hq
  rw [hq] at hl1 hk1
  rw [hp] at hh2 hk2
  clear hxa hxb hv hfit hp hq
  subst hx
  have hk01 : k1 = 0 ∨ k1 = 1 := by omega
  refine ⟨by rw [hl1]; unfold loW; omega, fun e => ?_, fun e => ?_⟩
  · have h1 : a + k1 < 18446744073709551616 := by omega
    have h3 : 18446744073709551616 * a + b + d < 340282366920938463463374607431768211456 := by omega
    refine ⟨h3, ?_⟩
    rw [hiW_eq ⟨by omega, h3⟩]
    omega
  · have h1 : 18446744073709551616 ≤ a + k1 := by omega
    omega
theorem top_iff {x : Int} (h0 : 0 ≤ x) (h : x < 340282366920938463463374607431768211456) : 9223372036854775808 ≤ hiW x ↔ 170141183460469231731687303715884105728 ≤ x := by
  rw [hiW_eq ⟨h0, h⟩]
  omega
end Go.Proofs.YtgleldpdelhhhaaDoor
