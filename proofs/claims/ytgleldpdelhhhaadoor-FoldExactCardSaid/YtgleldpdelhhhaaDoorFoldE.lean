/- What layer 8's + makes of two texts of any lengths; no conditions. -/
import Derived.Test.YtgleldpdelhhhaaDoorFold7
namespace Go.Proofs.YtgleldpdelhhhaaDoor
open Go.RowKit Go.WideShapes Go.ChangeShapes
set_option linter.unusedVariables false
set_option maxRecDepth 100000

theorem texts_sum (a b : ByteArray) (hl : (a.size : Int) + (b.size : Int) ≤ 65536) (w : World) :
    Calls Tryd.prog 30 #[.string ⟨#[43]⟩, .string a, .string b] w fun e w' => e = .returned (.tuple #[kon 3 0 0 false (a ++ b) , .int .i64 0]) ∧ Below w.heap.size w w' := by
  have HM := CB.add 26 kon0 (CB.nil w)
  go_enter Tryd.func30, Tryd.ntmps30
  go_wp2_with fail
  refine (text_any _ _).mono ?_
  rintro e w1 ⟨rfl, hb1⟩
  have M1 := CB.next hb1 HM
  obtain ⟨d0, d1, d2, d3, d4, f0, f1, f2, f3, f4⟩ := five_cells (CB.at_ M1 (.head _))
  clear hb1
  go_wp2_with fail
  exact ret_kt (v := .int .i64 0) rfl rfl rfl rfl (set_five (CB.at_ M1 (.head _)) _ _ _ _ _) ⟨rfl, below_set5 M1.out.low (by omega) _ _ _ _ _⟩

theorem texts_over (a b : ByteArray) (hl : 65536 < (a.size : Int) + (b.size : Int)) (hz : (a.size : Int) + (b.size : Int) < 1000000) (w : World) :
    Calls Tryd.prog 30 #[.string ⟨#[43]⟩, .string a, .string b] w fun e w' => e = .returned (.tuple #[kon 0 0 0 false ⟨#[]⟩, .int .i64 10]) ∧ Below w.heap.size w w' := by
  have HM := CB.add 26 kon0 (CB.nil w)
  go_enter Tryd.func30, Tryd.ntmps30
  go_wp2_with fail
  refine (none_any _ _).mono ?_
  rintro e w1 ⟨rfl, hb1⟩
  have M1 := CB.next hb1 HM
  obtain ⟨d0, d1, d2, d3, d4, f0, f1, f2, f3, f4⟩ := five_cells (CB.at_ M1 (.head _))
  clear hb1
  go_wp2_with fail
  exact ret_kt (v := .int .i64 10) rfl rfl rfl rfl (set_five (CB.at_ M1 (.head _)) _ _ _ _ _) ⟨rfl, below_set5 M1.out.low (by omega) _ _ _ _ _⟩

theorem lim_num (a : Int) : ∃ m : Nat, wrap64 ((IntKind.u64.wrap a).tmod 65538) = (m : Int) ∧ m < 65538 := by
  have h0 : 0 ≤ IntKind.u64.wrap a := by
    rw [IntKind.wrap_u64]
    omega
  have h1 : (IntKind.u64.wrap a).tmod 65538 = (IntKind.u64.wrap a) % 65538 := Int.tmod_eq_emod_of_nonneg h0
  rw [h1]
  obtain ⟨c, hc⟩ : ∃ c : Int, c = IntKind.u64.wrap a := ⟨_, rfl⟩
  rw [← hc] at h0 ⊢
  refine ⟨(c % 65538).toNat, ?_, by omega⟩
  unfold wrap64
  omega

theorem and_i64 (a b : Nat) (ha : a < 9223372036854775808) (hb : b < 9223372036854775808) : bits BinOp.and .i64 (a : Int) (b : Int) = ((a &&& b : Nat) : Int) := by
  have hx : a &&& b < 2 ^ 63 := Nat.and_lt_two_pow _ (by omega)
  have h1 : (BitVec.ofInt 64 (a : Int)).toNat = a := by
    rw [BitVec.ofInt_natCast, BitVec.toNat_ofNat]; exact Nat.mod_eq_of_lt (by omega)
  have h2 : (BitVec.ofInt 64 (b : Int)).toNat = b := by
    rw [BitVec.ofInt_natCast, BitVec.toNat_ofNat]; exact Nat.mod_eq_of_lt (by omega)
  show IntKind.i64.wrap ((BitVec.ofInt 64 (a : Int) &&& BitVec.ofInt 64 (b : Int)).toNat : Int) = _
  rw [BitVec.toNat_and, h1, h2, IntKind.wrap_i64]
  omega

theorem and_bit (m j : Nat) (hm : m < 65538) (hj : j < 17) : (bits BinOp.and .i64 (m : Int) ((2 ^ j : Nat) : Int) != 0) = m.testBit j := by
  have hp : 2 ^ j < 2 ^ 17 := Nat.pow_lt_pow_right (by omega) hj
  rw [and_i64 m (2 ^ j) (by omega) (by omega)]
  cases hb : m.testBit j
  · have h0 : m &&& 2 ^ j = 0 := by
      apply Nat.eq_of_testBit_eq
      intro i
      rw [Nat.testBit_and, Nat.testBit_two_pow, Nat.zero_testBit]
      by_cases hi : j = i
      · subst hi; rw [hb]; rfl
      · simp [hi]
    rw [h0]
    rfl
  · have h1 : (m &&& 2 ^ j).testBit j = true := by rw [Nat.testBit_and, hb, Nat.testBit_two_pow_self]; rfl
    have h2 : m &&& 2 ^ j ≠ 0 := by
      intro h0
      rw [h0, Nat.zero_testBit] at h1
      cases h1
    rw [bne_iff_ne]
    omega

theorem mod_bit (m j : Nat) : m % 2 ^ (j + 1) = m % 2 ^ j + (if m.testBit j then 2 ^ j else 0) := by
  rw [Nat.pow_succ, Nat.mod_mul, Nat.testBit_eq_decide_div_mod_eq]
  rcases Nat.mod_two_eq_zero_or_one (m / 2 ^ j) with h | h <;> simp [h]

def LimRel (m n : Nat) (w : World) (x y s k : Value) (wr : World) : Prop :=
  ∃ (j : Nat) (a b c : ByteArray), j ≤ 17 ∧ x = .string a ∧ y = .string b ∧ s = .string c ∧ k = .int .i64 ((2 ^ j : Nat) : Int) ∧ a.size = m % 2 ^ j ∧ b.size = n % 2 ^ j ∧ c.size = 2 ^ j ∧ Hid (CB w [] wr)

set_option maxHeartbeats 4000000 in
theorem limits_law (a b : Int) (w : World) :
    Calls Tryd.prog 4 #[.int .i64 a, .int .i64 b] w fun e w' => e = .returned (.bool true) ∧ Below w.heap.size w w' := by
  have H0 := CB.nil w
  go_enter Tryd.func4, Tryd.ntmps4
  go_wp2_with fail
  refine (awake08 _).mono ?_
  rintro e v1 ⟨rfl, hb1⟩
  have M1 := CB.next hb1 H0
  clear hb1
  go_wp2_with fail
  obtain ⟨m, hm, hm2⟩ : ∃ m : Nat, wrap64 ((IntKind.u64.wrap a).tmod 65538) = (m : Int) ∧ m < 65538 := lim_num a
  obtain ⟨n, hn, hn2⟩ : ∃ n : Nat, wrap64 ((IntKind.u64.wrap b).tmod 65538) = (n : Int) ∧ n < 65538 := lim_num b
  rw [hm, hn]
  clear hm hn
  go_loopw [5, 6, 7, 10] (fun x y s k wr => LimRel m n w x y s k wr) (fun _ _ _ k _ => 131072 - (intOf k).toNat)
  case atStart => exact ⟨0, ⟨#[]⟩, ⟨#[]⟩, ⟨#[120]⟩, by omega, rfl, rfl, rfl, rfl, by rw [Nat.pow_zero, Nat.mod_one]; rfl, by rw [Nat.pow_zero, Nat.mod_one]; rfl, rfl, M1⟩
  case round =>
    obtain ⟨j, x, y, s, hj, rfl, rfl, rfl, rfl, hx, hy, hs, HP⟩ := hrel
    have hb2 : x.size ≤ m ∧ y.size ≤ n := ⟨hx ▸ Nat.mod_le _ _, hy ▸ Nat.mod_le _ _⟩
    by_cases h17 : j = 17
    · subst h17
      rw [Nat.mod_eq_of_lt (by omega)] at hx hy
      have HX := hide hx
      have HY := hide hy
      clear hx hy hs
      go_wp2_with fail
      refine (text_any _ _).mono ?_
      rintro e v2 ⟨rfl, hb2⟩
      have M2 := CB.next hb2 HP
      clear hb2
      go_wp2_with fail
      refine (text_any _ _).mono ?_
      rintro e v3 ⟨rfl, hb3⟩
      have M3 := CB.next hb3 M2
      clear hb3
      go_wp2_with fail
      by_cases hl : (x.size : Int) + (y.size : Int) ≤ 65536
      · refine (binary_text_to _ false false 0 0 0 0 3 0 0 0 x y false (x ++ y) (hide (fun W => texts_sum x y hl W)) _).mono ?_
        rintro e v4 ⟨rfl, hb4⟩
        have M4 := CB.next hb4 M3
        clear hb4
        have hmn : (m : Int) + n ≤ 65536 := by rw [← HX.out, ← HY.out]; exact hl
        have hsz : ((x.size : Int) + (y.size : Int) == (m : Int) + n) = true := by rw [beq_iff_eq, HX.out, HY.out]
        have M5 := CB.add 26 (konA 3 0 0 false (x ++ y)) M4
        obtain ⟨q0, q1, q2, q3, q4, f0, f1, f2, f3, f4⟩ := five_cells (CB.at_ M5 (.head _))
        go_wp2_with fail
        go_ret
        exact ⟨rfl, M5.out.low⟩
      · refine (binary_text_to _ false false 0 0 0 0 0 0 0 10 x y false ⟨#[]⟩ (hide (fun W => texts_over x y (by omega) (by omega) W)) _).mono ?_
        rintro e v4 ⟨rfl, hb4⟩
        have M4 := CB.next hb4 M3
        clear hb4
        have hmn : 65536 < (m : Int) + n := by rw [← HX.out, ← HY.out]; omega
        have M5 := CB.add 26 kon0 M4
        obtain ⟨q0, q1, q2, q3, q4, f0, f1, f2, f3, f4⟩ := five_cells (CB.at_ M5 (.head _))
        go_wp2_with fail
        go_ret
        exact ⟨rfl, M5.out.low⟩
    · have hj17 : j < 17 := by omega
      have hp : 2 ^ j < 2 ^ 17 := Nat.pow_lt_pow_right (by omega) hj17
      have hp2 : 0 < 2 ^ j := Nat.two_pow_pos j
      have hp3 : j < 17 → 2 ^ j ≤ 65536 := fun h => Nat.pow_le_pow_right (i := j) (j := 16) (n := 2) (by omega) (by omega)
      have tm := and_bit m j hm2 hj17
      have tn := and_bit n j hn2 hj17
      have HK := hide (And.intro hj17 (show (((2 ^ (j + 1) : Nat)) : Int) = ((2 ^ j : Nat) : Int) * 2 by rw [Nat.pow_succ]; simp))
      have hK2 : 1 ≤ ((2 ^ j : Nat) : Int) ∧ ((2 ^ j : Nat) : Int) ≤ 65536 := by have := hp3 hj17; omega
      have hsb : s.size ≤ 65536 := by have := hp3 hj17; omega
      have hxb : x.size ≤ 65537 := by omega
      have hyb : y.size ≤ 65537 := by omega
      obtain ⟨K, hK⟩ : ∃ K : Int, K = ((2 ^ j : Nat) : Int) := ⟨_, rfl⟩
      rw [← hK] at tm tn HK hK2 ⊢
      have HX := hide hx
      have HY := hide hy
      have HS := hide hs
      have HKK := hide hK
      clear hx hy hs hK hp hp2 hp3 hb2
      obtain ⟨c, hc⟩ : ∃ c, c = m.testBit j := ⟨_, rfl⟩
      obtain ⟨d, hd⟩ : ∃ d, d = n.testBit j := ⟨_, rfl⟩
      rw [← hc] at tm
      rw [← hd] at tn
      have HC := hide hc
      have HD := hide hd
      clear hc hd
      cases c <;> cases d
      all_goals
        go_wp2_with fail
        go_roundw
        case rel => exact ⟨j + 1, _, _, _, by omega, rfl, rfl, rfl, by rw [HK.out.2], by rw [mod_bit, ← HC.out]; simp [HX.out, HS.out], by rw [mod_bit, ← HD.out]; simp [HY.out, HS.out], by simp [HS.out, Nat.pow_succ]; omega, HP⟩
        case measure => simp [intOf]; omega
end Go.Proofs.YtgleldpdelhhhaaDoor
