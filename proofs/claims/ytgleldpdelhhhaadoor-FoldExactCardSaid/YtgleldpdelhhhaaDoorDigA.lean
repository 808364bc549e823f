/- The reference's numbers: what Of answers; conditions: none but that numbers are of 64 bits. -/
import Derived.Test.YtgleldpdelhhhaaDoorDig9
import Derived.Test.YtgleldpdelhhhaaDoorWide3
namespace Go.Proofs.YtgleldpdelhhhaaDoor
open Go.RowKit Go.WideShapes Go.ChangeShapes
set_option linter.unusedVariables false
set_option maxRecDepth 100000

/-- The bits of a number, as a number without a sign. -/
def wordsN (x : Int) : Nat := (x % 340282366920938463463374607431768211456).toNat
theorem wordsN_big (x : Int) : Big ((wordsN x : Nat) : Int) := by unfold Big wordsN; omega
theorem wordsN_hi (x : Int) : hiW ((wordsN x : Nat) : Int) = hiW x := by unfold hiW wordsN; omega
theorem wordsN_lo (x : Int) : loW ((wordsN x : Nat) : Int) = loW x := by unfold loW wordsN; omega
theorem bit_step (u j : Nat) : u % 2 ^ (j + 1) = u % 2 ^ j + (u / 2 ^ j % 2) * 2 ^ j := by
  rw [Nat.pow_succ, Nat.mod_mul, Nat.mul_comm (2 ^ j)]
theorem bitN (u j : Nat) : bitW (u : Int) j = ((u / 2 ^ j % 2 : Nat) : Int) := by
  unfold bitW topW
  simp

theorem of_neg {x : Int} {u v : Nat} (hu : u = wordsN x) (hx : Fits x) (h1 : u / 2 ^ 127 % 2 = 1) (hv : v = 2 ^ 127 - u % 2 ^ 127) : v = x.natAbs ∧ x < 0 := by
  unfold wordsN at hu
  unfold Fits at hx
  omega
theorem of_pos {x : Int} {u v : Nat} (hu : u = wordsN x) (hx : Fits x) (h1 : u / 2 ^ 127 % 2 = 0) (hv : v = u % 2 ^ 128) : v = x.natAbs ∧ ¬ x < 0 := by
  unfold wordsN at hu
  unfold Fits at hx
  omega

def OfRel (w : World) (gs : List (Nat × TypeId × Array Value)) (u : Nat) (d p i : Value) (wr : World) : Prop :=
  ∃ (j k c k' c' : Nat) (A A' : Option Addr) (ds ps : List Nat), d = .slice A k c ∧ p = .slice A' k' c' ∧ i = .int .i64 j ∧ j ≤ 128 ∧ Dg wr A k ds ∧ DOk ds ∧ k ≤ j + 1 ∧ k ≤ c ∧ dval ds = u % 2 ^ j ∧ Dg wr A' k' ps ∧ DOk ps ∧ k' ≤ j + 1 ∧ k' ≤ c' ∧ dval ps = 2 ^ j ∧ (j = 128 → u / 2 ^ 127 % 2 = 0) ∧ Hid (NB w gs wr)

set_option maxHeartbeats 8000000 in
theorem ref_of {x : Int} (hx : Fits x) (w : World) :
    Calls Tryd.prog 26 #[wv (hiW x) (loW x)] w (NumR w x) := by
  obtain ⟨u, hu⟩ : ∃ u, u = wordsN x := ⟨_, rfl⟩
  have hbig := wordsN_big x
  rw [← wordsN_hi x, ← wordsN_lo x, ← hu]
  rw [← hu] at hbig
  have HU := hide (And.intro hu (And.intro hx hbig))
  obtain ⟨h, hh⟩ : ∃ h, h = hiW (u : Int) := ⟨_, rfl⟩
  obtain ⟨l, hl⟩ : ∃ h, h = loW (u : Int) := ⟨_, rfl⟩
  have wh := hiW_word (u : Int)
  have wl := loW_word (u : Int)
  rw [← hh] at wh
  rw [← hl] at wl
  rw [← hh, ← hl]
  have HW := hide (And.intro hh (And.intro hl (And.intro wh wl)))
  have HB := NB.add NumT #[.bool false, .slice none 0 0] (NB.add 24 #[.int .u64 h, .int .u64 l] (NB.nil w))
  clear hu hx hbig hh hl wh wl
  go_enter Tryd.func26, Tryd.ntmps26
  go_upto_region 1 with (fail)
  obtain ⟨W, hW⟩ : ∃ W : World, W = ((w.alloc (.cells #[.int .u64 h, .int .u64 l] 24)).alloc (.cells #[.bool false, .slice none 0 0] NumT)) := ⟨_, rfl⟩
  obtain ⟨g0, hg0⟩ : ∃ g, g = w.heap.size := ⟨_, rfl⟩
  obtain ⟨g1, hg1⟩ : ∃ g, g = (w.alloc (.cells #[.int .u64 h, .int .u64 l] 24)).heap.size := ⟨_, rfl⟩
  have hg1' : w.heap.size + 1 = g1 := by rw [hg1]; simp
  rw [← hW] at HB ⊢
  rw [← hg1, ← hg0] at HB
  try rw [hg1']
  try rw [← hg0]
  clear hW hg0 hg1 hg1'
  have HB1 := NB.next (w := w) (((Below.refl W.heap.size W).alloc (Nat.le_refl _) (.cells #[] 3)).alloc (by simp) (.cells #[.int .i64 1] 3)) HB
  go_wp2_with fail
  go_loopw [3, 4, 5] (fun d p i wr => OfRel w [(g1, NumT, #[.bool false, .slice none 0 0]), (g0, 24, #[.int .u64 h, .int .u64 l])] u d p i wr) (fun _ _ i _ => 128 - (intOf i).toNat)
  case atStart => exact ⟨0, 0, 0, 1, 1, _, _, [], [1], rfl, rfl, rfl, by omega, ⟨rfl, rfl, fun h => by omega⟩, DOk.nil, by omega, by omega, by simp [dval, Nat.mod_one], Dg.own rfl (by have h := own_one (W.alloc (.cells #[] 3)) 1; simp only [World.size_alloc] at h; exact h), dok_cons (by omega) DOk.nil, by omega, by omega, rfl, fun h => by omega, HB1⟩
  case round =>
    obtain ⟨j, k, c, k', c', A, A', ds, ps, rfl, rfl, rfl, hj, hd, okd, hk, hc, hv, hp, okp, hk', hc', hvp, hlast, HB2⟩ := hrel
    obtain ⟨c0, c1, f0, f1⟩ := two_cellsN (NB.at_ HB2 (.tail _ (.head _)))
    by_cases hj128 : j < 128
    · have hst := bit_step u j
      have h2 := Nat.mod_lt (u / 2 ^ j) (show 2 > 0 by omega)
      have hbit := bitN u j
      have hmod := Nat.mod_lt u (Nat.two_pow_pos j)
      obtain ⟨b, hb⟩ : ∃ b, b = u / 2 ^ j % 2 := ⟨_, rfl⟩
      rw [← hb] at hst h2 hbit
      have HPP := hide (fun W' (hb' : Hid (NB w [(g1, NumT, #[.bool false, .slice none 0 0]), (g0, 24, #[.int .u64 h, .int .u64 l])] W')) (hp' : Dg W' A' k' ps) => plus_any hp' hp' okp okp (by omega) (by omega) (c := c') (c' := c'))
      have HDP := hide (plus_any hd hp okd okp (by omega) (by omega) (c := c) (c' := c'))
      have HPM := hide (minus_any hp hd okp okd (by omega) (by omega) (by rw [hv, hvp]; omega) (c := c') (c' := c))
      have HQ := hide (And.intro hd (And.intro okd (And.intro hk (And.intro hc (And.intro hv (And.intro hp (And.intro okp (And.intro hk' (And.intro hc' (And.intro hvp (And.intro hst (And.intro hb hmod))))))))))))
      clear hd okd hk hc hv hp okp hk' hc' hvp hlast hst hb hmod
      by_cases h64 : 64 ≤ j
      · have e1 : ((j : Int)).tmod 64 = (j : Int) - 64 := by rw [Int.tmod_eq_emod_of_nonneg (by omega)]; omega
        have e2 : bits BinOp.and IntKind.u64 (h / 2 ^ (j - 64)) 1 = (b : Int) := by
          have h3 := bitW_hi HU.out.2.2 h64 hj128
          rw [← HW.out.1, hbit] at h3
          have wh := HW.out.2.2.1
          have hp0 : (0 : Int) < 2 ^ (j - 64) := Int.pow_pos (by decide)
          rw [and_one_u64 _ (Int.ediv_nonneg wh.1 (Int.le_of_lt hp0)) (by have := Int.ediv_le_self (2 ^ (j - 64)) wh.1; have := wh.2; omega)]
          exact h3
        have hb01 : b = 0 ∨ b = 1 := by omega
        clear hbit h2
        rcases hb01 with rfl | rfl
        · clear HDP HPM
          go_wp2_with (refine (HPP.out _ HB2 HQ.out.2.2.2.2.2.1).mono ?_; rintro e w1 ⟨A1, k1, cp1, ds1, rfl, hd1, ok1, hk1, hc1, hv1, hb1⟩; have HM := hide (And.intro hd1 (And.intro ok1 (And.intro hk1 (And.intro hc1 (And.intro hv1 hb1))))); have HB3 := NB.next hb1 HB2; clear hd1 ok1 hk1 hc1 hv1 hb1)
          go_roundw
          case rel =>
            obtain ⟨q1, q2, q3, q4, q5, q6, q7, q8, q9, q10, q11, q12, q13⟩ := HQ.out
            obtain ⟨r1, r2, r3, r4, r5, r6⟩ := HM.out
            exact ⟨j + 1, k, c, k1, cp1, A, A1, ds, ds1, rfl, rfl, by go_num, by omega, q1.below r6, q2, by omega, q4, by rw [q5, q11]; simp, r1, r2, by omega, r4, by rw [r5, q10, Nat.pow_succ]; omega, fun h => by rw [show (127 : Nat) = j by omega, ← q12], HB3⟩
          case measure => simp [intOf]; omega
        · by_cases hj7 : j = 127
          · subst hj7
            have hkk : k' ≤ 128 := by have := HQ.out.2.2.2.2.2.2.2.1; omega
            have e2' : bits BinOp.and IntKind.u64 (h / 9223372036854775808) 1 = 1 := by simpa using e2
            clear HPP HDP
            go_wp2_with (first
              | (go_at_call 42; (with_reducible refine HPM.out.mono ?_); rintro e w1 ⟨A1, k1, cp1, ds1, rfl, hd1, ok1, hk1, hc1, hv1, hb1⟩; have HB3 := NB.next hb1 HB2; have HT := hide (rtrim_any true hd1 ok1 (by omega) hc1); have HV := hide hv1; clear hd1 ok1 hk1 hc1 hv1 hb1)
              | (go_at_call 36; (with_reducible refine HT.out.mono ?_); rintro e w2 ⟨A2, k2, cp2, rfl, hd2, hc2, hb2⟩; have HB4 := NB.next hb2 HB3; obtain ⟨d0, d1, y0, y1⟩ := two_cellsN (NB.at_ HB4 (.head _))))
            go_wp2_with fail
            obtain ⟨q1, q2, q3, q4, q5, q6, q7, q8, q9, q10, q11, q12, q13⟩ := HQ.out
            have hval : dval ds1 = x.natAbs ∧ x < 0 := by
              have h1 := HV.out
              rw [q5, q10] at h1
              exact of_neg HU.out.1 HU.out.2.1 q12.symm h1
            exact num_end rfl rfl rfl HB4 hd2 hc2 (by obtain ⟨h1, h2⟩ := hval; rw [Bool.eq_iff_iff]; simp <;> omega) hval.1
          · have e3 : ((j : Int) == 127) = false := by rw [beq_eq_false_iff_ne]; omega
            clear HPM
            go_wp2_with (first
              | (refine HDP.out.mono ?_; rintro e w1 ⟨A1, k1, cp1, ds1, rfl, hd1, ok1, hk1, hc1, hv1, hb1⟩; have HM := hide (And.intro hd1 (And.intro ok1 (And.intro hk1 (And.intro hc1 (And.intro hv1 hb1))))); have HB3 := NB.next hb1 HB2; clear hd1 ok1 hk1 hc1 hv1 hb1; clear HDP)
              | (refine (HPP.out _ HB3 (HQ.out.2.2.2.2.2.1.below HM.out.2.2.2.2.2)).mono ?_; rintro e w2 ⟨A2, k2, cp2, ds2, rfl, hd2, ok2, hk2, hc2, hv2, hb2⟩; have HM2 := hide (And.intro hd2 (And.intro ok2 (And.intro hk2 (And.intro hc2 (And.intro hv2 hb2))))); have HB4 := NB.next hb2 HB3; clear hd2 ok2 hk2 hc2 hv2 hb2))
            go_roundw
            case rel =>
              obtain ⟨q1, q2, q3, q4, q5, q6, q7, q8, q9, q10, q11, q12, q13⟩ := HQ.out
              obtain ⟨r1, r2, r3, r4, r5, r6⟩ := HM.out
              obtain ⟨t1, t2, t3, t4, t5, t6⟩ := HM2.out
              exact ⟨j + 1, k1, cp1, k2, cp2, A1, A2, ds1, ds2, rfl, rfl, by go_num, by omega, r1.below t6, r2, by omega, r4, by rw [r5, q5, q10, q11]; omega, t1, t2, by omega, t4, by rw [t5, q10, Nat.pow_succ]; omega, fun h => by omega, HB4⟩
            case measure => simp [intOf]; omega
      · have e1 : ((j : Int)).tmod 64 = (j : Int) := by rw [Int.tmod_eq_emod_of_nonneg (by omega)]; omega
        have e2 : bits BinOp.and IntKind.u64 (l / 2 ^ j) 1 = (b : Int) := by
          have h3 := bitW_lo (m := (u : Int)) (k := j) (by omega)
          rw [← HW.out.2.1, hbit] at h3
          have wh := HW.out.2.2.2
          have hp0 : (0 : Int) < 2 ^ j := Int.pow_pos (by decide)
          rw [and_one_u64 _ (Int.ediv_nonneg wh.1 (Int.le_of_lt hp0)) (by have := Int.ediv_le_self (2 ^ j) wh.1; have := wh.2; omega)]
          exact h3
        have hb01 : b = 0 ∨ b = 1 := by omega
        clear hbit h2
        rcases hb01 with rfl | rfl
        · clear HDP HPM
          go_wp2_with (refine (HPP.out _ HB2 HQ.out.2.2.2.2.2.1).mono ?_; rintro e w1 ⟨A1, k1, cp1, ds1, rfl, hd1, ok1, hk1, hc1, hv1, hb1⟩; have HM := hide (And.intro hd1 (And.intro ok1 (And.intro hk1 (And.intro hc1 (And.intro hv1 hb1))))); have HB3 := NB.next hb1 HB2; clear hd1 ok1 hk1 hc1 hv1 hb1)
          go_roundw
          case rel =>
            obtain ⟨q1, q2, q3, q4, q5, q6, q7, q8, q9, q10, q11, q12, q13⟩ := HQ.out
            obtain ⟨r1, r2, r3, r4, r5, r6⟩ := HM.out
            exact ⟨j + 1, k, c, k1, cp1, A, A1, ds, ds1, rfl, rfl, by go_num, by omega, q1.below r6, q2, by omega, q4, by rw [q5, q11]; simp, r1, r2, by omega, r4, by rw [r5, q10, Nat.pow_succ]; omega, fun h => by rw [show (127 : Nat) = j by omega, ← q12], HB3⟩
          case measure => simp [intOf]; omega
        · by_cases hj7 : j = 127
          · exact absurd hj7 (by omega)
          · have e3 : ((j : Int) == 127) = false := by rw [beq_eq_false_iff_ne]; omega
            clear HPM
            go_wp2_with (first
              | (refine HDP.out.mono ?_; rintro e w1 ⟨A1, k1, cp1, ds1, rfl, hd1, ok1, hk1, hc1, hv1, hb1⟩; have HM := hide (And.intro hd1 (And.intro ok1 (And.intro hk1 (And.intro hc1 (And.intro hv1 hb1))))); have HB3 := NB.next hb1 HB2; clear hd1 ok1 hk1 hc1 hv1 hb1; clear HDP)
              | (refine (HPP.out _ HB3 (HQ.out.2.2.2.2.2.1.below HM.out.2.2.2.2.2)).mono ?_; rintro e w2 ⟨A2, k2, cp2, ds2, rfl, hd2, ok2, hk2, hc2, hv2, hb2⟩; have HM2 := hide (And.intro hd2 (And.intro ok2 (And.intro hk2 (And.intro hc2 (And.intro hv2 hb2))))); have HB4 := NB.next hb2 HB3; clear hd2 ok2 hk2 hc2 hv2 hb2))
            go_roundw
            case rel =>
              obtain ⟨q1, q2, q3, q4, q5, q6, q7, q8, q9, q10, q11, q12, q13⟩ := HQ.out
              obtain ⟨r1, r2, r3, r4, r5, r6⟩ := HM.out
              obtain ⟨t1, t2, t3, t4, t5, t6⟩ := HM2.out
              exact ⟨j + 1, k1, cp1, k2, cp2, A1, A2, ds1, ds2, rfl, rfl, by go_num, by omega, r1.below t6, r2, by omega, r4, by rw [r5, q5, q10, q11]; omega, t1, t2, by omega, t4, by rw [t5, q10, Nat.pow_succ]; omega, fun h => by omega, HB4⟩
            case measure => simp [intOf]; omega
    · obtain rfl : j = 128 := by omega
      have HT := hide (rtrim_any false hd okd (by omega) hc)
      have hval : dval ds = x.natAbs ∧ ¬ x < 0 := of_pos HU.out.1 HU.out.2.1 (hlast rfl) hv
      have HV := hide hval
      clear hd okd hk hc hv hp okp hk' hc' hvp hlast hval
      go_wp2_with (refine HT.out.mono ?_; rintro e w2 ⟨A2, k2, cp2, rfl, hd2, hc2, hb2⟩; have HB4 := NB.next hb2 HB2; obtain ⟨d0, d1, y0, y1⟩ := two_cellsN (NB.at_ HB4 (.head _)))
      exact num_end rfl rfl rfl HB4 hd2 hc2 (by have h2 := HV.out.2; rw [Bool.eq_iff_iff]; simp <;> omega) HV.out.1
end Go.Proofs.YtgleldpdelhhhaaDoor
