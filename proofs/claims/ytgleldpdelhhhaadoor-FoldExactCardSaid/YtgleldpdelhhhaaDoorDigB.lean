/- The reference's numbers: what Bits answers; conditions: the digits' cells are in memory, and the number is one of 128 bits. -/
import Derived.Test.YtgleldpdelhhhaaDoorDigA
import Derived.Deep.DeepCutAuto
namespace Go.Proofs.YtgleldpdelhhhaaDoor
open Go.RowKit Go.WideShapes Go.ChangeShapes
set_option linter.unusedVariables false
set_option maxRecDepth 100000

theorem quo_two {w : World} {k c : Nat} {A : Option Addr} (v : Nat) {b : Nat} (h : Dg w A k (dgs v)) (h2 : Dg w (some ⟨b, 0, none⟩) 1 [2]) (hk : k ≤ 400) (hc : k ≤ c) :
    Calls Tryd.prog 54 #[.agg #[.bool false, .slice A k c], .agg #[.bool false, .slice (some ⟨b, 0, none⟩) 1 1]] w fun e w' =>
      ∃ A1 k1 c1 A2 k2 c2, e = .returned (.tuple #[.agg #[.bool false, .slice A1 k1 c1], .agg #[.bool false, .slice A2 k2 c2]]) ∧ Dg w' A1 k1 (dgs (v / 2)) ∧ k1 ≤ c1 ∧ k2 = v % 2 ∧ Below w.heap.size w w' := by
  have e2 : [2] = dgs (2 : Int).natAbs := by rw [dgs_pos (by decide)]; rfl
  rw [e2] at h2
  have h3 := ref_quo (w := w) (x := (v : Int)) (y := 2) (n := k) (m := 1) (c := c) (c' := 1) (A := A) (A' := some ⟨b, 0, none⟩) h h2 hk (by omega) hc (by omega) (by omega)
  rw [decide_eq_false (by omega : ¬ (v : Int) < 0), decide_eq_false (by omega : ¬ (2 : Int) < 0)] at h3
  refine h3.mono ?_
  rintro e w' ⟨A1, k1, c1, A2, k2, c2, rfl, hd1, hk1, hd2, hk2, hb⟩
  have t1 : (v : Int).tdiv 2 = ((v / 2 : Nat) : Int) := by rw [Int.tdiv_eq_ediv_of_nonneg (by omega)]; omega
  have t2 : (v : Int).tmod 2 = ((v % 2 : Nat) : Int) := by rw [Int.tmod_eq_emod_of_nonneg (by omega)]; omega
  rw [t1, Int.natAbs_natCast] at hd1
  rw [t2, Int.natAbs_natCast] at hd2
  rw [t1, t2, decide_eq_false (by omega : ¬ ((v / 2 : Nat) : Int) < 0), decide_eq_false (by omega : ¬ ((v % 2 : Nat) : Int) < 0)]
  refine ⟨A1, k1, c1, A2, k2, c2, rfl, hd1, hk1, ?_, hb⟩
  have h4 := hd2.1
  rcases Nat.mod_two_eq_zero_or_one v with e | e
  · rw [e] at h4 ⊢; exact h4.symm
  · rw [e] at h4 ⊢; rw [dgs_pos (by decide)] at h4; exact h4.symm

def wideC (h l : Nat) : Array Value := #[.int .u64 (h : Int), .int .u64 (l : Int)]
def hiN (u j : Nat) : Nat := u % 2 ^ j / 18446744073709551616
def loN (u j : Nat) : Nat := u % 2 ^ j % 18446744073709551616
theorem lo_step {u j : Nat} (hj : j < 64) : loN u (j + 1) = loN u j + (u / 2 ^ j % 2) * 2 ^ j ∧ hiN u (j + 1) = hiN u j ∧ loN u j < 2 ^ j := by
  have h1 := bit_step u j
  have h2 := Nat.mod_lt u (Nat.two_pow_pos j)
  have h3 := Nat.mod_lt u (Nat.two_pow_pos (j + 1))
  have h4 : 2 ^ (j + 1) ≤ 2 ^ 64 := Nat.pow_le_pow_right (by omega) (by omega)
  have h5 : 2 ^ (j + 1) = 2 ^ j * 2 := Nat.pow_succ ..
  have h6 : 2 ^ 64 = 18446744073709551616 := rfl
  have l1 : u % 2 ^ (j + 1) < 18446744073709551616 := by omega
  have l2 : u % 2 ^ j < 18446744073709551616 := by omega
  unfold loN hiN
  rw [Nat.mod_eq_of_lt l1, Nat.mod_eq_of_lt l2, Nat.div_eq_of_lt l1, Nat.div_eq_of_lt l2]
  exact ⟨h1, rfl, h2⟩
theorem hi_step {u j : Nat} (hj : 64 ≤ j) (hj2 : j < 128) : hiN u (j + 1) = hiN u j + (u / 2 ^ j % 2) * 2 ^ (j - 64) ∧ loN u (j + 1) = loN u j ∧ hiN u j < 2 ^ (j - 64) := by
  have h1 := bit_step u j
  have h2 := Nat.mod_lt u (Nat.two_pow_pos j)
  have h5 : 2 ^ j = 18446744073709551616 * 2 ^ (j - 64) := by
    have : 2 ^ (64 + (j - 64)) = 2 ^ 64 * 2 ^ (j - 64) := Nat.pow_add ..
    rw [show 64 + (j - 64) = j by omega] at this
    rw [this]
  unfold loN hiN
  rw [h1, h5]
  obtain ⟨r, hr⟩ : ∃ r, r = u % (18446744073709551616 * 2 ^ (j - 64)) := ⟨_, rfl⟩
  obtain ⟨b, hb⟩ : ∃ r, r = u / (18446744073709551616 * 2 ^ (j - 64)) % 2 := ⟨_, rfl⟩
  rw [h5, ← hr] at h2
  rw [← hr, ← hb]
  have e : b * (18446744073709551616 * 2 ^ (j - 64)) = 18446744073709551616 * (b * 2 ^ (j - 64)) := by rw [← Nat.mul_assoc, ← Nat.mul_assoc, Nat.mul_comm b]
  rw [e, Nat.add_mul_div_left _ _ (by omega), Nat.add_mul_mod_self_left]
  exact ⟨rfl, rfl, Nat.div_lt_of_lt_mul h2⟩
theorem or_low {a k : Nat} (ha : a < 2 ^ k) (hk : k < 64) : bits BinOp.or .u64 (a : Int) (((2 ^ k : Nat)) : Int) = ((a + 2 ^ k : Nat) : Int) := by
  have h1 : 2 ^ (k + 1) ≤ 2 ^ 64 := Nat.pow_le_pow_right (by omega) (by omega)
  have h2 : 2 ^ (k + 1) = 2 ^ k * 2 := Nat.pow_succ ..
  have hw1 : Word (a : Int) := ⟨by omega, by omega⟩
  have hw2 : Word ((2 ^ k : Nat) : Int) := ⟨by omega, by omega⟩
  obtain ⟨x, y, e1, e2, _, _, e3⟩ := or_word hw1 hw2
  rw [e3]
  have ex : x = a := by omega
  have ey : y = 2 ^ k := by omega
  subst ex ey
  have h3 := Nat.two_pow_add_eq_or_of_lt ha 1
  rw [Nat.mul_one] at h3
  rw [Nat.or_comm, ← h3, Nat.add_comm]

theorem NB.put_mid {w wr : World} {g : Nat} {t : TypeId} {cs : Array Value} {gs1 gs2 : List (Nat × TypeId × Array Value)} (h : Hid (NB w (gs1 ++ (g, t, cs) :: gs2) wr)) (i : Nat) (v : Value) (hn : ∀ p ∈ gs1, p.1 ≠ g) (hn2 : ∀ p ∈ gs2, p.1 ≠ g) : Hid (NB w (gs1 ++ (g, t, cs.setIfInBounds i v) :: gs2) (wr.setCell ⟨g, i, none⟩ v)) := by
  have hm : (g, t, cs) ∈ gs1 ++ (g, t, cs) :: gs2 := List.mem_append_right _ (.head _)
  refine hide ⟨fun p hp => ?_, h.out.low.setCell (p := ⟨g, i, none⟩) (h.out.ge (g, t, cs) hm) v, fun p hp => ?_⟩
  · rcases List.mem_append.1 hp with h1 | h1
    · exact (h.out.bl p (List.mem_append_left _ h1)).far (p := ⟨g, i, none⟩) (hn p h1) v
    · rcases List.mem_cons.1 h1 with rfl | h1
      · exact (h.out.bl _ hm).set_ i v
      · exact (h.out.bl p (List.mem_append_right _ (.tail _ h1))).far (p := ⟨g, i, none⟩) (hn2 p h1) v
  · rcases List.mem_append.1 hp with h1 | h1
    · exact h.out.ge p (List.mem_append_left _ h1)
    · rcases List.mem_cons.1 h1 with rfl | h1
      · exact h.out.ge (g, t, cs) hm
      · exact h.out.ge p (List.mem_append_right _ (.tail _ h1))
theorem NB.tail {w wr : World} {q : Nat × TypeId × Array Value} {gs : List (Nat × TypeId × Array Value)} (h : Hid (NB w (q :: gs) wr)) : Hid (NB w gs wr) := hide ⟨fun p hp => h.out.bl p (.tail _ hp), h.out.low, fun p hp => h.out.ge p (.tail _ hp)⟩
theorem Dg.setOtherU {w : World} {n g i : Nat} {A : Option Addr} {ds : List Nat} {t : TypeId} {cs : Array Value} (h : Dg w A n ds) (hb : Blk w g t cs) (hcs : ∀ u ∈ cs.toList, ∀ z, u ≠ .int .i64 z) (v : Value) : Dg (w.setCell ⟨g, i, none⟩ v).drew A n ds := Dg.setOther (w := w) h hb hcs v

def RBitsRel (w : World) (n g0 g1 g2 tw u : Nat) (s : Bool) (A : Option Addr) (c : Nat) (d i : Value) (wr : World) : Prop :=
  ∃ (j k c1 : Nat) (A1 : Option Addr) (ds : List Nat), d = .slice A1 k c1 ∧ i = .int .i64 j ∧ j ≤ 128 ∧ Dg wr A1 k ds ∧ DOk ds ∧ k ≤ 200 ∧ k ≤ c1 ∧ dval ds = u / 2 ^ j ∧ Dg wr (some ⟨tw, 0, none⟩) 1 [2] ∧ Hid (NB w [(g2, 24, #[.int .u64 (hiN u j : Nat), .int .u64 (loN u j : Nat)]), (g1, 24, #[.int .u64 0, .int .u64 0]), (g0, NumT, #[.bool s, .slice A n c])] wr)

theorem bits_args {w wr : World} {g0 g1 g2 : Nat} {u v : Value} {t1 t2 t : TypeId} {c1 c2 : Array Value} (h : Hid (NB w [(g2, t2, c2), (g1, t1, c1), (g0, t, #[u, v])] wr)) : wr.cell? ⟨g0, 0, none⟩ = some u ∧ wr.cell? ⟨g0, 1, none⟩ = some v :=
  ⟨(NB.at_ h (.tail _ (.tail _ (.head _)))).cell 0, (NB.at_ h (.tail _ (.tail _ (.head _)))).cell 1⟩

set_option maxHeartbeats 16000000 in
theorem ref_bits {w : World} {n c : Nat} {A : Option Addr} {x : Int} (hx : Fits x) (h : Dg w A n (dgs x.natAbs)) (hn : n ≤ 100) (hc : n ≤ c) :
    Calls Tryd.prog 39 #[.agg #[.bool (decide (x < 0)), .slice A n c]] w fun e w' => e = .returned (wv (hiW x) (loW x)) ∧ Below w.heap.size w w' := by
  obtain ⟨u, hu⟩ : ∃ u, u = wordsN x := ⟨_, rfl⟩
  have hu1 : ∀ s : Bool, s = decide (x < 0) → (s = true → u = 2 ^ 128 - x.natAbs ∧ x.natAbs ≤ 2 ^ 128) ∧ (s = false → u = x.natAbs) := by
    intro s hs
    unfold wordsN at hu
    unfold Fits at hx
    constructor
    · intro h1
      rw [h1] at hs
      have := of_decide_eq_true hs.symm
      omega
    · intro h1
      rw [h1] at hs
      have := of_decide_eq_false hs.symm
      omega
  have hu2 : u < 2 ^ 128 := by rw [hu]; unfold wordsN; omega
  rw [← wordsN_hi x, ← wordsN_lo x, ← hu]
  obtain ⟨s, hs⟩ : ∃ s, s = decide (x < 0) := ⟨_, rfl⟩
  have HS := hide (hu1 s hs)
  rw [← hs]
  have HU2 := hide hu2
  have HB := NB.add 24 #[.int .u64 0, .int .u64 0] (NB.add 24 #[.int .u64 0, .int .u64 0] (NB.add NumT #[.bool s, .slice A n c] (NB.nil w)))
  have HG := hide h
  have HPW := hide (show ∀ W, Calls Tryd.prog 57 #[.int .i64 128] W (Digs W (128 + 1) (2 ^ 128)) from fun W => power_any 128 (by omega) W)
  clear h hs hu1 hu2 hu
  go_enter Tryd.func39, Tryd.ntmps39
  go_upto_region 2 with (fail)
  obtain ⟨W, hW⟩ : ∃ W : World, W = (((w.alloc (.cells #[.bool s, .slice A n c] NumT)).alloc (.cells #[.int .u64 0, .int .u64 0] 24)).alloc (.cells #[.int .u64 0, .int .u64 0] 24)) := ⟨_, rfl⟩
  obtain ⟨g0, hg0⟩ : ∃ g, g = w.heap.size := ⟨_, rfl⟩
  obtain ⟨g1, hg1⟩ : ∃ g, g = (w.alloc (.cells #[.bool s, .slice A n c] NumT)).heap.size := ⟨_, rfl⟩
  obtain ⟨g2, hg2⟩ : ∃ g, g = ((w.alloc (.cells #[.bool s, .slice A n c] NumT)).alloc (.cells #[.int .u64 0, .int .u64 0] 24)).heap.size := ⟨_, rfl⟩
  have hg1' : w.heap.size + 1 = g1 := by rw [hg1]; simp
  have hg2' : w.heap.size + 1 + 1 = g2 := by rw [hg2]; simp
  rw [← hW] at HB ⊢
  rw [← hg2, ← hg1, ← hg0] at HB
  try rw [hg2']
  try rw [hg1']
  try rw [← hg0]
  have hne : g0 ≠ g2 ∧ g1 ≠ g2 := by omega
  obtain ⟨n02, n12⟩ := hne
  clear hW hg0 hg1 hg1' hg2 hg2'
  obtain ⟨c0, c1, e0, e1⟩ := two_cellsN (NB.at_ HB (.tail _ (.tail _ (.head _))))
  cases s with
  | false =>
    obtain ⟨hd, ok, hk, hkc, hv⟩ : Dg W A n (dgs x.natAbs) ∧ DOk (dgs x.natAbs) ∧ n ≤ 200 ∧ n ≤ c ∧ dval (dgs x.natAbs) = u := ⟨HG.out.nbelow (w' := w) HB, dgs_dok _, by omega, hc, by rw [dgs_val]; exact (HS.out.2 rfl).symm⟩
    go_upto_region 5 with (fail)

    have HB1 := NB.next (w := w) ((Below.refl W.heap.size W).alloc (Nat.le_refl _) (.cells #[.int .i64 2] 3)) HB
    have HD1 := hide (hd.alloc (.cells #[.int .i64 2] 3))
    have HTW := hide (show Dg (W.alloc (.cells #[.int .i64 2] 3)) (some ⟨W.heap.size, 0, none⟩) 1 [2] from Dg.own rfl (own_one W 2))
    have HOK := hide ok
    have HV := hide hv
    clear hd ok hv
    obtain ⟨tw, htw⟩ : ∃ g, g = W.heap.size := ⟨_, rfl⟩
    rw [← htw] at HTW
    go_wp2_with fail
    rw [← htw]
    clear htw
    go_loopw [4, 6] (fun d i wr => RBitsRel w n g0 g1 g2 tw u false A c d i wr) (fun _ i _ => 128 - (intOf i).toNat)
    case atStart => exact ⟨0, n, c, A, dgs x.natAbs, rfl, rfl, by omega, HD1.out, HOK.out, hk, hkc, by rw [HV.out]; simp, HTW.out, by unfold hiN loN; simp [Nat.mod_one]; exact HB1⟩
    case round =>
      obtain ⟨j, k, c1, A1, ds, rfl, rfl, hj, hd, ok, hk, hkc, hv, htwo, HB2⟩ := hrel
      by_cases hj128 : j < 128
      · have hT := rtrim_any false hd ok (by omega) hkc
        rw [hv, Bool.false_and] at hT
        have HT := hide hT
        have HTWO := hide htwo
        have hdd : u / 2 ^ j / 2 = u / 2 ^ (j + 1) := by rw [Nat.div_div_eq_div_mul, Nat.pow_succ]
        have hlo := lo_step (u := u) (j := j)
        have hhi := hi_step (u := u) (j := j)
        have hvl : u / 2 ^ j < 10 ^ 39 := Nat.lt_of_le_of_lt (Nat.div_le_self _ _) (Nat.lt_trans HU2.out (by decide))
        obtain ⟨v, hvv⟩ : ∃ v, v = u / 2 ^ j := ⟨_, rfl⟩
        rw [← hvv] at hT hlo hhi hvl hdd HT
        have HVL := hide hvl
        have HDD := hide hdd
        have HLO := hide hlo
        have HHI := hide hhi
        clear hT hd ok hk hkc hv htwo hdd hlo hhi hvl hvv
        rcases Nat.mod_two_eq_zero_or_one v with hb01 | hb01
        · have HB01 := hide hb01
          clear hb01
          go_wp2_with (first
            | (go_at_call 36; (with_reducible refine HT.out.mono ?_); rintro e w1 ⟨A2, k2, cp2, rfl, hd2, hc2, hb2⟩; have HB3 := NB.next hb2 HB2; have HTW2 := hide (HTWO.out.below hb2); have hk2 := dgs_len v 39 HVL.out; have HQ := hide (quo_two v hd2 HTW2.out (by have := hd2.1; omega) hc2); clear hd2 hc2 hb2 hk2)
            | (go_at_call 54; (with_reducible refine HQ.out.mono ?_); rintro e w2 ⟨A3, k3, cp3, A4, k4, cp4, rfl, hd3, hk3, hk4, hb3⟩; have HB4 := NB.next hb3 HB3; have HTW3 := hide (HTW2.out.below hb3); have HD3 := hide (And.intro hd3 hk3); clear hd3 hk3 hb3; rw [HB01.out] at hk4; subst hk4))

          have HB5 := NB.next (w := w) (((Below.refl w2.heap.size w2).alloc (Nat.le_refl _) (.cells #[.bool false, .slice A3 k3 cp3] 43)).alloc (by simp) (.cells #[.bool false, .slice A4 0 cp4] 43)) HB4
          have HD4 := hide ((HD3.out.1.alloc (.cells #[.bool false, .slice A3 k3 cp3] 43)).alloc (.cells #[.bool false, .slice A4 0 cp4] 43))
          have HTW4 := hide ((HTW3.out.alloc (.cells #[.bool false, .slice A3 k3 cp3] 43)).alloc (.cells #[.bool false, .slice A4 0 cp4] 43))
          go_roundw
          case rel =>
            refine ⟨j + 1, k3, cp3, A3, dgs (v / 2), rfl, by go_num, by omega, HD4.out, dgs_dok _, by have h1 := HD4.out.1; have h2 := dgs_len (v / 2) 39 (Nat.lt_of_le_of_lt (Nat.div_le_self _ _) HVL.out); omega, HD3.out.2, by rw [dgs_val]; exact HDD.out, HTW4.out, ?_⟩
            have h1 : hiN u (j + 1) = hiN u j ∧ loN u (j + 1) = loN u j := by
              by_cases h64 : j < 64
              · have h2 := HLO.out h64
                rw [HB01.out, Nat.zero_mul, Nat.add_zero] at h2
                exact ⟨h2.2.1, h2.1⟩
              · have h2 := HHI.out (by omega) hj128
                rw [HB01.out, Nat.zero_mul, Nat.add_zero] at h2
                exact ⟨h2.1, h2.2.1⟩
            rw [h1.1, h1.2]
            exact HB5
          case measure => simp [intOf]; omega

        · have HB01 := hide hb01
          clear hb01
          by_cases h64 : j < 64
          · have h64' : ¬ 64 ≤ j := by omega
            go_wp2_with (first
              | (go_at_call 36; (with_reducible refine HT.out.mono ?_); rintro e w1 ⟨A2, k2, cp2, rfl, hd2, hc2, hb2⟩; have HB3 := NB.next hb2 HB2; have HTW2 := hide (HTWO.out.below hb2); have hk2 := dgs_len v 39 HVL.out; have HQ := hide (quo_two v hd2 HTW2.out (by have := hd2.1; omega) hc2); clear hd2 hc2 hb2 hk2)
              | (go_at_call 54; (with_reducible refine HQ.out.mono ?_); rintro e w2 ⟨A3, k3, cp3, A4, k4, cp4, rfl, hd3, hk3, hk4, hb3⟩; have HB4 := NB.next hb3 HB3; have HTW3 := hide (HTW2.out.below hb3); have HD3 := hide (And.intro hd3 hk3); clear hd3 hk3 hb3; rw [HB01.out] at hk4; subst hk4))

            have HB5 := NB.next (w := w) ((Below.refl (w2.alloc (.cells #[.bool false, .slice A3 k3 cp3] 43)).heap.size _).alloc (Nat.le_refl _) (.cells #[.bool false, .slice A4 1 cp4] 43)) (NB.add 43 #[.bool false, .slice A3 k3 cp3] HB4)
            have hg72 := (NB.at_ HB4 (.head _)).lt
            have HD4 := hide ((HD3.out.1.alloc (.cells #[.bool false, .slice A3 k3 cp3] 43)).alloc (.cells #[.bool false, .slice A4 1 cp4] 43))
            have HTW4 := hide ((HTW3.out.alloc (.cells #[.bool false, .slice A3 k3 cp3] 43)).alloc (.cells #[.bool false, .slice A4 1 cp4] 43))
            obtain ⟨W9, hW9⟩ : ∃ W9 : World, W9 = (w2.alloc (.cells #[.bool false, .slice A3 k3 cp3] 43)).alloc (.cells #[.bool false, .slice A4 1 cp4] 43) := ⟨_, rfl⟩
            obtain ⟨g7, hg7⟩ : ∃ g7, g7 = w2.heap.size := ⟨_, rfl⟩
            rw [← hW9] at HB5 HD4 HTW4 ⊢
            rw [← hg7] at HB5 hg72 ⊢
            clear hW9 hg7
            obtain ⟨x0, x1, y0, y1⟩ := two_cellsN (NB.at_ HB5 (.tail _ (.head _)))
            obtain ⟨lo, hlo⟩ : ∃ lo, lo = loN u j := ⟨_, rfl⟩
            obtain ⟨lo2, hlo2⟩ : ∃ lo2, lo2 = loN u (j + 1) := ⟨_, rfl⟩
            have h1 := HLO.out h64
            rw [HB01.out, Nat.one_mul, ← hlo, ← hlo2] at h1
            have e1 : IntKind.u64.wrap ((2 : Int) ^ j) = (2 : Int) ^ j := by
              have h2 : 2 ^ j < 2 ^ 64 := Nat.pow_lt_pow_right (by omega) (by omega)
              have h3 : ((2 ^ j : Nat) : Int) = (2 : Int) ^ j := by simp
              rw [← h3, IntKind.wrap_u64]
              omega
            have e2 : bits BinOp.or .u64 (lo : Int) ((2 : Int) ^ j) = (lo2 : Int) := by
              have h3 : ((2 ^ j : Nat) : Int) = (2 : Int) ^ j := by simp
              rw [← h3, or_low h1.2.2 (by omega), ← h1.1]
            have HH := hide (And.intro h1.2.1 (And.intro hlo hlo2))
            rw [← hlo] at x1 HB5
            clear h1 hlo hlo2
            go_still_tail 6, (by kernel_rfl)
            have HB6 := NB.drew (NB.put_mid (gs1 := [(g7, 43, #[.bool false, .slice A3 k3 cp3])]) HB5 1 (.int .u64 (lo2 : Int)) (by intro p hp; simp at hp; subst hp; exact (Nat.ne_of_gt hg72)) (by intro p hp; simp at hp; rcases hp with rfl | rfl; exact n12; exact n02))
            obtain ⟨z0, z1, v0, v1⟩ := two_cellsN (NB.at_ HB6 (.head _))
            go_wp2_with fail
            go_roundw
            case rel =>
              have hb2 := NB.at_ HB5 (.tail _ (.head _))
              refine ⟨j + 1, k3, cp3, A3, dgs (v / 2), rfl, by go_num, by omega, Dg.setOtherU HD4.out hb2 ?_ _, dgs_dok _, by have h1 := HD4.out.1; have h2 := dgs_len (v / 2) 39 (Nat.lt_of_le_of_lt (Nat.div_le_self _ _) HVL.out); omega, HD3.out.2, by rw [dgs_val]; exact HDD.out, Dg.setOtherU HTW4.out hb2 ?_ _, ?_⟩
              · intro u hu z; simp at hu; rcases hu with rfl | rfl <;> simp
              · intro u hu z; simp at hu; rcases hu with rfl | rfl <;> simp
              · rw [HH.out.1, ← HH.out.2.2]
                exact NB.tail HB6
            case measure => simp [intOf]; omega

          · have h64' : 64 ≤ j := by omega
            go_wp2_with (first
              | (go_at_call 36; (with_reducible refine HT.out.mono ?_); rintro e w1 ⟨A2, k2, cp2, rfl, hd2, hc2, hb2⟩; have HB3 := NB.next hb2 HB2; have HTW2 := hide (HTWO.out.below hb2); have hk2 := dgs_len v 39 HVL.out; have HQ := hide (quo_two v hd2 HTW2.out (by have := hd2.1; omega) hc2); clear hd2 hc2 hb2 hk2)
              | (go_at_call 54; (with_reducible refine HQ.out.mono ?_); rintro e w2 ⟨A3, k3, cp3, A4, k4, cp4, rfl, hd3, hk3, hk4, hb3⟩; have HB4 := NB.next hb3 HB3; have HTW3 := hide (HTW2.out.below hb3); have HD3 := hide (And.intro hd3 hk3); clear hd3 hk3 hb3; rw [HB01.out] at hk4; subst hk4))

            have HB5 := NB.next (w := w) ((Below.refl (w2.alloc (.cells #[.bool false, .slice A3 k3 cp3] 43)).heap.size _).alloc (Nat.le_refl _) (.cells #[.bool false, .slice A4 1 cp4] 43)) (NB.add 43 #[.bool false, .slice A3 k3 cp3] HB4)
            have hg72 := (NB.at_ HB4 (.head _)).lt
            have HD4 := hide ((HD3.out.1.alloc (.cells #[.bool false, .slice A3 k3 cp3] 43)).alloc (.cells #[.bool false, .slice A4 1 cp4] 43))
            have HTW4 := hide ((HTW3.out.alloc (.cells #[.bool false, .slice A3 k3 cp3] 43)).alloc (.cells #[.bool false, .slice A4 1 cp4] 43))
            obtain ⟨W9, hW9⟩ : ∃ W9 : World, W9 = (w2.alloc (.cells #[.bool false, .slice A3 k3 cp3] 43)).alloc (.cells #[.bool false, .slice A4 1 cp4] 43) := ⟨_, rfl⟩
            obtain ⟨g7, hg7⟩ : ∃ g7, g7 = w2.heap.size := ⟨_, rfl⟩
            rw [← hW9] at HB5 HD4 HTW4 ⊢
            rw [← hg7] at HB5 hg72 ⊢
            clear hW9 hg7
            obtain ⟨x0, x1, y0, y1⟩ := two_cellsN (NB.at_ HB5 (.tail _ (.head _)))
            obtain ⟨lo, hlo⟩ : ∃ lo, lo = hiN u j := ⟨_, rfl⟩
            obtain ⟨lo2, hlo2⟩ : ∃ lo2, lo2 = hiN u (j + 1) := ⟨_, rfl⟩
            have h1 := HHI.out h64' hj128
            obtain ⟨q, hq⟩ : ∃ q, q = j - 64 := ⟨_, rfl⟩
            have e11 : IntKind.i64.wrap (q : Int) = (q : Int) := IntWalk.i64_in _ (by omega)
            have e10 : IntKind.i64.wrap ((j - 64 : Nat) : Int) = (q : Int) := by rw [← hq]; exact e11
            have e9 : (j : Int) - 64 = (q : Int) := by omega
            have e12 : (0 : Int) ≤ (q : Int) := by omega
            have e13 : (q : Int) < 64 := by omega
            rw [HB01.out, Nat.one_mul, ← hlo, ← hlo2] at h1
            have e1 : IntKind.u64.wrap ((2 : Int) ^ (j - 64)) = (2 : Int) ^ (j - 64) := by
              have h2 : 2 ^ (j - 64) < 2 ^ 64 := Nat.pow_lt_pow_right (by omega) (by omega)
              have h3 : ((2 ^ (j - 64) : Nat) : Int) = (2 : Int) ^ (j - 64) := by simp
              rw [← h3, IntKind.wrap_u64]
              omega
            have e2 : bits BinOp.or .u64 (lo : Int) ((2 : Int) ^ (j - 64)) = (lo2 : Int) := by
              have h3 : ((2 ^ (j - 64) : Nat) : Int) = (2 : Int) ^ (j - 64) := by simp
              rw [← h3, or_low h1.2.2 (by omega), ← h1.1]
            have HH := hide (And.intro h1.2.1 (And.intro hlo hlo2))
            rw [← hlo] at x0 HB5
            clear h1 hlo hlo2
            go_still_tail 7, (by kernel_rfl)
            have HB6 := NB.drew (NB.put_mid (gs1 := [(g7, 43, #[.bool false, .slice A3 k3 cp3])]) HB5 0 (.int .u64 (lo2 : Int)) (by intro p hp; simp at hp; subst hp; exact (Nat.ne_of_gt hg72)) (by intro p hp; simp at hp; rcases hp with rfl | rfl; exact n12; exact n02))
            obtain ⟨z0, z1, v0, v1⟩ := two_cellsN (NB.at_ HB6 (.head _))
            go_wp2_with fail
            go_roundw
            case rel =>
              have hb2 := NB.at_ HB5 (.tail _ (.head _))
              refine ⟨j + 1, k3, cp3, A3, dgs (v / 2), rfl, by go_num, by omega, Dg.setOtherU HD4.out hb2 ?_ _, dgs_dok _, by have h1 := HD4.out.1; have h2 := dgs_len (v / 2) 39 (Nat.lt_of_le_of_lt (Nat.div_le_self _ _) HVL.out); omega, HD3.out.2, by rw [dgs_val]; exact HDD.out, Dg.setOtherU HTW4.out hb2 ?_ _, ?_⟩
              · intro u hu z; simp at hu; rcases hu with rfl | rfl <;> simp
              · intro u hu z; simp at hu; rcases hu with rfl | rfl <;> simp
              · rw [HH.out.1, ← HH.out.2.2]
                exact NB.tail HB6
            case measure => simp [intOf]; omega

      · obtain rfl : j = 128 := by omega
        obtain ⟨x0, x1, y0, y1⟩ := two_cellsN (NB.at_ HB2 (.head _))
        obtain ⟨z0, z1, v0, v1⟩ := two_cellsN (NB.at_ HB2 (.tail _ (.head _)))
        have hh : ((hiN u 128 : Nat) : Int) = hiW (u : Int) := by unfold hiN hiW; rw [Nat.mod_eq_of_lt HU2.out]; have := HU2.out; omega
        have hl : ((loN u 128 : Nat) : Int) = loW (u : Int) := by unfold loN loW; rw [Nat.mod_eq_of_lt HU2.out]; omega
        have HHL := hide (And.intro hh hl)
        obtain ⟨p, hp⟩ : ∃ p, p = hiN u 128 := ⟨_, rfl⟩
        obtain ⟨q, hq⟩ : ∃ q, q = loN u 128 := ⟨_, rfl⟩
        rw [← hp] at x0 HB2 HHL
        rw [← hq] at x1 HB2 HHL
        clear hd ok hk hkc hv htwo hh hl hp hq
        go_wp2_with fail
        have b1 := NB.at_ HB2 (.tail _ (.head _))
        have e1 := HB2.out.ge _ (List.Mem.tail _ (List.Mem.head _))
        rw [← HHL.out.1, ← HHL.out.2]
        exact ret_w rfl rfl rfl (set_twoN b1 _ _) ⟨rfl, (HB2.out.low.setCell (p := ⟨g1, 0, none⟩) e1 _).setCell (p := ⟨g1, 1, none⟩) e1 _⟩

  | true =>
    have HBD := NB.drew HB
    have HS1 := hide (HS.out.1 rfl)
    go_wp2_with fail
    go_region_held3 (fun w' => w'.cell? ⟨g0, 0, none⟩ = some (.bool true) ∧ w'.cell? ⟨g0, 1, none⟩ = some (.slice A n c))
      (first | exact bits_args (by assumption))
      (first
        | (go_at_call 57; (with_reducible refine (HPW.out _).mono ?_); rintro e wa ⟨A1, k1, cp1, ds1, rfl, hd1, ok1, hk1, hc1, hv1, hb1⟩; have hma := NB.next hb1 (by assumption); have HMI := hide (minus_any hd1 (HG.out.nbelow (w' := w) hma) ok1 (dgs_dok _) (by omega) (by omega) (by rw [dgs_val, hv1]; exact HS1.out.2) (c := cp1) (c' := c)))
        | (go_at_call 42; (with_reducible refine HMI.out.mono ?_); rintro e wb ⟨A2, k2, cp2, ds2, rfl, hd, ok, hk2, hkc, hv2, hb2⟩; have hmb := NB.next hb2 hma; have hv : dval ds2 = u := (by rw [hv2, hv1, dgs_val]; exact HS1.out.1.symm); have hk : k2 ≤ 200 := (by omega); clear hv2))
    all_goals
      go_upto_region 5 with (fail)

      have HB1 := NB.next (w := w) ((Below.refl wb.heap.size wb).alloc (Nat.le_refl _) (.cells #[.int .i64 2] 3)) hmb
      have HD1 := hide (hd.alloc (.cells #[.int .i64 2] 3))
      have HTW := hide (show Dg (wb.alloc (.cells #[.int .i64 2] 3)) (some ⟨wb.heap.size, 0, none⟩) 1 [2] from Dg.own rfl (own_one wb 2))
      have HOK := hide ok
      have HV := hide hv
      clear hd ok hv
      obtain ⟨tw, htw⟩ : ∃ g, g = wb.heap.size := ⟨_, rfl⟩
      rw [← htw] at HTW
      go_wp2_with fail
      rw [← htw]
      clear htw
      go_loopw [4, 6] (fun d i wr => RBitsRel w n g0 g1 g2 tw u true A c d i wr) (fun _ i _ => 128 - (intOf i).toNat)
      case atStart => exact ⟨0, k2, cp2, A2, ds2, rfl, rfl, by omega, HD1.out, HOK.out, hk, hkc, by rw [HV.out]; simp, HTW.out, by unfold hiN loN; simp [Nat.mod_one]; exact HB1⟩
      case round =>
        obtain ⟨j, k, c1, A1, ds, rfl, rfl, hj, hd, ok, hk, hkc, hv, htwo, HB2⟩ := hrel
        by_cases hj128 : j < 128
        · have hT := rtrim_any false hd ok (by omega) hkc
          rw [hv, Bool.false_and] at hT
          have HT := hide hT
          have HTWO := hide htwo
          have hdd : u / 2 ^ j / 2 = u / 2 ^ (j + 1) := by rw [Nat.div_div_eq_div_mul, Nat.pow_succ]
          have hlo := lo_step (u := u) (j := j)
          have hhi := hi_step (u := u) (j := j)
          have hvl : u / 2 ^ j < 10 ^ 39 := Nat.lt_of_le_of_lt (Nat.div_le_self _ _) (Nat.lt_trans HU2.out (by decide))
          obtain ⟨v, hvv⟩ : ∃ v, v = u / 2 ^ j := ⟨_, rfl⟩
          rw [← hvv] at hT hlo hhi hvl hdd HT
          have HVL := hide hvl
          have HDD := hide hdd
          have HLO := hide hlo
          have HHI := hide hhi
          clear hT hd ok hk hkc hv htwo hdd hlo hhi hvl hvv
          rcases Nat.mod_two_eq_zero_or_one v with hb01 | hb01
          · have HB01 := hide hb01
            clear hb01
            go_wp2_with (first
              | (go_at_call 36; (with_reducible refine HT.out.mono ?_); rintro e w1 ⟨A2, k2, cp2, rfl, hd2, hc2, hb2⟩; have HB3 := NB.next hb2 HB2; have HTW2 := hide (HTWO.out.below hb2); have hk2 := dgs_len v 39 HVL.out; have HQ := hide (quo_two v hd2 HTW2.out (by have := hd2.1; omega) hc2); clear hd2 hc2 hb2 hk2)
              | (go_at_call 54; (with_reducible refine HQ.out.mono ?_); rintro e w2 ⟨A3, k3, cp3, A4, k4, cp4, rfl, hd3, hk3, hk4, hb3⟩; have HB4 := NB.next hb3 HB3; have HTW3 := hide (HTW2.out.below hb3); have HD3 := hide (And.intro hd3 hk3); clear hd3 hk3 hb3; rw [HB01.out] at hk4; subst hk4))

            have HB5 := NB.next (w := w) (((Below.refl w2.heap.size w2).alloc (Nat.le_refl _) (.cells #[.bool false, .slice A3 k3 cp3] 43)).alloc (by simp) (.cells #[.bool false, .slice A4 0 cp4] 43)) HB4
            have HD4 := hide ((HD3.out.1.alloc (.cells #[.bool false, .slice A3 k3 cp3] 43)).alloc (.cells #[.bool false, .slice A4 0 cp4] 43))
            have HTW4 := hide ((HTW3.out.alloc (.cells #[.bool false, .slice A3 k3 cp3] 43)).alloc (.cells #[.bool false, .slice A4 0 cp4] 43))
            go_roundw
            case rel =>
              refine ⟨j + 1, k3, cp3, A3, dgs (v / 2), rfl, by go_num, by omega, HD4.out, dgs_dok _, by have h1 := HD4.out.1; have h2 := dgs_len (v / 2) 39 (Nat.lt_of_le_of_lt (Nat.div_le_self _ _) HVL.out); omega, HD3.out.2, by rw [dgs_val]; exact HDD.out, HTW4.out, ?_⟩
              have h1 : hiN u (j + 1) = hiN u j ∧ loN u (j + 1) = loN u j := by
                by_cases h64 : j < 64
                · have h2 := HLO.out h64
                  rw [HB01.out, Nat.zero_mul, Nat.add_zero] at h2
                  exact ⟨h2.2.1, h2.1⟩
                · have h2 := HHI.out (by omega) hj128
                  rw [HB01.out, Nat.zero_mul, Nat.add_zero] at h2
                  exact ⟨h2.1, h2.2.1⟩
              rw [h1.1, h1.2]
              exact HB5
            case measure => simp [intOf]; omega

          · have HB01 := hide hb01
            clear hb01
            by_cases h64 : j < 64
            · have h64' : ¬ 64 ≤ j := by omega
              go_wp2_with (first
                | (go_at_call 36; (with_reducible refine HT.out.mono ?_); rintro e w1 ⟨A2, k2, cp2, rfl, hd2, hc2, hb2⟩; have HB3 := NB.next hb2 HB2; have HTW2 := hide (HTWO.out.below hb2); have hk2 := dgs_len v 39 HVL.out; have HQ := hide (quo_two v hd2 HTW2.out (by have := hd2.1; omega) hc2); clear hd2 hc2 hb2 hk2)
                | (go_at_call 54; (with_reducible refine HQ.out.mono ?_); rintro e w2 ⟨A3, k3, cp3, A4, k4, cp4, rfl, hd3, hk3, hk4, hb3⟩; have HB4 := NB.next hb3 HB3; have HTW3 := hide (HTW2.out.below hb3); have HD3 := hide (And.intro hd3 hk3); clear hd3 hk3 hb3; rw [HB01.out] at hk4; subst hk4))

              have HB5 := NB.next (w := w) ((Below.refl (w2.alloc (.cells #[.bool false, .slice A3 k3 cp3] 43)).heap.size _).alloc (Nat.le_refl _) (.cells #[.bool false, .slice A4 1 cp4] 43)) (NB.add 43 #[.bool false, .slice A3 k3 cp3] HB4)
              have hg72 := (NB.at_ HB4 (.head _)).lt
              have HD4 := hide ((HD3.out.1.alloc (.cells #[.bool false, .slice A3 k3 cp3] 43)).alloc (.cells #[.bool false, .slice A4 1 cp4] 43))
              have HTW4 := hide ((HTW3.out.alloc (.cells #[.bool false, .slice A3 k3 cp3] 43)).alloc (.cells #[.bool false, .slice A4 1 cp4] 43))
              obtain ⟨W9, hW9⟩ : ∃ W9 : World, W9 = (w2.alloc (.cells #[.bool false, .slice A3 k3 cp3] 43)).alloc (.cells #[.bool false, .slice A4 1 cp4] 43) := ⟨_, rfl⟩
              obtain ⟨g7, hg7⟩ : ∃ g7, g7 = w2.heap.size := ⟨_, rfl⟩
              rw [← hW9] at HB5 HD4 HTW4 ⊢
              rw [← hg7] at HB5 hg72 ⊢
              clear hW9 hg7
              obtain ⟨x0, x1, y0, y1⟩ := two_cellsN (NB.at_ HB5 (.tail _ (.head _)))
              obtain ⟨lo, hlo⟩ : ∃ lo, lo = loN u j := ⟨_, rfl⟩
              obtain ⟨lo2, hlo2⟩ : ∃ lo2, lo2 = loN u (j + 1) := ⟨_, rfl⟩
              have h1 := HLO.out h64
              rw [HB01.out, Nat.one_mul, ← hlo, ← hlo2] at h1
              have e1 : IntKind.u64.wrap ((2 : Int) ^ j) = (2 : Int) ^ j := by
                have h2 : 2 ^ j < 2 ^ 64 := Nat.pow_lt_pow_right (by omega) (by omega)
                have h3 : ((2 ^ j : Nat) : Int) = (2 : Int) ^ j := by simp
                rw [← h3, IntKind.wrap_u64]
                omega
              have e2 : bits BinOp.or .u64 (lo : Int) ((2 : Int) ^ j) = (lo2 : Int) := by
                have h3 : ((2 ^ j : Nat) : Int) = (2 : Int) ^ j := by simp
                rw [← h3, or_low h1.2.2 (by omega), ← h1.1]
              have HH := hide (And.intro h1.2.1 (And.intro hlo hlo2))
              rw [← hlo] at x1 HB5
              clear h1 hlo hlo2
              go_still_tail 6, (by kernel_rfl)
              have HB6 := NB.drew (NB.put_mid (gs1 := [(g7, 43, #[.bool false, .slice A3 k3 cp3])]) HB5 1 (.int .u64 (lo2 : Int)) (by intro p hp; simp at hp; subst hp; exact (Nat.ne_of_gt hg72)) (by intro p hp; simp at hp; rcases hp with rfl | rfl; exact n12; exact n02))
              obtain ⟨z0, z1, v0, v1⟩ := two_cellsN (NB.at_ HB6 (.head _))
              go_wp2_with fail
              go_roundw
              case rel =>
                have hb2 := NB.at_ HB5 (.tail _ (.head _))
                refine ⟨j + 1, k3, cp3, A3, dgs (v / 2), rfl, by go_num, by omega, Dg.setOtherU HD4.out hb2 ?_ _, dgs_dok _, by have h1 := HD4.out.1; have h2 := dgs_len (v / 2) 39 (Nat.lt_of_le_of_lt (Nat.div_le_self _ _) HVL.out); omega, HD3.out.2, by rw [dgs_val]; exact HDD.out, Dg.setOtherU HTW4.out hb2 ?_ _, ?_⟩
                · intro u hu z; simp at hu; rcases hu with rfl | rfl <;> simp
                · intro u hu z; simp at hu; rcases hu with rfl | rfl <;> simp
                · rw [HH.out.1, ← HH.out.2.2]
                  exact NB.tail HB6
              case measure => simp [intOf]; omega

            · have h64' : 64 ≤ j := by omega
              go_wp2_with (first
                | (go_at_call 36; (with_reducible refine HT.out.mono ?_); rintro e w1 ⟨A2, k2, cp2, rfl, hd2, hc2, hb2⟩; have HB3 := NB.next hb2 HB2; have HTW2 := hide (HTWO.out.below hb2); have hk2 := dgs_len v 39 HVL.out; have HQ := hide (quo_two v hd2 HTW2.out (by have := hd2.1; omega) hc2); clear hd2 hc2 hb2 hk2)
                | (go_at_call 54; (with_reducible refine HQ.out.mono ?_); rintro e w2 ⟨A3, k3, cp3, A4, k4, cp4, rfl, hd3, hk3, hk4, hb3⟩; have HB4 := NB.next hb3 HB3; have HTW3 := hide (HTW2.out.below hb3); have HD3 := hide (And.intro hd3 hk3); clear hd3 hk3 hb3; rw [HB01.out] at hk4; subst hk4))

              have HB5 := NB.next (w := w) ((Below.refl (w2.alloc (.cells #[.bool false, .slice A3 k3 cp3] 43)).heap.size _).alloc (Nat.le_refl _) (.cells #[.bool false, .slice A4 1 cp4] 43)) (NB.add 43 #[.bool false, .slice A3 k3 cp3] HB4)
              have hg72 := (NB.at_ HB4 (.head _)).lt
              have HD4 := hide ((HD3.out.1.alloc (.cells #[.bool false, .slice A3 k3 cp3] 43)).alloc (.cells #[.bool false, .slice A4 1 cp4] 43))
              have HTW4 := hide ((HTW3.out.alloc (.cells #[.bool false, .slice A3 k3 cp3] 43)).alloc (.cells #[.bool false, .slice A4 1 cp4] 43))
              obtain ⟨W9, hW9⟩ : ∃ W9 : World, W9 = (w2.alloc (.cells #[.bool false, .slice A3 k3 cp3] 43)).alloc (.cells #[.bool false, .slice A4 1 cp4] 43) := ⟨_, rfl⟩
              obtain ⟨g7, hg7⟩ : ∃ g7, g7 = w2.heap.size := ⟨_, rfl⟩
              rw [← hW9] at HB5 HD4 HTW4 ⊢
              rw [← hg7] at HB5 hg72 ⊢
              clear hW9 hg7
              obtain ⟨x0, x1, y0, y1⟩ := two_cellsN (NB.at_ HB5 (.tail _ (.head _)))
              obtain ⟨lo, hlo⟩ : ∃ lo, lo = hiN u j := ⟨_, rfl⟩
              obtain ⟨lo2, hlo2⟩ : ∃ lo2, lo2 = hiN u (j + 1) := ⟨_, rfl⟩
              have h1 := HHI.out h64' hj128
              obtain ⟨q, hq⟩ : ∃ q, q = j - 64 := ⟨_, rfl⟩
              have e11 : IntKind.i64.wrap (q : Int) = (q : Int) := IntWalk.i64_in _ (by omega)
              have e10 : IntKind.i64.wrap ((j - 64 : Nat) : Int) = (q : Int) := by rw [← hq]; exact e11
              have e9 : (j : Int) - 64 = (q : Int) := by omega
              have e12 : (0 : Int) ≤ (q : Int) := by omega
              have e13 : (q : Int) < 64 := by omega
              rw [HB01.out, Nat.one_mul, ← hlo, ← hlo2] at h1
              have e1 : IntKind.u64.wrap ((2 : Int) ^ (j - 64)) = (2 : Int) ^ (j - 64) := by
                have h2 : 2 ^ (j - 64) < 2 ^ 64 := Nat.pow_lt_pow_right (by omega) (by omega)
                have h3 : ((2 ^ (j - 64) : Nat) : Int) = (2 : Int) ^ (j - 64) := by simp
                rw [← h3, IntKind.wrap_u64]
                omega
              have e2 : bits BinOp.or .u64 (lo : Int) ((2 : Int) ^ (j - 64)) = (lo2 : Int) := by
                have h3 : ((2 ^ (j - 64) : Nat) : Int) = (2 : Int) ^ (j - 64) := by simp
                rw [← h3, or_low h1.2.2 (by omega), ← h1.1]
              have HH := hide (And.intro h1.2.1 (And.intro hlo hlo2))
              rw [← hlo] at x0 HB5
              clear h1 hlo hlo2
              go_still_tail 7, (by kernel_rfl)
              have HB6 := NB.drew (NB.put_mid (gs1 := [(g7, 43, #[.bool false, .slice A3 k3 cp3])]) HB5 0 (.int .u64 (lo2 : Int)) (by intro p hp; simp at hp; subst hp; exact (Nat.ne_of_gt hg72)) (by intro p hp; simp at hp; rcases hp with rfl | rfl; exact n12; exact n02))
              obtain ⟨z0, z1, v0, v1⟩ := two_cellsN (NB.at_ HB6 (.head _))
              go_wp2_with fail
              go_roundw
              case rel =>
                have hb2 := NB.at_ HB5 (.tail _ (.head _))
                refine ⟨j + 1, k3, cp3, A3, dgs (v / 2), rfl, by go_num, by omega, Dg.setOtherU HD4.out hb2 ?_ _, dgs_dok _, by have h1 := HD4.out.1; have h2 := dgs_len (v / 2) 39 (Nat.lt_of_le_of_lt (Nat.div_le_self _ _) HVL.out); omega, HD3.out.2, by rw [dgs_val]; exact HDD.out, Dg.setOtherU HTW4.out hb2 ?_ _, ?_⟩
                · intro u hu z; simp at hu; rcases hu with rfl | rfl <;> simp
                · intro u hu z; simp at hu; rcases hu with rfl | rfl <;> simp
                · rw [HH.out.1, ← HH.out.2.2]
                  exact NB.tail HB6
              case measure => simp [intOf]; omega

        · obtain rfl : j = 128 := by omega
          obtain ⟨x0, x1, y0, y1⟩ := two_cellsN (NB.at_ HB2 (.head _))
          obtain ⟨z0, z1, v0, v1⟩ := two_cellsN (NB.at_ HB2 (.tail _ (.head _)))
          have hh : ((hiN u 128 : Nat) : Int) = hiW (u : Int) := by unfold hiN hiW; rw [Nat.mod_eq_of_lt HU2.out]; have := HU2.out; omega
          have hl : ((loN u 128 : Nat) : Int) = loW (u : Int) := by unfold loN loW; rw [Nat.mod_eq_of_lt HU2.out]; omega
          have HHL := hide (And.intro hh hl)
          obtain ⟨p, hp⟩ : ∃ p, p = hiN u 128 := ⟨_, rfl⟩
          obtain ⟨q, hq⟩ : ∃ q, q = loN u 128 := ⟨_, rfl⟩
          rw [← hp] at x0 HB2 HHL
          rw [← hq] at x1 HB2 HHL
          clear hd ok hk hkc hv htwo hh hl hp hq
          go_wp2_with fail
          have b1 := NB.at_ HB2 (.tail _ (.head _))
          have e1 := HB2.out.ge _ (List.Mem.tail _ (List.Mem.head _))
          rw [← HHL.out.1, ← HHL.out.2]
          exact ret_w rfl rfl rfl (set_twoN b1 _ _) ⟨rfl, (HB2.out.low.setCell (p := ⟨g1, 0, none⟩) e1 _).setCell (p := ⟨g1, 1, none⟩) e1 _⟩

end Go.Proofs.YtgleldpdelhhhaaDoor
