/- The reference's comparison of texts; whether facts can be, as it tells; conditions: their sizes. -/
import Derived.Test.YtgnobpljnahceaaDoorFcR
namespace Go.Proofs.YtgnobpljnahceaaDoor
open Go.RowKit Go.WideShapes Go.ChangeShapes Go.Shelf
set_option linter.unusedVariables false
set_option linter.unusedSimpArgs false
set_option maxRecDepth 100000

def cmpL (x y : List UInt8) : Int := if Op.bytesLess x y = true then -1 else if (x == y) = true then 0 else 1
def cmpS (s t : ByteArray) : Int := cmpL s.data.toList t.data.toList
theorem cmpL_s (s t : ByteArray) : cmpS s t = cmpL s.data.toList t.data.toList := rfl
theorem cmpL_nil : cmpL [] [] = 0 := rfl
theorem cmpL_left (b : UInt8) (y : List UInt8) : cmpL [] (b :: y) = -1 := rfl
theorem cmpL_right (a : UInt8) (x : List UInt8) : cmpL (a :: x) [] = 1 := rfl
theorem cmpL_lt {a b : UInt8} (x y : List UInt8) (h : a.toNat < b.toNat) : cmpL (a :: x) (b :: y) = -1 := by
  have h1 : a < b := UInt8.lt_iff_toNat_lt.2 h
  unfold cmpL; simp [Op.bytesLess, h1]
theorem cmpL_gt {a b : UInt8} (x y : List UInt8) (h : b.toNat < a.toNat) : cmpL (a :: x) (b :: y) = 1 := by
  have h1 : b < a := UInt8.lt_iff_toNat_lt.2 h
  have h2 : ¬ a < b := fun e => by have := UInt8.lt_iff_toNat_lt.1 e; omega
  have h3 : a ≠ b := fun e => by subst e; omega
  unfold cmpL; simp [Op.bytesLess, h2, h3]
theorem cmpL_eq {a b : UInt8} (x y : List UInt8) (h : a.toNat = b.toNat) : cmpL (a :: x) (b :: y) = cmpL x y := by
  obtain rfl := UInt8.toNat_inj.1 h
  have h2 : ¬ a < a := fun e => by have := UInt8.lt_iff_toNat_lt.1 e; omega
  unfold cmpL; simp [Op.bytesLess, h2]
theorem drop_str (s : ByteArray) (k : Nat) (h : k < s.size) : s.data.toList.drop k = s[k] :: s.data.toList.drop (k + 1) := by
  rw [List.drop_eq_getElem_cons (by simpa using h)]
  rfl
theorem drop_out (s : ByteArray) (k : Nat) (h : ¬ k < s.size) : s.data.toList.drop k = [] := List.drop_of_length_le (by simpa using Nat.le_of_not_lt h)

/-- How far the comparison of texts has come. -/
def RTextsRel (w : World) (s t : ByteArray) (i : Value) (wr : World) : Prop :=
  ∃ k : Nat, i = .int .i64 (k : Int) ∧ k ≤ s.size ∧ k ≤ t.size ∧ cmpS s t = cmpL (s.data.toList.drop k) (t.data.toList.drop k) ∧ ∃ q, wr = w.drewN q

set_option maxHeartbeats 4000000 in
theorem rtexts_any (s t : ByteArray) (hs : s.size ≤ 4611686018427387904) (ht : t.size ≤ 4611686018427387904) (w : World) :
    Calls Tryd.prog 24 #[.string s, .string t] w fun e w' => e = .returned (.int .i64 (cmpS s t)) ∧ ∃ q, w' = w.drewN q := by
  obtain ⟨c, hc⟩ : ∃ c, c = cmpS s t := ⟨_, rfl⟩
  rw [← hc]
  have HC := hide hc
  have HS := hide (And.intro hs ht)
  have hz : s.size ≤ 9223372036854775807 := by omega
  have hz2 : t.size ≤ 9223372036854775807 := by omega
  clear hc
  go_enter Tryd.func24, Tryd.ntmps24
  go_wp2_with fail
  go_loopw [5] (fun i wr => RTextsRel w s t i wr) (fun i _ => (((s.size : Int) - intOf i).toNat))
  case atStart => exact ⟨0, rfl, Nat.zero_le _, Nat.zero_le _, by rw [cmpL_s]; rfl, 0, rfl⟩
  case round =>
    obtain ⟨k, rfl, hks, hkt, hcm, q, rfl⟩ := hrel
    have HCM := hide hcm
    clear hcm
    by_cases h1 : k < s.size
    · by_cases h2 : k < t.size
      · have e1 := drop_str s k h1
        have e2 := drop_str t k h2
        have hcm := HCM.out
        rw [e1, e2] at hcm
        have i1 : (k : Int) < (s.size : Int) := by omega
        have i2 : (k : Int) < (t.size : Int) := by omega
        obtain ⟨a, ha⟩ : ∃ a : Nat, a = (s[k]'h1).toNat := ⟨_, rfl⟩
        obtain ⟨b, hb⟩ : ∃ b : Nat, b = (t[k]'h2).toNat := ⟨_, rfl⟩
        have haI : ((s[k]'h1).toNat : Int) = (a : Int) := by rw [ha]
        have hbI : ((t[k]'h2).toNat : Int) = (b : Int) := by rw [hb]
        rcases Nat.lt_trichotomy a b with g | g | g
        · rw [cmpL_lt _ _ (by omega)] at hcm
          have HE := hide (HC.out.trans hcm)
          clear hcm e1 e2 ha hb
          have g1 : (a : Int) < (b : Int) := by omega
          go_wp2_with fail
          go_quiet (fail)
          go_wp2_with fail
          go_ret
          exact ⟨by rw [HE.out]; rfl, ⟨_, by first | rfl | rw [World.drewN_drewN, World.drewN_drewN] | rw [World.drewN_drewN]⟩⟩
        · rw [cmpL_eq _ _ (by omega)] at hcm
          have HE := hide hcm
          clear hcm e1 e2 ha hb
          have g1 : ¬ (a : Int) < (b : Int) := by omega
          have g2 : ¬ (b : Int) < (a : Int) := by omega
          subst g
          go_wp2_with fail
          go_quiet (fail)
          go_wp2_with fail
          go_quiet (fail)
          go_wp2_with fail
          exact ⟨⟨k + 1, by simp, by omega, by omega, HE.out, ⟨_, by first | rfl | rw [World.drewN_drewN, World.drewN_drewN] | rw [World.drewN_drewN]⟩⟩, by simp [intOf]; omega⟩
        · rw [cmpL_gt _ _ (by omega)] at hcm
          have HE := hide (HC.out.trans hcm)
          clear hcm e1 e2 ha hb
          have g1 : ¬ (a : Int) < (b : Int) := by omega
          have g2 : (b : Int) < (a : Int) := by omega
          go_wp2_with fail
          go_quiet (fail)
          go_wp2_with fail
          go_quiet (fail)
          go_wp2_with fail
          go_ret
          exact ⟨by rw [HE.out]; rfl, ⟨_, by first | rfl | rw [World.drewN_drewN, World.drewN_drewN] | rw [World.drewN_drewN]⟩⟩
      · have e2 := drop_out t k h2
        have hcm := HCM.out
        rw [drop_str s k h1, e2, cmpL_right] at hcm
        have HE := hide (HC.out.trans hcm)
        have hkk : k = t.size := by omega
        subst hkk
        clear hcm e2 HCM
        have i1 : (t.size : Int) < (s.size : Int) := by omega
        have i2 : ¬ (s.size : Int) < (t.size : Int) := by omega
        go_wp2_with fail
        go_ret
        exact ⟨by rw [HE.out]; rfl, ⟨_, rfl⟩⟩
    · have e1 := drop_out s k h1
      have hcm := HCM.out
      have hkk : k = s.size := by omega
      subst hkk
      by_cases h2 : s.size < t.size
      · rw [e1, drop_str t _ h2, cmpL_left] at hcm
        have HE := hide (HC.out.trans hcm)
        clear hcm e1 HCM
        have i1 : (s.size : Int) < (t.size : Int) := by omega
        go_wp2_with fail
        go_ret
        exact ⟨by rw [HE.out]; rfl, ⟨_, rfl⟩⟩
      · rw [e1, drop_out t _ h2, cmpL_nil] at hcm
        have HE := hide (HC.out.trans hcm)
        clear hcm e1 HCM
        have hst : t.size = s.size := by omega
        have i1 : ¬ (s.size : Int) < (t.size : Int) := by omega
        have i2 : ¬ (t.size : Int) < (s.size : Int) := by omega
        go_wp2_with fail
        go_ret
        exact ⟨by rw [HE.out]; rfl, ⟨_, rfl⟩⟩

/-- Whether a key is quoted byte for byte. -/
def plainB (l : Bs) : Bool := quotedB l && decide (l.length ≤ 4096)
set_option maxHeartbeats 2000000 in
theorem rplain (s : ByteArray) (hs : s.size ≤ 4611686018427387904) (w : World) : Calls Tryd.prog 23 #[.string s] w fun e w' => e = .returned (.bool (plainB s.data.toList)) ∧ w = w' := by
  go_enter Tryd.func23, Tryd.ntmps23
  go_wp2_with fail
  go_loopw [3] (fun j wr => QuoRel w s j wr) (fun j _ => (((s.size : Int) - intOf j).toNat))
  case atStart => exact ⟨0, rfl, Nat.zero_le _, rfl, rfl⟩
  case round =>
    obtain ⟨k, rfl, hk, hq, rfl⟩ := hrel
    by_cases hlt : k < s.size
    · have j1 : (k : Int) < (s.size : Int) := by omega
      have q1 : IntKind.i64.wrap ((k : Int) + 1) = (k : Int) + 1 := IntWalk.i64_in _ (by omega)
      rw [drop_next hlt] at hq
      obtain ⟨c, hc⟩ : ∃ c : UInt8, c = s[k]'hlt := ⟨_, rfl⟩
      rw [← hc] at hq
      have HQ := hide hq
      by_cases h1 : (c.toNat : Int) < 32
      · by_cases h2 : (c.toNat : Int) = 10
        · have hn : quotedB s.data.toList = quotedB (s.data.toList.drop (k + 1)) := by rw [hq]; simp [quotedB, keptC, h2]
          have HN := hide hn
          clear hn hq
          rw [hc] at h1 h2
          clear hc
          go_wp2_with fail
          go_roundw
          case rel => exact ⟨k + 1, by simp, by omega, HN.out, rfl⟩
          case measure => simp [intOf]; omega
        · by_cases h3 : (c.toNat : Int) = 9
          · have hn : quotedB s.data.toList = quotedB (s.data.toList.drop (k + 1)) := by rw [hq]; simp [quotedB, keptC, h3]
            have HN := hide hn
            clear hn hq
            rw [hc] at h1 h2 h3
            clear hc
            go_wp2_with fail
            go_roundw
            case rel => exact ⟨k + 1, by simp, by omega, HN.out, rfl⟩
            case measure => simp [intOf]; omega
          · have hn : plainB s.data.toList = false := by unfold plainB; rw [hq]; simp [quotedB, keptC, h1, h2, h3]
            have HN := hide hn
            have e2 : ((c.toNat : Int) != 10) = true := bne_iff_ne.2 h2
            have e3 : ((c.toNat : Int) != 9) = true := bne_iff_ne.2 h3
            clear hn hq
            rw [hc] at h1 h2 h3 e2 e3
            clear hc
            go_wp2_with fail
            go_ret
            exact ⟨by rw [HN.out]; rfl, rfl⟩
      · have hn : quotedB s.data.toList = quotedB (s.data.toList.drop (k + 1)) := by rw [hq]; simp [quotedB, keptC, h1]
        have HN := hide hn
        clear hn hq
        rw [hc] at h1
        clear hc
        go_wp2_with fail
        go_roundw
        case rel => exact ⟨k + 1, by simp, by omega, HN.out, rfl⟩
        case measure => simp [intOf]; omega
    · have j1 : ¬ (k : Int) < (s.size : Int) := by omega
      have hn : quotedB s.data.toList = true := by rw [hq, List.drop_eq_nil_of_le (by rw [← Go.Lib.size_eq]; omega)]; rfl
      have hp : plainB s.data.toList = decide (s.size ≤ 4096) := by unfold plainB; rw [hn, ← Go.Lib.size_eq]; rfl
      have HN := hide hp
      clear hn hq hp
      by_cases h4 : s.size ≤ 4096
      · have i4 : (s.size : Int) ≤ 4096 := by omega
        go_wp2_with fail
        go_ret
        exact ⟨by rw [HN.out, decide_eq_true h4]; rfl, rfl⟩
      · have i4 : ¬ (s.size : Int) ≤ 4096 := by omega
        go_wp2_with fail
        go_ret
        exact ⟨by rw [HN.out, decide_eq_false h4]; rfl, rfl⟩
theorem cmp_neg (x y : Bs) : (cmpL x y = -1 ∧ Op.bytesLess x y = true) ∨ (0 ≤ cmpL x y ∧ Op.bytesLess x y = false) := by
  unfold cmpL
  cases h : Op.bytesLess x y with
  | true => exact .inl ⟨by simp, rfl⟩
  | false => refine .inr ⟨?_, rfl⟩; split <;> (try simp at *); split <;> omega
theorem drew_more {w W : World} {q : Nat} (h : W = w.drewN q) (n : Nat) : ∃ m, W.drewN n = w.drewN m := ⟨q + n, by rw [h, World.drewN_drewN]⟩
def GoodRel (w : World) (l : List TD) (i : Value) (wr : World) : Prop := ∃ k : Nat, i = .int .i64 (k : Int) ∧ k ≤ l.length ∧ okS none l = okS (prevK l k) (l.drop k) ∧ ∃ q, wr = w.drewN q
set_option maxHeartbeats 8000000 in
theorem rgood (v : Value) (l : List TD) (w : World) (h : TDs w v l) (hl : l.length ≤ 65536) (hk : ∀ t ∈ l, t.k.length ≤ 100000 ∧ t.s.length ≤ 100000) :
    Calls Tryd.prog 10 #[v] w fun e w' => e = .returned (.bool (okS none l)) ∧ ∃ q, w' = w.drewN q := by
  obtain ⟨A, c, rfl, hc⟩ := h
  have HC := hide hc
  have HK := hide hk
  obtain ⟨n, hn⟩ : ∃ n, n = l.length := ⟨_, rfl⟩
  rw [← hn]
  have i0 : (n : Int) ≤ 65536 := by omega
  have HN := hide (And.intro hn hl)
  clear hn hl hc hk
  go_enter Tryd.func10, Tryd.ntmps10
  go_wp2_with fail
  go_loopw [3] (fun i wr => GoodRel w l i wr) (fun i _ => (((n : Int) - intOf i).toNat))
  case atStart => exact ⟨0, rfl, Nat.zero_le _, rfl, 0, rfl⟩
  case round =>
    obtain ⟨k, rfl, hk, hok, q, hwr⟩ := hrel
    have HWR := hide hwr
    have HBW := hide (show Below w.heap.size w wr from by rw [hwr]; exact below_drewNL (Below.refl _ _) q)
    clear hwr
    by_cases hlt : k < n
    · have j1 : (k : Int) < (n : Int) := by omega
      have q2 : IntKind.i64.wrap ((k : Int) + 1) = (k : Int) + 1 := IntWalk.i64_in _ (by have := HN.out; omega)
      obtain ⟨t, ht⟩ : ∃ t, l[k]? = some t := ⟨_, List.getElem?_eq_getElem (by have := HN.out; omega)⟩
      obtain ⟨blk, off, bv, rfl, hbl, c0, c1, c2, hbo⟩ := HC.out k t ht
      replace c0 := (HBW.out.cell (p := ⟨blk, _, none⟩) hbl).trans c0
      replace c2 := (HBW.out.cell (p := ⟨blk, _, none⟩) hbl).trans c2
      obtain ⟨A2, cc2, rfl, hbo2⟩ := hbo
      have hdr : l.drop k = t :: l.drop (k + 1) := by rw [List.drop_eq_getElem_cons (by have := HN.out; omega)]; rw [(List.getElem?_eq_some_iff.1 ht).2]
      rw [hdr, okS_cons] at hok
      have hpk : prevK l (k + 1) = some t.k := by unfold prevK; rw [if_neg (by omega), Nat.add_sub_cancel, ht]; rfl
      have htm := HK.out t (List.mem_of_getElem? ht)
      obtain ⟨K, hK⟩ : ∃ K : ByteArray, K = ⟨t.k.toArray⟩ := ⟨_, rfl⟩
      have hKs : K.size = t.k.length := by rw [hK, ba_size]
      have hKd : K.data.toList = t.k := by rw [hK]
      rw [← hK] at c0
      obtain ⟨m, hm⟩ : ∃ m, m = t.s.length := ⟨_, rfl⟩
      rw [← hm] at c2
      have hQ := rplain K (by omega)
      rw [hKd] at hQ
      have HQ := hide hQ
      have HOK := hide hok
      have HPK := hide hpk
      have HTM := hide (And.intro htm (And.intro hKs (And.intro hm hKd)))
      have HT := hide ht
      clear hok hpk htm hKs hm hK hKd hbo2 hdr c1 ht hQ
      go_wp2_with fail
      cases hp : plainB t.k with
      | false =>
        have hf : okS none l = false := by
          rw [HOK.out]
          have : okT t = false := by
            unfold okT
            unfold plainB at hp
            cases h1 : quotedB t.k with
            | false => simp
            | true =>
              rw [h1, Bool.true_and] at hp
              rw [hp]; rfl
          rw [this]; rfl
        have HF := hide hf
        rw [hp] at HQ
        clear hp hf
        go_quiet (with_reducible exact quiet_left (HQ.out _))
        go_wp2_with fail
        go_ret
        exact ⟨by rw [HF.out]; rfl, drew_more HWR.out _⟩
      | true =>
        have HP := hide hp
        rw [hp] at HQ
        clear hp
        have hot : okT t = decide (t.s.length ≤ 4096) := by
          have h1 := HP.out
          unfold plainB at h1
          rw [Bool.and_eq_true] at h1
          unfold okT
          rw [h1.1, h1.2]
          simp
        by_cases h2 : 4096 < m
        · have k2 : (4096 : Int) < (m : Int) := by omega
          have hf : okS none l = false := by
            rw [HOK.out, hot, decide_eq_false (by have := HTM.out; omega)]; rfl
          have HF := hide hf
          clear hf hot
          go_quiet (with_reducible exact quiet_left (HQ.out _))
          go_wp2_with fail
          go_ret
          exact ⟨by rw [HF.out]; rfl, drew_more HWR.out _⟩
        · have k2 : ¬ (4096 : Int) < (m : Int) := by omega
          have hot1 : okT t = true := by rw [hot, decide_eq_true (by have := HTM.out; omega)]
          have HO := hide hot1
          clear hot hot1
          by_cases hk0 : k = 0
          · have k3 : ¬ (0 : Int) < (k : Int) := by omega
            have k3n : ¬ 0 < k := by omega
            have hpz : prevK l k = none := by unfold prevK; rw [if_pos hk0]
            have hf : okS none l = okS (prevK l (k + 1)) (l.drop (k + 1)) := by rw [HOK.out, HO.out, HPK.out, hpz]; rfl
            have HF := hide hf
            clear hf hpz hk0
            go_quiet (with_reducible exact quiet_left (HQ.out _))
            go_wp2_with fail
            go_roundw
            case rel => exact ⟨k + 1, by simp, by have := HN.out; omega, HF.out, drew_more HWR.out _⟩
            case measure => simp [intOf]; omega
          · obtain ⟨k', hk'⟩ : ∃ k', k = k' + 1 := ⟨k - 1, by omega⟩
            obtain ⟨tp, htp⟩ : ∃ t, l[k']? = some t := ⟨_, List.getElem?_eq_getElem (by have := HN.out; omega)⟩
            obtain ⟨blk', off', bv', e', hbl', p0, _, _, _⟩ := HC.out k' tp htp
            injection e' with e'
            injection e' with e1 e2
            subst e1 e2
            obtain ⟨P, hP⟩ : ∃ P : ByteArray, P = ⟨tp.k.toArray⟩ := ⟨_, rfl⟩
            rw [← hP] at p0
            replace p0 := (HBW.out.cell (p := ⟨blk, _, none⟩) hbl).trans p0
            have hPd : P.data.toList = tp.k := by rw [hP]
            have hPs : P.size = tp.k.length := by rw [hP, ba_size]
            have htpm := HK.out tp (List.mem_of_getElem? htp)
            have hpr : prevK l k = some tp.k := by unfold prevK; rw [if_neg (by omega), hk', Nat.add_sub_cancel, htp]; rfl
            have hok := HOK.out
            rw [hpr, HO.out] at hok
            simp only [Bool.true_and] at hok
            have q3 : IntKind.i64.wrap ((k : Int) - 1) = (k' : Int) := by rw [IntWalk.i64_in _ (by have := HN.out; omega)]; omega
            have k3 : (0 : Int) < (k : Int) := by omega
            have k3n : 0 < k := by omega
            have k4 : (k' : Int) < (n : Int) := by omega
            obtain ⟨x, hx⟩ : ∃ x, x = cmpL tp.k t.k := ⟨_, rfl⟩
            have HX := hide (fun W => (show Calls Tryd.prog 24 #[.string P, .string K] W fun e w' => e = .returned (.int .i64 x) ∧ ∃ q, w' = W.drewN q from by
              have h := rtexts_any P K (by omega) (by have := HTM.out; omega) W
              unfold cmpS at h
              rw [hPd, HTM.out.2.2.2, ← hx] at h
              exact h))
            rcases cmp_neg tp.k t.k with ⟨h3, h4⟩ | ⟨h3, h4⟩
            · have x0 : ¬ (0 : Int) ≤ x := by rw [hx, h3]; decide
              rw [h4, Bool.true_and] at hok
              have HF := hide (show okS none l = okS (prevK l (k + 1)) (l.drop (k + 1)) from by rw [hok, HPK.out])
              clear hok hx h3 h4 hPd hPs hP htp hpr htpm hk' hk0
              go_quiet (first | (with_reducible exact quiet_left (HQ.out _)) | (with_reducible exact Calls.quiet_of (HX.out _)))
              go_wp2_with fail
              go_roundw
              case rel => exact ⟨k + 1, by simp, by have := HN.out; omega, HF.out, drew_more HWR.out _⟩
              case measure => simp [intOf]; omega
            · have x0 : (0 : Int) ≤ x := by rw [hx]; exact h3
              rw [h4] at hok
              have HF := hide (show okS none l = false from hok)
              clear hok hx h3 h4 hPd hPs hP htp hpr htpm hk' hk0
              go_quiet (first | (with_reducible exact quiet_left (HQ.out _)) | (with_reducible exact Calls.quiet_of (HX.out _)))
              go_wp2_with fail
              go_ret
              exact ⟨by rw [HF.out]; rfl, drew_more HWR.out _⟩
    · have j1 : ¬ (k : Int) < (n : Int) := by omega
      have hf : okS none l = true := by rw [hok, List.drop_eq_nil_of_le (by have := HN.out; omega)]; cases prevK l k <;> rfl
      have HF := hide hf
      clear hok hf
      go_wp2_with fail
      go_ret
      exact ⟨by rw [HF.out]; rfl, _, HWR.out⟩
end Go.Proofs.YtgnobpljnahceaaDoor
