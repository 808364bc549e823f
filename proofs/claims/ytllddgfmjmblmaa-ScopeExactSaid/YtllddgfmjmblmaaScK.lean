/- What ScopeNests answers; conditions: none but that the argument can be read as data. -/
import Derived.Test.YtllddgfmjmblmaaScJ
namespace Go.Proofs.Ytllddgfmjmblmaa
open Go.RowKit Go.WideShapes Go.ChangeShapes
set_option linter.unusedVariables false
set_option maxRecDepth 100000

theorem RA.more {w : World} {B B' n : Nat} {A : Option Addr} {xs : List ActV} (h : RA w B A n xs) (hB : B ≤ B') : RA w B' A n xs := ⟨h.1, h.2.1.more hB, h.2.2⟩
set_option maxHeartbeats 2000000 in
theorem object_nil (i : Int) (w : World) : Calls Try.prog 12 #[.pointer none, .int .i64 i] w fun e w' => e = .returned zeroO.val ∧ Below w.heap.size w w' := by
  obtain ⟨W0, hW0⟩ : ∃ W : World, W = w.alloc (.cells zeroO.arr 42) := ⟨_, rfl⟩
  have hho := haso_nil i W0
  have hbn : Blk W0 w.heap.size 42 zeroO.arr := by rw [hW0]; exact Blk.new _ _ _
  have hbw : Below w.heap.size w W0 := by rw [hW0]; exact (Below.refl _ _).alloc (Nat.le_refl _) _
  have HHO := hide hho
  have HBN := hide hbn
  have HBW := hide hbw
  unfold ObjV.arr zeroO at hW0
  clear hho hbn hbw
  go_enter Try.func12, Try.ntmps12
  go_wp2_with fail
  rw [← hW0]
  refine HHO.out.mono ?_
  rintro e w' ⟨rfl, rfl⟩
  have f0 := HBN.out.frozen 0
  have f1 := HBN.out.frozen 1
  have f2 := HBN.out.frozen 2
  have f3 := HBN.out.frozen 3
  have f4 := HBN.out.frozen 4
  have f5 := HBN.out.frozen 5
  have f6 := HBN.out.frozen 6
  have f7 := HBN.out.frozen 7
  have f8 := HBN.out.frozen 8
  have f9 := HBN.out.frozen 9
  have f10 := HBN.out.frozen 10
  have f11 := HBN.out.frozen 11
  have f12 := HBN.out.frozen 12
  have p0 := HBN.out.cell 0
  have p1 := HBN.out.cell 1
  have p2 := HBN.out.cell 2
  have p3 := HBN.out.cell 3
  have p4 := HBN.out.cell 4
  have p5 := HBN.out.cell 5
  have p6 := HBN.out.cell 6
  have p7 := HBN.out.cell 7
  have p8 := HBN.out.cell 8
  have p9 := HBN.out.cell 9
  have p10 := HBN.out.cell 10
  have p11 := HBN.out.cell 11
  have p12 := HBN.out.cell 12
  simp [zeroO] at p0 p1 p2 p3 p4 p5 p6 p7 p8 p9 p10 p11 p12
  clear hW0
  obtain ⟨rb, hrb⟩ : ∃ n, n = w.heap.size := ⟨_, rfl⟩
  rw [← hrb] at HBN HBW p0 p1 p2 p3 p4 p5 p6 p7 p8 p9 p10 p11 p12 f0 f1 f2 f3 f4 f5 f6 f7 f8 f9 f10 f11 f12 ⊢
  have HRB := hide hrb
  clear hrb
  go_wp2_with fail
  refine ret_obj (o := zeroO) rfl rfl rfl (by have h := (((((((((((((HBN.out.set_ 0 (.int .i64 0)).set_ 1 (.string ⟨#[]⟩)).set_ 2 (.int .i64 0)).set_ 3 (.int .i64 0)).set_ 4 (.int .i64 0)).set_ 5 (.int .i64 0)).set_ 6 (.int .u64 0)).set_ 7 (.int .u64 0)).set_ 8 (.bool false)).set_ 9 (.string ⟨#[]⟩)).set_ 10 (.int .i64 0)).set_ 11 (.int .i64 0)).set_ 12 (.int .i64 0)); simpa [zeroO] using h) ⟨rfl, (by have h := (((((((((((((HBW.out.setCell (p := ⟨rb, 0, none⟩) (Nat.le_refl _) (.int .i64 0)).setCell (p := ⟨rb, 1, none⟩) (Nat.le_refl _) (.string ⟨#[]⟩)).setCell (p := ⟨rb, 2, none⟩) (Nat.le_refl _) (.int .i64 0)).setCell (p := ⟨rb, 3, none⟩) (Nat.le_refl _) (.int .i64 0)).setCell (p := ⟨rb, 4, none⟩) (Nat.le_refl _) (.int .i64 0)).setCell (p := ⟨rb, 5, none⟩) (Nat.le_refl _) (.int .i64 0)).setCell (p := ⟨rb, 6, none⟩) (Nat.le_refl _) (.int .u64 0)).setCell (p := ⟨rb, 7, none⟩) (Nat.le_refl _) (.int .u64 0)).setCell (p := ⟨rb, 8, none⟩) (Nat.le_refl _) (.bool false)).setCell (p := ⟨rb, 9, none⟩) (Nat.le_refl _) (.string ⟨#[]⟩)).setCell (p := ⟨rb, 10, none⟩) (Nat.le_refl _) (.int .i64 0)).setCell (p := ⟨rb, 11, none⟩) (Nat.le_refl _) (.int .i64 0)).setCell (p := ⟨rb, 12, none⟩) (Nat.le_refl _) (.int .i64 0)); exact (congrArg (fun n => Below n w _) HRB.out).mp h)⟩

set_option maxHeartbeats 4000000 in
theorem nests_law (n c : Nat) (A : Option Addr) (xs : List ActV) (w : World) (hR : RA w w.heap.size A n xs) (hn : n ≤ 9223372036854775807) :
    Calls Try.prog 5 #[.slice A n c] w fun e w' => e = .returned (.bool true) ∧ Below w.heap.size w w' := by
  have HR := hide hR
  have hnn := hn
  clear hR
  go_enter Try.func5, Try.ntmps5
  go_wp2_with fail
  refine (awake07 _).mono ?_
  rintro e w1 ⟨rfl, hb1⟩
  have HB1 := hide hb1
  have HLD := hide (laid_any n c A xs w1 ((HR.out.below hb1).more hb1.size) hnn)
  clear hb1 hn hnn
  go_wp2_with fail
  refine HLD.out.mono ?_
  rintro e w2 ⟨b, r, outer, ins, objs, tbl, rfl, hI, hL, hW⟩
  obtain ⟨gm, vo, vj, xo, xi, xl, hs, hr, ap⟩ := hL
  obtain ⟨c0, c1, c2⟩ := hr.cells
  obtain ⟨X, kx, rfl⟩ := own_form7 hr.ou
  have hl1 := hI.l1
  have hl0 := hI.l0
  have hlb : (outer.length : Int) ≤ 61 := by omega
  have hlb0 : (1 : Int) ≤ (outer.length : Int) := by omega
  have HI := hide hI
  have HB2 := hide (HB1.out.trans (hW.mono HB1.out.size))
  have HWI := hide (fun a t => within_any hs hI.ok (by omega) a t)
  have HOU := hide (fun a ha => outer_yes hs hI.ok (by omega) a ha)
  clear hs hr ap hW HB1 HLD HR hI hl1 hl0
  go_wp2_with fail
  go_loop [7] (fun i => ∃ k : Nat, 1 ≤ k ∧ k ≤ outer.length + 1 ∧ i = .int .i64 k) (fun i => outer.length + 1 - (intOf i).toNat)
  case atStart => exact ⟨1, by omega, by omega, rfl⟩
  case round =>
    obtain ⟨k, hk1, hk2, rfl⟩ := hrel
    by_cases hlt : k ≤ outer.length
    · have ha : hasB outer.length (k : Int) = true := by rw [hasB_iff]; omega
      have h1 := HWI.out (k : Int) 1
      rw [wth_top HI.out.ok HI.out.up _ _ (Nat.le_refl _) ha] at h1
      have h2 := HWI.out (k : Int) (k : Int)
      rw [wth_self HI.out.ok ha] at h2
      have H1 := hide h1
      have H2 := hide h2
      have HA := hide ha
      have s0 : (k : Int) ≤ (outer.length : Int) := by omega
      clear h1 h2
      by_cases hk : k = 1
      · subst hk
        clear ha
        go_wp2_with fail
        refine H1.out.mono ?_
        rintro e w' ⟨rfl, rfl⟩
        go_wp2_with fail
        refine H2.out.mono ?_
        rintro e w' ⟨rfl, rfl⟩
        go_wp2_with fail
        go_loop [8, 9] (fun i _ => ∃ m : Nat, 1 ≤ m ∧ m ≤ outer.length + 1 ∧ i = .int .i64 m) (fun i _ => outer.length + 1 - (intOf i).toNat)
        case atStart => exact ⟨1, by omega, by omega, rfl⟩
        case round =>
          obtain ⟨m, hm1, hm2, rfl⟩ := hrel
          by_cases hmt : m ≤ outer.length
          · have h3 := HWI.out 1 (m : Int)
            by_cases hm : m = 1
            · subst hm
              have h3' := H2.out
              clear h3 h3'
              go_wp2_with fail
              refine H2.out.mono ?_
              rintro e w' ⟨rfl, rfl⟩
              go_wp2_with fail
              go_round
              case rel => exact ⟨2, by omega, by omega, rfl⟩
              case measure => simp [intOf]; omega
            · rw [wth_great HI.out.ok _ _ (Nat.le_refl _) (by omega)] at h3
              have H3 := hide h3
              have t1 : decide ((1 : Int) = (m : Int)) = false := decide_eq_false (by omega)
              have t2 : ((1 : Int) == (m : Int)) = false := t1
              have t3 : decide ((1 : Int) < (m : Int)) = true := decide_eq_true (by omega)
              have t4 : decide (1 < m) = true := decide_eq_true (by omega)
              have t5 : decide (1 = m) = false := decide_eq_false (by omega)
              clear h3
              go_wp2_with fail
              refine H3.out.mono ?_
              rintro e w' ⟨rfl, rfl⟩
              go_wp2_with fail
              refine H3.out.mono ?_
              rintro e w' ⟨rfl, rfl⟩
              go_wp2_with fail
              go_round
              case rel => exact ⟨m + 1, by omega, by omega, by go_num⟩
              case measure => simp [intOf]; omega
          · obtain rfl : m = outer.length + 1 := by omega
            go_wp2_with fail
            go_round
            case rel => exact ⟨2, by omega, by omega, rfl⟩
            case measure => simp [intOf]; omega
      · have h3 := HOU.out (k : Int) ha
        obtain ⟨e1, e2, e3⟩ := outer_at HI.out.ok ha
        obtain ⟨e4, e5⟩ := up_at HI.out.ok HI.out.up ha (by omega)
        have hwe := fun t => wth_eq HI.out.ok t (k : Int)
        simp only [ha, if_true] at hwe
        obtain ⟨v, hv⟩ : ∃ v, v = outer.getD ((k : Int) - 1).toNat 0 := ⟨_, rfl⟩
        simp only [← hv] at h3 e1 e2 e3 e4 e5 hwe
        have H3 := hide h3
        have HWE := hide hwe
        have t1 : decide ((1 : Int) < (k : Int)) = true := decide_eq_true (by omega)
        have t2 : decide ((k : Int) ≤ v) = false := decide_eq_false (by omega)
        have t3 : decide (v < 1) = false := decide_eq_false (by omega)
        have t4 : decide (1 < k) = true := decide_eq_true (by omega)
        clear h3 hwe hv e1 e5 ha
        go_wp2_with fail
        refine H1.out.mono ?_
        rintro e w' ⟨rfl, rfl⟩
        go_wp2_with fail
        refine H2.out.mono ?_
        rintro e w' ⟨rfl, rfl⟩
        go_wp2_with fail
        refine H3.out.mono ?_
        rintro e w' ⟨rfl, rfl⟩
        go_wp2_with fail
        refine H3.out.mono ?_
        rintro e w' ⟨rfl, rfl⟩
        go_wp2_with fail
        go_loop [8, 9] (fun i _ => ∃ m : Nat, 1 ≤ m ∧ m ≤ outer.length + 1 ∧ i = .int .i64 m) (fun i _ => outer.length + 1 - (intOf i).toNat)
        case atStart => exact ⟨1, by omega, by omega, rfl⟩
        case round =>
          obtain ⟨m, hm1, hm2, rfl⟩ := hrel
          by_cases hmt : m ≤ outer.length
          · by_cases hm : m = k
            · subst hm
              go_wp2_with fail
              refine H2.out.mono ?_
              rintro e w' ⟨rfl, rfl⟩
              go_wp2_with fail
              go_round
              case rel => exact ⟨m + 1, by omega, by omega, by go_num⟩
              case measure => simp [intOf]; omega
            · have h4 := HWI.out (k : Int) (m : Int)
              have h5 := HWI.out v (m : Int)
              have hq := HWE.out (m : Int)
              rw [if_neg (by omega)] at hq
              rw [hq] at h4
              have u1 : decide ((k : Int) = (m : Int)) = false := decide_eq_false (by omega)
              have u2 : ((k : Int) == (m : Int)) = false := u1
              have u3 : decide (k = m) = false := decide_eq_false (by omega)
              have hgt : k < m → wth outer (m : Int) v = false := fun h => wth_great HI.out.ok _ _ (Nat.le_refl _) (by omega)
              obtain ⟨d, hd⟩ : ∃ d, d = wth outer (m : Int) v := ⟨_, rfl⟩
              rw [← hd] at h4 h5 hgt
              have H4 := hide h4
              have H5 := hide h5
              clear h4 h5 hq hd
              by_cases hkm : k < m
              · obtain rfl := hgt hkm
                have u4 : decide ((k : Int) < (m : Int)) = true := decide_eq_true (by omega)
                have u5 : decide (k < m) = true := decide_eq_true hkm
                clear hgt hm
                go_wp2_with fail
                refine H3.out.mono ?_
                rintro e w' ⟨rfl, rfl⟩
                go_wp2_with fail
                refine H5.out.mono ?_
                rintro e w' ⟨rfl, rfl⟩
                go_wp2_with fail
                refine H4.out.mono ?_
                rintro e w' ⟨rfl, rfl⟩
                go_wp2_with fail
                refine H4.out.mono ?_
                rintro e w' ⟨rfl, rfl⟩
                go_wp2_with fail
                go_round
                case rel => exact ⟨m + 1, by omega, by omega, by go_num⟩
                case measure => simp [intOf]; omega
              · have u4 : decide ((k : Int) < (m : Int)) = false := decide_eq_false (by omega)
                have u5 : decide (k < m) = false := decide_eq_false hkm
                clear hgt hm
                go_wp2_with fail
                refine H3.out.mono ?_
                rintro e w' ⟨rfl, rfl⟩
                go_wp2_with fail
                refine H5.out.mono ?_
                rintro e w' ⟨rfl, rfl⟩
                go_wp2_with fail
                refine H4.out.mono ?_
                rintro e w' ⟨rfl, rfl⟩
                go_wp2_with fail
                go_round
                case rel => exact ⟨m + 1, by omega, by omega, by go_num⟩
                case measure => simp [intOf]; omega
          · obtain rfl : m = outer.length + 1 := by omega
            go_wp2_with fail
            go_round
            case rel => exact ⟨k + 1, by omega, by omega, by go_num⟩
            case measure => simp [intOf]; omega
    · obtain rfl : k = outer.length + 1 := by omega
      clear HWI HOU HI c0 c1 c2
      go_wp2_with fail
      refine (open_nil 1 _).mono ?_
      rintro e w3 ⟨rfl, rfl⟩
      go_wp2_with fail
      refine (put_nil 1 (mkO 1 ⟨#[120]⟩ 0 0 0 false) _).mono ?_
      rintro e w4 ⟨rfl, hb4⟩
      have HB4 := hide (HB2.out.trans (hb4.mono HB2.out.size))
      clear hb4 HB2
      go_wp2_with fail
      refine (find_nil 1 _ _).mono ?_
      rintro e w5 ⟨rfl, rfl⟩
      go_wp2_with fail
      refine (here_nil 1 _ _).mono ?_
      rintro e w6 ⟨rfl, rfl⟩
      go_wp2_with fail
      refine (change_nil 1 zeroO _).mono ?_
      rintro e w7 ⟨rfl, hb7⟩
      have HB7 := hide (HB4.out.trans (hb7.mono HB4.out.size))
      clear hb7 HB4
      go_wp2_with fail
      refine (len_nil7 _).mono ?_
      rintro e w8 ⟨rfl, rfl⟩
      go_wp2_with fail
      refine (outer_nil 1 _).mono ?_
      rintro e w9 ⟨rfl, rfl⟩
      go_wp2_with fail
      refine (within_nil 1 1 _).mono ?_
      rintro e wa ⟨rfl, rfl⟩
      go_wp2_with fail
      refine (object_nil 1 _).mono ?_
      rintro e wb ⟨rfl, hbb⟩
      have HBB := hide (HB7.out.trans (hbb.mono HB7.out.size))
      clear hbb HB7
      unfold zeroO ObjV.val
      go_wp2_with fail
      go_ret
      exact ⟨rfl, HBB.out⟩
end Go.Proofs.Ytllddgfmjmblmaa
