/- The law TreeSame: whether two nodes are made the same way is what the document says; conditions: the lists are in memory, the library's powers are laid. -/
import Derived.Test.YtnphfogepdkpbaaDoorTqB
import Derived.Test.YtnphfogepdkpbaaDoorTqH
namespace Go.Proofs.YtnphfogepdkpbaaDoor
open Go.RowKit Go.WideShapes Go.ChangeShapes
set_option linter.unusedVariables false
set_option linter.unusedSimpArgs false
set_option maxRecDepth 100000

set_option maxHeartbeats 16000000 in
theorem samelaw_walk (av bv : Value) (la lb : List Nd) (a c : Int) (w : World) (h : NodesAt w av la) (h' : NodesAt w bv lb) (hpw : powT w) :
    Calls Tryd.prog 4 #[av, bv, .int .i64 a, .int .i64 c] w (BoolP w true) := by
  have HAW := hide (awake_any w hpw)
  have HH := hide h
  have HH' := hide h'
  have HPW := hide hpw
  clear h h' hpw
  go_enter Tryd.func4, Tryd.ntmps4
  go_wp2_with fail
  refine HAW.out.mono ?_
  rintro e w1 ⟨rfl, hb1⟩
  have HGA := hide (great_any av la w1 (HH.out.below hb1 (Nat.le_refl _)))
  have HGB := hide (great_any bv lb w1 (HH'.out.below hb1 (Nat.le_refl _)))
  have h1 := HH.out.below hb1 (Nat.le_refl _)
  have h2 := HH'.out.below hb1 (Nat.le_refl _)
  have HB1 := hide hb1
  clear hb1
  cases hga : greatB la with
  | true =>
    rw [hga] at HGA
    clear hga h1 h2
    go_wp2_with fail
    refine HGA.out.mono ?_
    rintro e w' ⟨rfl, rfl⟩
    go_wp2_with fail
    go_ret
    exact ⟨rfl, HB1.out⟩
  | false =>
    rw [hga] at HGA
    have hfa := great_false hga
    cases hgb : greatB lb with
    | true =>
      rw [hgb] at HGB
      clear hga hgb hfa h1 h2
      go_wp2_with fail
      refine HGA.out.mono ?_
      rintro e w' ⟨rfl, rfl⟩
      go_wp2_with fail
      refine HGB.out.mono ?_
      rintro e w' ⟨rfl, rfl⟩
      go_wp2_with fail
      go_ret
      exact ⟨rfl, HB1.out⟩
    | false =>
      rw [hgb] at HGB
      have hfb := great_false hgb
      have HLA := hide (laid_any av la w1 h1 hfa.1 (fun n hn => (hfa.2 n hn).1))
      have HH2 := hide h2
      have HFA := hide hfa
      have HFB := hide hfb
      clear hga hgb hfa hfb h1 h2
      go_wp2_with fail
      refine HGA.out.mono ?_
      rintro e w' ⟨rfl, rfl⟩
      go_wp2_with fail
      refine HGB.out.mono ?_
      rintro e w' ⟨rfl, rfl⟩
      go_wp2_with fail
      refine HLA.out.mono ?_
      rintro e w2 ⟨tb, v, rows, nv, rfl, hT2, hnd, hN2, hb2⟩
      obtain ⟨L, hL, hT, hN, hkb, htx, hll, hk20⟩ := laid_facts HFA.out hT2 hnd hN2
      have HLB := hide (laid_any bv lb w2 (HH2.out.below hb2 (Nat.le_refl _)) HFB.out.1 (fun n hn => (HFB.out.2 n hn).1))
      have HT2 := hide hT
      have HN2 := hide hN
      have HF := hide (And.intro hkb (And.intro htx (And.intro hll hk20)))
      have HB2 := hide (HB1.out.trans (hb2.mono HB1.out.size))
      clear hT2 hnd hN2 hb2 hT hN hL hkb htx hll hk20
      go_wp2_with fail
      refine HLB.out.mono ?_
      rintro e w3 ⟨ub, v', rows', nv', rfl, hT3, hnd, hN3, hb3⟩
      obtain ⟨M, hM, hU, hO, hkb, htx, hll, hk20⟩ := laid_facts HFB.out hT3 hnd hN3
      have HU := hide hU
      have HO := hide hO
      have HG2 := hide (And.intro hkb (And.intro htx (And.intro hll hk20)))
      have HT := hide (HT2.out.below hb3 (Nat.le_refl _))
      have HN := hide (HN2.out.below hb3 (Nat.le_refl _))
      have HB3 := hide (HB2.out.trans (hb3.mono HB2.out.size))
      have HP3 := hide (HPW.out.below HB3.out)
      obtain ⟨An, cn, rfl⟩ := HN2.out.form
      obtain ⟨Bn, dn, rfl⟩ := hO.form
      obtain ⟨m, hm⟩ : ∃ m, m = L.length := ⟨_, rfl⟩
      obtain ⟨k, hk⟩ : ∃ k, k = M.length := ⟨_, rfl⟩
      rw [← hm] at HN ⊢
      rw [← hk] at HO ⊢
      have HMK := hide (show m = L.length ∧ k = M.length ∧ m ≤ 60 ∧ k ≤ 60 from ⟨hm, hk, by have := HF.out; omega, by have := HG2.out; omega⟩)
      clear hT3 hnd hN3 hb3 hU hO hM hkb htx hll hk20 hm hk
      obtain ⟨mx, hmx⟩ : ∃ mx, mx = m + 1 := ⟨_, rfl⟩
      have h60mx : mx ≤ 61 := by have := HMK.out; omega
      have i2mx : ¬ (mx : Int) = 0 := by omega
      have i1mx : ((mx : Int) == 0) = false := by rw [beq_eq_false_iff_ne]; omega
      have q0mx : IntKind.i64.wrap ((m : Int) + 1) = (mx : Int) := by rw [IntWalk.i64_in _ (by omega)]; omega
      have q1mx : IntKind.u64.wrap (mx : Int) = (mx : Int) := IntWalk.u64_in _ (by omega)
      obtain ⟨zx, hzx⟩ : ∃ zx : Nat, IntKind.u64.wrap a = (zx : Int) := ⟨(IntKind.u64.wrap a).toNat, (Int.toNat_of_nonneg (by rw [IntKind.wrap_u64]; omega)).symm⟩
      obtain ⟨x, hx⟩ : ∃ x : Nat, x = zx % mx := ⟨_, rfl⟩
      have hnx : x < mx := by rw [hx]; exact Nat.mod_lt _ (by omega)
      have htx : (zx : Int).tmod (mx : Int) = (x : Int) := by rw [hx, Int.ofNat_tmod]
      have qux : IntKind.u64.wrap (x : Int) = (x : Int) := IntWalk.u64_in _ (by omega)
      have qix : IntKind.i64.wrap (x : Int) = (x : Int) := IntWalk.i64_in _ (by omega)
      obtain ⟨ky, hky⟩ : ∃ ky, ky = k + 1 := ⟨_, rfl⟩
      have h60ky : ky ≤ 61 := by have := HMK.out; omega
      have i2ky : ¬ (ky : Int) = 0 := by omega
      have i1ky : ((ky : Int) == 0) = false := by rw [beq_eq_false_iff_ne]; omega
      have q0ky : IntKind.i64.wrap ((k : Int) + 1) = (ky : Int) := by rw [IntWalk.i64_in _ (by omega)]; omega
      have q1ky : IntKind.u64.wrap (ky : Int) = (ky : Int) := IntWalk.u64_in _ (by omega)
      obtain ⟨zy, hzy⟩ : ∃ zy : Nat, IntKind.u64.wrap c = (zy : Int) := ⟨(IntKind.u64.wrap c).toNat, (Int.toNat_of_nonneg (by rw [IntKind.wrap_u64]; omega)).symm⟩
      obtain ⟨y, hy⟩ : ∃ y : Nat, y = zy % ky := ⟨_, rfl⟩
      have hny : y < ky := by rw [hy]; exact Nat.mod_lt _ (by omega)
      have hty : (zy : Int).tmod (ky : Int) = (y : Int) := by rw [hy, Int.ofNat_tmod]
      have quy : IntKind.u64.wrap (y : Int) = (y : Int) := IntWalk.u64_in _ (by omega)
      have qiy : IntKind.i64.wrap (y : Int) = (y : Int) := IntWalk.i64_in _ (by omega)
      have HXY := hide (show x ≤ L.length ∧ y ≤ M.length from ⟨by have := HMK.out; omega, by have := HMK.out; omega⟩)
      have HB33 := hide (Below.refl w3.heap.size w3)
      clear hx hy hnx hny hmx hky
      go_upto_region 11 with (fail)
      clear hzx hzy h60mx h60ky i1mx i2mx i1ky i2ky q0mx q0ky q1mx q1ky htx hty qux quy qix qiy
      by_cases hx0 : 0 < x
      · have jx : (0 : Int) < (x : Int) := by omega
        have HRX := hide (refwalk_any _ L (x : Int) w3 HN.out HT.out.ok HF.out.2.2.1 HF.out.2.2.2)
        go_wp2_with fail
        refine HRX.out.mono ?_
        rintro e wx ⟨vx, rfl, hownx, hbx⟩
        have HBX := hide hbx
        obtain ⟨Ax, cx, rfl⟩ := own_formT hownx
        clear hownx hbx
        by_cases hwe : walkOf L (x : Int) = []
        · rw [hwe, show ([] : List Nat).length = 0 from rfl]
          clear hwe
          go_wp2_with fail
          go_ret
          exact ⟨rfl, HB3.out.trans (HBX.out.mono HB3.out.size)⟩
        · have HWX : Hid (0 < x → walkOf L (x : Int) ≠ []) := hide (fun _ => hwe)
          obtain ⟨nx, hnx⟩ : ∃ nx, nx = (walkOf L (x : Int)).length := ⟨_, rfl⟩
          have hnp0 : ¬ (nx : Int) = 0 := by have := List.length_pos_iff.2 hwe; omega
          have hnq0 : ((nx : Int) == 0) = false := by rw [beq_eq_false_iff_ne]; exact hnp0
          have hnr0 : ¬ nx = 0 := by omega
          rw [← hnx]
          clear hwe hnx
          by_cases hy0 : 0 < y
          · have jy : (0 : Int) < (y : Int) := by omega
            have HRY := hide (refwalk_any _ M (y : Int) wx (HO.out.below HBX.out (Nat.le_refl _)) HU.out.ok HG2.out.2.2.1 HG2.out.2.2.2)
            go_wp2_with fail
            refine HRY.out.mono ?_
            rintro e wy ⟨vy, rfl, howny, hby⟩
            have HBY := hide (HBX.out.trans (hby.mono HBX.out.size))
            obtain ⟨Ay, cy, rfl⟩ := own_formT howny
            clear howny hby
            by_cases hwe : walkOf M (y : Int) = []
            · rw [hwe, show ([] : List Nat).length = 0 from rfl]
              clear hwe
              go_wp2_with fail
              go_ret
              exact ⟨rfl, HB3.out.trans (HBY.out.mono HB3.out.size)⟩
            · have HWY : Hid (0 < y → walkOf M (y : Int) ≠ []) := hide (fun _ => hwe)
              obtain ⟨ny, hny⟩ : ∃ ny, ny = (walkOf M (y : Int)).length := ⟨_, rfl⟩
              have hnp : ¬ (ny : Int) = 0 := by have := List.length_pos_iff.2 hwe; omega
              have hnq : ((ny : Int) == 0) = false := by rw [beq_eq_false_iff_ne]; exact hnp
              have hnr : ¬ ny = 0 := by omega
              rw [← hny]
              clear hwe hny
              have HSAwy := hide (same_any tb L (x : Int) ub M (y : Int) wy (HT.out.below HBY.out (Nat.le_refl _)) (HU.out.below HBY.out (Nat.le_refl _)) HF.out.1 HG2.out.1 HF.out.2.1 HG2.out.2.1 (HP3.out.below HBY.out))
              obtain ⟨sbwy, hsbwy⟩ : ∃ sb, sb = sameB L (x : Int) M (y : Int) := ⟨_, rfl⟩
              rw [← hsbwy] at HSAwy
              have HSBwy := hide hsbwy
              clear hsbwy
              go_wp2_with fail
              refine HSAwy.out.mono ?_
              rintro e ws ⟨rfl, hbs⟩
              have hbs' := HBY.out.trans (hbs.mono HBY.out.size)
              have HRS := hide (refsame_any _ _ L M x y ws (HN.out.below hbs' (Nat.le_refl _)) (HO.out.below hbs' (Nat.le_refl _)) HT.out.ok HU.out.ok HF.out.2.2.1 HG2.out.2.2.1 HF.out.2.2.2 HG2.out.2.2.2 HXY.out.1 HXY.out.2 HWX.out HWY.out)
              rw [← HSBwy.out] at HRS
              have HBS := hide hbs'
              clear hbs hbs'
              go_wp2_with fail
              refine HRS.out.mono ?_
              rintro e wr ⟨rfl, hbr⟩
              have HBR := hide (HBS.out.trans (hbr.mono HBS.out.size))
              clear hbr
              go_wp2_with fail
              go_ret
              exact ⟨by simp, HB3.out.trans (HBR.out.mono HB3.out.size)⟩
          · have jy : ¬ (0 : Int) < (y : Int) := by omega
            have HWY : Hid (0 < y → walkOf M (y : Int) ≠ []) := hide (fun h => absurd h hy0)
            have HSAwx := hide (same_any tb L (x : Int) ub M (y : Int) wx (HT.out.below HBX.out (Nat.le_refl _)) (HU.out.below HBX.out (Nat.le_refl _)) HF.out.1 HG2.out.1 HF.out.2.1 HG2.out.2.1 (HP3.out.below HBX.out))
            obtain ⟨sbwx, hsbwx⟩ : ∃ sb, sb = sameB L (x : Int) M (y : Int) := ⟨_, rfl⟩
            rw [← hsbwx] at HSAwx
            have HSBwx := hide hsbwx
            clear hsbwx
            go_wp2_with fail
            refine HSAwx.out.mono ?_
            rintro e ws ⟨rfl, hbs⟩
            have hbs' := HBX.out.trans (hbs.mono HBX.out.size)
            have HRS := hide (refsame_any _ _ L M x y ws (HN.out.below hbs' (Nat.le_refl _)) (HO.out.below hbs' (Nat.le_refl _)) HT.out.ok HU.out.ok HF.out.2.2.1 HG2.out.2.2.1 HF.out.2.2.2 HG2.out.2.2.2 HXY.out.1 HXY.out.2 HWX.out HWY.out)
            rw [← HSBwx.out] at HRS
            have HBS := hide hbs'
            clear hbs hbs'
            go_wp2_with fail
            refine HRS.out.mono ?_
            rintro e wr ⟨rfl, hbr⟩
            have HBR := hide (HBS.out.trans (hbr.mono HBS.out.size))
            clear hbr
            go_wp2_with fail
            go_ret
            exact ⟨by simp, HB3.out.trans (HBR.out.mono HB3.out.size)⟩
      · have jx : ¬ (0 : Int) < (x : Int) := by omega
        have HWX : Hid (0 < x → walkOf L (x : Int) ≠ []) := hide (fun h => absurd h hx0)
        by_cases hy0 : 0 < y
        · have jy : (0 : Int) < (y : Int) := by omega
          have HRY := hide (refwalk_any _ M (y : Int) w3 (HO.out.below HB33.out (Nat.le_refl _)) HU.out.ok HG2.out.2.2.1 HG2.out.2.2.2)
          go_wp2_with fail
          refine HRY.out.mono ?_
          rintro e wy ⟨vy, rfl, howny, hby⟩
          have HBY := hide (HB33.out.trans (hby.mono HB33.out.size))
          obtain ⟨Ay, cy, rfl⟩ := own_formT howny
          clear howny hby
          by_cases hwe : walkOf M (y : Int) = []
          · rw [hwe, show ([] : List Nat).length = 0 from rfl]
            clear hwe
            go_wp2_with fail
            go_ret
            exact ⟨rfl, HB3.out.trans (HBY.out.mono HB3.out.size)⟩
          · have HWY : Hid (0 < y → walkOf M (y : Int) ≠ []) := hide (fun _ => hwe)
            obtain ⟨ny, hny⟩ : ∃ ny, ny = (walkOf M (y : Int)).length := ⟨_, rfl⟩
            have hnp : ¬ (ny : Int) = 0 := by have := List.length_pos_iff.2 hwe; omega
            have hnq : ((ny : Int) == 0) = false := by rw [beq_eq_false_iff_ne]; exact hnp
            have hnr : ¬ ny = 0 := by omega
            rw [← hny]
            clear hwe hny
            have HSAwy := hide (same_any tb L (x : Int) ub M (y : Int) wy (HT.out.below HBY.out (Nat.le_refl _)) (HU.out.below HBY.out (Nat.le_refl _)) HF.out.1 HG2.out.1 HF.out.2.1 HG2.out.2.1 (HP3.out.below HBY.out))
            obtain ⟨sbwy, hsbwy⟩ : ∃ sb, sb = sameB L (x : Int) M (y : Int) := ⟨_, rfl⟩
            rw [← hsbwy] at HSAwy
            have HSBwy := hide hsbwy
            clear hsbwy
            go_wp2_with fail
            refine HSAwy.out.mono ?_
            rintro e ws ⟨rfl, hbs⟩
            have hbs' := HBY.out.trans (hbs.mono HBY.out.size)
            have HRS := hide (refsame_any _ _ L M x y ws (HN.out.below hbs' (Nat.le_refl _)) (HO.out.below hbs' (Nat.le_refl _)) HT.out.ok HU.out.ok HF.out.2.2.1 HG2.out.2.2.1 HF.out.2.2.2 HG2.out.2.2.2 HXY.out.1 HXY.out.2 HWX.out HWY.out)
            rw [← HSBwy.out] at HRS
            have HBS := hide hbs'
            clear hbs hbs'
            go_wp2_with fail
            refine HRS.out.mono ?_
            rintro e wr ⟨rfl, hbr⟩
            have HBR := hide (HBS.out.trans (hbr.mono HBS.out.size))
            clear hbr
            go_wp2_with fail
            go_ret
            exact ⟨by simp, HB3.out.trans (HBR.out.mono HB3.out.size)⟩
        · have jy : ¬ (0 : Int) < (y : Int) := by omega
          have HWY : Hid (0 < y → walkOf M (y : Int) ≠ []) := hide (fun h => absurd h hy0)
          have HSAw3 := hide (same_any tb L (x : Int) ub M (y : Int) w3 (HT.out.below HB33.out (Nat.le_refl _)) (HU.out.below HB33.out (Nat.le_refl _)) HF.out.1 HG2.out.1 HF.out.2.1 HG2.out.2.1 (HP3.out.below HB33.out))
          obtain ⟨sbw3, hsbw3⟩ : ∃ sb, sb = sameB L (x : Int) M (y : Int) := ⟨_, rfl⟩
          rw [← hsbw3] at HSAw3
          have HSBw3 := hide hsbw3
          clear hsbw3
          go_wp2_with fail
          refine HSAw3.out.mono ?_
          rintro e ws ⟨rfl, hbs⟩
          have hbs' := HB33.out.trans (hbs.mono HB33.out.size)
          have HRS := hide (refsame_any _ _ L M x y ws (HN.out.below hbs' (Nat.le_refl _)) (HO.out.below hbs' (Nat.le_refl _)) HT.out.ok HU.out.ok HF.out.2.2.1 HG2.out.2.2.1 HF.out.2.2.2 HG2.out.2.2.2 HXY.out.1 HXY.out.2 HWX.out HWY.out)
          rw [← HSBw3.out] at HRS
          have HBS := hide hbs'
          clear hbs hbs'
          go_wp2_with fail
          refine HRS.out.mono ?_
          rintro e wr ⟨rfl, hbr⟩
          have HBR := hide (HBS.out.trans (hbr.mono HBS.out.size))
          clear hbr
          go_wp2_with fail
          go_ret
          exact ⟨by simp, HB3.out.trans (HBR.out.mono HB3.out.size)⟩
end Go.Proofs.YtnphfogepdkpbaaDoor
