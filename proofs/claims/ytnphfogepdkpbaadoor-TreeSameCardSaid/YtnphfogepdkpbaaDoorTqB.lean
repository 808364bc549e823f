/- The law TreeCopies: what is swapped is as it was but there; conditions: the list is in memory, the library's powers are laid. -/
import Derived.Test.YtnphfogepdkpbaaDoorTqA
import Derived.Test.YtnphfogepdkpbaaDoorTail
namespace Go.Proofs.YtnphfogepdkpbaaDoor
open Go.RowKit Go.WideShapes Go.ChangeShapes
set_option linter.unusedVariables false
set_option linter.unusedSimpArgs false
set_option maxRecDepth 100000

/-- What is known of a tree that was laid. -/
theorem laid_facts {l : List Nd} {w2 : World} {B tb : Nat} {v nv : Value} {rows : List It} (hg : l.length ≤ 60 ∧ ∀ n ∈ l, n.kids.length ≤ 20 ∧ n.text.size ≤ 200) (hT : TO w2 B tb v rows) (hnd : nds rows = layF l) (hN : NodesAt w2 nv (layF l)) :
    ∃ L, L = layF l ∧ TR w2 tb L ∧ NodesAt w2 nv L ∧ KB L ∧ TX L ∧ L.length ≤ 60 ∧ ∀ n ∈ L, n.kids.length ≤ 20 := by
  have hT := hT.tr
  rw [hnd] at hT
  have hsub : ∀ n ∈ layF l, n ∈ l := fun n hn => layF_mem l l.length n (by rw [List.take_length]; exact hn)
  have h1 := layF_le l l.length
  rw [List.take_length] at h1
  refine ⟨_, rfl, hT, hN, fun n hn => ?_, fun n hn => ?_, by omega, fun n hn => (hg.2 n (hsub n hn)).1⟩
  · have := (hg.2 n (hsub n hn)).1; omega
  · have := (hg.2 n (hsub n hn)).2; omega
theorem node_at {L : List Nd} {i : Nat} {n : Nd} (h1 : 1 ≤ i) (h2 : i ≤ L.length) (hn : L[i - 1]? = some n) : nodeOf L (i : Int) = n := by
  unfold nodeOf
  rw [if_pos (by unfold hasB; simp; omega)]
  simp [hn]
theorem walk_some {L : List Nd} {i : Nat} (hw : walkOf L (i : Int) ≠ []) : walkOf L (i : Int) = W L i ∧ (W L i).length ≤ 65536 := by
  unfold walkOf at hw ⊢
  by_cases hc : hasB L (i : Int) = true ∧ (W L (i : Int).toNat).length ≤ 65536
  · rw [if_pos hc]
    exact ⟨rfl, hc.2⟩
  · rw [if_neg hc] at hw
    exact absurd rfl hw
/-- The bare node that is put in. -/
abbrev swN : Nd := ⟨18, 0, 0, 0, ⟨#[115, 119, 97, 112, 112, 101, 100]⟩, []⟩
theorem swapped_law {L : List Nd} (hL : OkL L) {i y : Nat} (h1 : 1 ≤ i) (h2 : i ≤ L.length) {lb : Lab} (hb : lb.2.2 = []) {hd br : Bool} (hh : hd = decide (y ∈ W L i)) (hr : (lab L y = lb) ↔ br = true) : decide (S L i = Sx L y lb i) = !(hd && !br) := by
  by_cases hy : y ∈ W L i
  · rw [hh, decide_eq_true hy]
    by_cases hl : lab L y = lb
    · rw [hr.1 hl, decide_eq_true (Sx_bare hL hb hl i i (Nat.le_refl _) h1 h2).symm]
      rfl
    · have : br = false := by cases br with | false => rfl | true => exact absurd (hr.2 rfl) hl
      rw [this, decide_eq_false (fun e => Sx_in hL hb hl i i (Nat.le_refl _) h1 h2 hy e.symm)]
      rfl
  · rw [hh, decide_eq_false hy, decide_eq_true (Sx_out hL lb i i (Nat.le_refl _) h1 h2 hy).symm]
    rfl
theorem same_swapped {L M : List Nd} {i : Nat} {s : List Lab} (h1 : 1 ≤ i) (h2 : i ≤ L.length) (hM : 1 ≤ M.length) (hS : S M M.length = s) : sameB L (i : Int) M (M.length : Int) = decide (S L i = s) := by
  unfold sameB
  rw [if_pos ⟨by unfold hasB; simp; omega, by unfold hasB; simp; omega⟩]
  show decide (S L i = S M M.length) = _
  rw [hS]
theorem lab_bare {L : List Nd} {y : Nat} {x : Nd} (hx : L[y - 1]? = some x) : (lab L y = labN swN) ↔ (x.kind = 18 ∧ x.text = ⟨#[115, 119, 97, 112, 112, 101, 100]⟩ ∧ x.kids.length = 0) := by
  have e : lab L y = labN x := by unfold lab; rw [hx]
  rw [e]
  unfold labN
  constructor
  · intro h
    injection h with h1 h2
    injection h2 with h2 h3
    exact ⟨h1, h2, by have := congrArg List.length h3; simpa using this⟩
  · rintro ⟨h1, h2, h3⟩
    rw [h1, h2, List.eq_nil_of_length_eq_zero h3]
set_option maxHeartbeats 16000000 in
theorem copies_walk (av : Value) (l : List Nd) (a b' : Int) (w : World) (h : NodesAt w av l) (hpw : powT w) :
    Calls Tryd.prog 5 #[av, .int .i64 a, .int .i64 b'] w (BoolP w true) := by
  have HAW := hide (awake_any w hpw)
  have HH := hide h
  have HPW := hide hpw
  clear h hpw
  cases hg : greatB l with
  | true =>
    have HG := hide hg
    clear hg
    go_enter Tryd.func5, Tryd.ntmps5
    go_wp2_with fail
    refine HAW.out.mono ?_
    rintro e w1 ⟨rfl, hb1⟩
    have HGR := hide (great_any av l w1 (HH.out.below hb1 (Nat.le_refl _)))
    rw [HG.out] at HGR
    go_wp2_with fail
    refine HGR.out.mono ?_
    rintro e w2 ⟨rfl, rfl⟩
    go_wp2_with fail
    go_ret
    exact ⟨rfl, hb1⟩
  | false =>
    have HG := hide hg
    have hgf := great_false hg
    have HGF := hide hgf
    clear hg hgf
    go_enter Tryd.func5, Tryd.ntmps5
    go_wp2_with fail
    refine HAW.out.mono ?_
    rintro e w1 ⟨rfl, hb1⟩
    have h1 := HH.out.below hb1 (Nat.le_refl _)
    have HGR := hide (great_any av l w1 h1)
    rw [HG.out] at HGR
    have HLD := hide (laid_any av l w1 h1 HGF.out.1 (fun n hn => (HGF.out.2 n hn).1))
    have HB1 := hide hb1
    clear h1 hb1
    go_wp2_with fail
    refine HGR.out.mono ?_
    rintro e w' ⟨rfl, rfl⟩
    go_wp2_with fail
    refine HLD.out.mono ?_
    rintro e w2 ⟨tb, v, rows, nv, rfl, hT2, hnd, hN2, hb2⟩
    obtain ⟨L, hL, hT, hN, hkb, htx, hll, hk20⟩ := laid_facts HGF.out hT2 hnd hN2
    have HT := hide hT
    have HN := hide hN
    have HKB := hide hkb
    have HTX := hide htx
    have HLL := hide hll
    have HK20 := hide hk20
    have HB2 := hide (HB1.out.trans (hb2.mono HB1.out.size))
    have HP2 := hide (HPW.out.below HB2.out)
    have HOK := hide hT.ok
    obtain ⟨An, cn, rfl⟩ := hN.form
    obtain ⟨m, hm⟩ : ∃ m, m = L.length := ⟨_, rfl⟩
    rw [← hm] at HN ⊢
    have HM := hide hm
    clear hT2 hnd hN2 hb2 hT hL hkb htx hll hm hN hk20
    by_cases hm0 : m = 0
    · subst hm0
      have hL0 : L = [] := List.eq_nil_of_length_eq_zero HM.out.symm
      subst hL0
      have hhb : hasB [] a = false := by unfold hasB; simp; omega
      have HSW := hide (swap_none (some ⟨tb, 0, none⟩) a b' ⟨9, 0, 0, 0, ⟨#[]⟩, []⟩ w2 (fun W hW => by
        have h := has_any tb [] a W (HT.out.below hW (Nat.le_refl _))
        rw [hhb] at h
        exact h))
      clear hhb
      go_wp2_with fail
      refine HSW.out.mono ?_
      rintro e w3 ⟨rfl, hb3⟩
      have HB3 := hide (HB2.out.trans (hb3.mono HB2.out.size))
      clear hb3
      go_wp2_with fail
      go_ret
      exact ⟨rfl, HB3.out⟩
    · have i1 : ((m : Int) == 0) = false := by rw [beq_eq_false_iff_ne]; omega
      have hm60 : m ≤ 60 := by have := HM.out; have := HLL.out; omega
      have i2 : ¬ (m : Int) = 0 := by omega
      have q1 : IntKind.u64.wrap (m : Int) = (m : Int) := IntWalk.u64_in _ (by omega)
      obtain ⟨x1, hx1⟩ : ∃ x1 : Nat, IntKind.u64.wrap a = (x1 : Int) := ⟨(IntKind.u64.wrap a).toNat, (Int.toNat_of_nonneg (by rw [IntKind.wrap_u64]; omega)).symm⟩
      obtain ⟨k1, hk1⟩ : ∃ k1 : Nat, k1 = x1 % m := ⟨_, rfl⟩
      have hnk1 : k1 < m := by rw [hk1]; exact Nat.mod_lt _ (by omega)
      have htk1 : (x1 : Int).tmod (m : Int) = (k1 : Int) := by rw [hk1, Int.ofNat_tmod]
      have quk1 : IntKind.u64.wrap (k1 : Int) = (k1 : Int) := IntWalk.u64_in _ (by omega)
      have qik1 : IntKind.i64.wrap (k1 : Int) = (k1 : Int) := IntWalk.i64_in _ (by omega)
      obtain ⟨i, hi⟩ : ∃ i : Nat, i = 1 + k1 := ⟨_, rfl⟩
      have qrk1 : IntKind.i64.wrap (1 + (k1 : Int)) = (i : Int) := by rw [IntWalk.i64_in _ (by omega)]; omega
      have hri : 1 ≤ i ∧ i ≤ L.length := by have := HM.out; omega
      obtain ⟨x2, hx2⟩ : ∃ x2 : Nat, IntKind.u64.wrap b' = (x2 : Int) := ⟨(IntKind.u64.wrap b').toNat, (Int.toNat_of_nonneg (by rw [IntKind.wrap_u64]; omega)).symm⟩
      obtain ⟨k2, hk2⟩ : ∃ k2 : Nat, k2 = x2 % m := ⟨_, rfl⟩
      have hnk2 : k2 < m := by rw [hk2]; exact Nat.mod_lt _ (by omega)
      have htk2 : (x2 : Int).tmod (m : Int) = (k2 : Int) := by rw [hk2, Int.ofNat_tmod]
      have quk2 : IntKind.u64.wrap (k2 : Int) = (k2 : Int) := IntWalk.u64_in _ (by omega)
      have qik2 : IntKind.i64.wrap (k2 : Int) = (k2 : Int) := IntWalk.i64_in _ (by omega)
      obtain ⟨y, hy⟩ : ∃ y : Nat, y = 1 + k2 := ⟨_, rfl⟩
      have qrk2 : IntKind.i64.wrap (1 + (k2 : Int)) = (y : Int) := by rw [IntWalk.i64_in _ (by omega)]; omega
      have hry : 1 ≤ y ∧ y ≤ L.length := by have := HM.out; omega
      have HI := hide hri
      have HY := hide hry
      have HY2 := hide hy
      have HWK := hide (walk_any tb L i w2 HT.out)
      clear hk1 hk2 hi hy hri hry
      go_upto_region 13 with (fail)
      clear hx1 hx2 i2 q1 htk1 htk2 quk1 quk2 qik1 qik2 qrk1 qrk2
      go_wp2_with fail
      refine HWK.out.mono ?_
      rintro e w3 ⟨vw, rfl, hown3, hb3⟩
      have HT3 := hide (HT.out.below hb3 (Nat.le_refl _))
      have HN3 := hide (HN.out.below hb3 (Nat.le_refl _))
      have HB3 := hide (HB2.out.trans (hb3.mono HB2.out.size))
      have HP3 := hide (HP2.out.below hb3)
      have hI3 : IntsAt w3 vw ((walkOf L (i : Int)).map fun k : Nat => (k : Int)) := by
        refine IntsAt.own (B := w2.heap.size) ?_
        rw [List.map_map, List.length_map]
        exact hown3
      obtain ⟨A3, c3, rfl⟩ := own_formT hown3
      by_cases hwe : walkOf L (i : Int) = []
      · rw [hwe, show ([] : List Nat).length = 0 from rfl]
        clear hwe hI3 hown3 hb3
        go_wp2_with fail
        go_ret
        exact ⟨rfl, HB3.out⟩
      · obtain ⟨hw1, hw2⟩ := walk_some hwe
        obtain ⟨wl, hwl⟩ : ∃ wl, wl = (walkOf L (i : Int)).length := ⟨_, rfl⟩
        have hwp : 1 ≤ wl := by rw [hwl]; exact List.length_pos_iff.2 hwe
        have hwW : (W L i).length = wl := by rw [hwl, hw1]
        rw [← hwl]
        have hx0 := Wx_zero HOK.out i i (Nat.le_refl _) HI.out.1 HI.out.2
        have HS1 := hide (swap_some tb L i 0 ⟨9, 0, 0, 0, ⟨#[]⟩, []⟩ w3 HT3.out HKB.out HTX.out HI.out.1 HI.out.2 rfl (by decide) (by decide) (by rw [hx0]; exact hw2))
        have hI3' := hI3
        rw [hw1] at hI3'
        obtain ⟨_, _, hv3, hcap, _⟩ := hI3'
        have HI3 : Hid (IntsAt w3 (.slice A3 wl c3) ((W L i).map fun k : Nat => (k : Int))) := hide (by rw [← hw1, hwl]; exact hI3)
        have HWL := hide (And.intro hwp (And.intro hwW hw2))
        have HX0 := hide hx0
        have i3 : ((wl : Int) == 0) = false := by rw [beq_eq_false_iff_ne]; omega
        clear hwe hI3 hown3 hb3 hw1 hw2 hwl hwp hwW hx0 hv3 hcap
        go_wp2_with fail
        refine HS1.out.mono ?_
        rintro e w4 ⟨ub, vu, ru, rfl, hTu, hb4, hlu, hSu, hRB⟩
        have hrl : ru.length = wl := by rw [hlu, HX0.out]; exact HWL.out.2.1
        rw [hrl]
        have hT4 := HT3.out.below hb4 (Nat.le_refl _)
        have HP4 := hide (HP3.out.below hb4)
        have hnl : (nds ru).length = wl := by rw [nds_length]; exact hrl
        have hSM := same_any tb L i ub (nds ru) (wl : Int) w4 hT4 hTu.tr HKB.out hRB.kb HTX.out hRB.tx HP4.out
        have hsb := same_swapped (L := L) (M := nds ru) (i := i) (s := S L i) HI.out.1 HI.out.2 (by rw [hnl]; exact HWL.out.1) (by rw [nds_length, hSu]; exact Sx_zero HOK.out _ i i (Nat.le_refl _) HI.out.1 HI.out.2)
        rw [hnl] at hsb
        rw [hsb, decide_eq_true rfl] at hSM
        have HSM := hide hSM
        have HTU := hide hTu.tr
        have HNL := hide hnl
        have HT4 := hide hT4
        have HB4 := hide (HB3.out.trans (hb4.mono HB3.out.size))
        have HN4 := hide (HN3.out.below hb4 (Nat.le_refl _))
        have HI4 := hide (HI3.out.below hb4 (Nat.le_refl _))
        clear hTu hb4 hlu hSu hRB hrl hT4 hnl hSM hsb
        go_wp2_with fail
        refine HSM.out.mono ?_
        rintro e w5 ⟨rfl, hb5⟩
        have HLU := hide (len_any ub (nds ru) w5 (HTU.out.below hb5 (Nat.le_refl _)))
        rw [HNL.out] at HLU
        have HT5 := hide (HT4.out.below hb5 (Nat.le_refl _))
        have HB5 := hide (HB4.out.trans (hb5.mono HB4.out.size))
        have HN5 := hide (HN4.out.below hb5 (Nat.le_refl _))
        have HI5 := hide (HI4.out.below hb5 (Nat.le_refl _))
        have HP5 := hide (HP4.out.below hb5)
        clear hb5
        go_wp2_with fail
        refine HLU.out.mono ?_
        rintro e w' ⟨rfl, rfl⟩
        have HS2 := hide (swap_some tb L i y swN w5 HT5.out HKB.out HTX.out HI.out.1 HI.out.2 rfl (by decide) (by decide) (Nat.le_trans (Wx_le HOK.out y i i (Nat.le_refl _) HI.out.1 HI.out.2) HWL.out.2.2))
        go_wp2_with fail
        refine HS2.out.mono ?_
        rintro e w6 ⟨vb, vv, rv, rfl, hTv, hb6, hlv, hSv, hRBv⟩
        obtain ⟨rl, hrl⟩ : ∃ rl, rl = rv.length := ⟨_, rfl⟩
        rw [← hrl]
        have hT6 := HT5.out.below hb6 (Nat.le_refl _)
        have HP6 := hide (HP5.out.below hb6)
        have hnl : (nds rv).length = rl := by rw [nds_length]; exact hrl.symm
        have hSM := same_any tb L i vb (nds rv) (rl : Int) w6 hT6 hTv.tr HKB.out hRBv.kb HTX.out hRBv.tx HP6.out
        have hsb := same_swapped (L := L) (M := nds rv) (i := i) (s := Sx L y (labN swN) i) HI.out.1 HI.out.2 (by rw [hnl, hrl, hlv]; exact Wx_pos HOK.out HI.out.1 HI.out.2) (by rw [nds_length, hSv])
        rw [hnl] at hsb
        rw [hsb] at hSM
        have HSM2 := hide hSM
        have HT6 := hide hT6
        have HB6 := hide (HB5.out.trans (hb6.mono HB5.out.size))
        have HN6 := hide (HN5.out.below hb6 (Nat.le_refl _))
        have HI6 := hide (HI5.out.below hb6 (Nat.le_refl _))
        obtain ⟨b, of, x, kv, rfl, hbl, hx, x0, x1, x2, x3, x4, x5, xk⟩ := HN6.out.at_ (k := y - 1) (by have := HY.out; omega)
        obtain ⟨Ay, cy, rfl⟩ := xk.form
        have HXY := hide hx
        have HXC := hide (And.intro x0 (And.intro x4 x5))
        clear hTv hb6 hlv hSv hRBv hrl hT6 hnl hSM hsb hx x0 x1 x2 x3 x4 x5 xk
        go_wp2_with fail
        go_loopw [19, 20] (fun hd jj wr => ∃ (j : Nat), j ≤ wl ∧ hd = .bool (decide (y ∈ (W L i).take j)) ∧ jj = .int .i64 j ∧ wr = w6) (fun _ jj _ => wl - (intOf jj).toNat)
        case atStart => exact ⟨0, Nat.zero_le _, by simp, rfl, rfl⟩
        case round =>
          obtain ⟨j, hj, rfl, rfl, rfl⟩ := hrel
          obtain ⟨hd, hhd⟩ : ∃ hd, hd = decide (y ∈ (W L i).take j) := ⟨_, rfl⟩
          rw [← hhd]
          by_cases hlt : j < wl
          · have j1 : (j : Int) < (wl : Int) := by omega
            have q5 : IntKind.i64.wrap ((j : Int) + 1) = (j : Int) + 1 := IntWalk.i64_in _ (by have := HWL.out; omega)
            obtain ⟨b3, of3, xi, rfl, _, hxi, ci⟩ := HI6.out.at_ (k := j) (by rw [List.length_map, HWL.out.2.1]; exact hlt)
            rw [List.getElem?_map] at hxi
            obtain ⟨z, hz, rfl⟩ := Option.map_eq_some_iff.1 hxi
            have htk : (W L i).take (j + 1) = (W L i).take j ++ [z] := by rw [List.take_add_one, hz]; rfl
            have HNX := hide (show decide (y ∈ (W L i).take (j + 1)) = (hd || decide (z = y)) by
              rw [htk, hhd]
              by_cases e1 : y ∈ (W L i).take j
              · simp [e1]
              · by_cases e2 : z = y
                · subst e2; simp
                · have : ¬ y = z := fun e => e2 e.symm
                  simp [e1, e2, this])
            clear hxi hz htk hhd
            cases hd with
            | true =>
              go_wp2_with fail
              go_roundw
              case rel => exact ⟨j + 1, by omega, by rw [HNX.out]; rfl, by simp, trivial⟩
              case measure => simp [intOf]; omega
            | false =>
              by_cases hzy : z = y
              · subst hzy
                go_wp2_with fail
                go_roundw
                case rel => exact ⟨j + 1, by omega, by rw [HNX.out]; simp, by simp, trivial⟩
                case measure => simp [intOf]; omega
              · have hzy' : ¬ (z : Int) = (y : Int) := by omega
                have i4 : ((z : Int) == (y : Int)) = false := by rw [beq_eq_false_iff_ne]; exact hzy'
                go_wp2_with fail
                go_roundw
                case rel => exact ⟨j + 1, by omega, by rw [HNX.out]; simp [hzy], by simp, trivial⟩
                case measure => simp [intOf]; omega
          · have hjw : j = wl := by omega
            have hhd2 : hd = decide (y ∈ W L i) := by rw [hhd, List.take_of_length_le (by rw [HWL.out.2.1]; omega)]
            have HHD := hide hhd2
            have HLN := hide (len_any tb L)
            have q7 : IntKind.i64.wrap ((y : Int) - 1) = ((y - 1 : Nat) : Int) := by rw [show (y : Int) - 1 = ((y - 1 : Nat) : Int) by have := HY.out; omega]; exact IntWalk.i64_in _ (by have := HY.out; have := HLL.out; omega)
            obtain ⟨y1, hy1⟩ : ∃ y1, y1 = y - 1 := ⟨_, rfl⟩
            rw [← hy1] at q7 HXC HXY
            have j7 : (y1 : Int) < (m : Int) := by have := HY.out; have := HM.out; omega
            have j8 : (0 : Int) ≤ (y1 : Int) := by omega
            obtain ⟨ky, hky⟩ : ∃ ky, ky = x.kids.length := ⟨_, rfl⟩
            rw [← hky] at HXC
            have HLB := hide (show ∀ br : Bool, (br = true ↔ (x.kind = 18 ∧ x.text = ⟨#[115, 119, 97, 112, 112, 101, 100]⟩ ∧ ky = 0)) → decide (S L i = Sx L y (labN swN) i) = !(hd && !br) from fun br hbr => swapped_law HOK.out HI.out.1 HI.out.2 rfl hhd2 ((lab_bare (by rw [← hy1]; exact HXY.out)).trans (by rw [← hky]; exact hbr.symm)))
            have HYC := hide hy1
            subst hjw
            clear hhd hhd2 hy1 hky
            cases hd with
            | true =>
              by_cases hk18 : x.kind = 18
              · by_cases htx : x.text = ⟨#[115, 119, 97, 112, 112, 101, 100]⟩
                · by_cases hky0 : ky = 0
                  · have hlw := HLB.out true ⟨fun _ => ⟨hk18, htx, hky0⟩, fun _ => rfl⟩
                    rw [hlw, show (!(true && !true)) = true from rfl] at HSM2
                    clear hlw
                    go_wp2_with fail
                    refine HSM2.out.mono ?_
                    rintro e w7 ⟨rfl, hb7⟩
                    have z0 : w7.cell? ⟨b, of + y1 * 6, none⟩ = some (.int .i64 x.kind) := (hb7.cell (p := ⟨b, of + y1 * 6, none⟩) hbl).trans HXC.out.1
                    have z4 : w7.cell? ⟨b, of + y1 * 6 + 4, none⟩ = some (.string x.text) := (hb7.cell (p := ⟨b, of + y1 * 6 + 4, none⟩) hbl).trans HXC.out.2.1
                    have z5 : w7.cell? ⟨b, of + y1 * 6 + 5, none⟩ = some (.slice Ay ky cy) := (hb7.cell (p := ⟨b, of + y1 * 6 + 5, none⟩) hbl).trans HXC.out.2.2
                    have HT7 := hide (HT6.out.below hb7 (Nat.le_refl _))
                    have HB7 := hide (HB6.out.trans (hb7.mono HB6.out.size))
                    have HN7 := hide (HN6.out.below hb7 (Nat.le_refl _))
                    have HLT := hide (HLN.out w7 HT7.out)
                    rw [← HM.out] at HLT
                    clear hb7
                    rw [hk18] at z0
                    rw [htx] at z4
                    rw [hky0] at z5
                    go_wp2_with fail
                    refine HLT.out.mono ?_
                    rintro e w' ⟨rfl, rfl⟩
                    clear z0 z4 z5
                    go_wp2_with fail
                    go_loopw [23] (fun jj wr => ∃ (j : Nat), j ≤ m ∧ jj = .int .i64 j ∧ Hid (Below w7.heap.size w7 wr)) (fun jj _ => m - (intOf jj).toNat)
                    case atStart => exact ⟨0, Nat.zero_le _, rfl, hide (Below.refl _ _)⟩
                    case round =>
                      obtain ⟨j, hj, rfl, HWR⟩ := hrel
                      by_cases hlt : j < m
                      · have j1 : (j : Int) < (m : Int) := by omega
                        have q5 : IntKind.i64.wrap ((j : Int) + 1) = (j : Int) + 1 := IntWalk.i64_in _ (by have := HM.out; have := HLL.out; omega)
                        obtain ⟨bq, oq, x, kq, he, hbl, hx, x0, x1, x2, x3, x4, x5, xk⟩ := HN7.out.at_ (k := j) (by have := HM.out; omega)
                        injection he with he
                        injection he with he1 he2
                        subst he1 he2
                        obtain ⟨Ak, ck, rfl⟩ := xk.form
                        have cells : ∀ V : World, Below w7.heap.size w7 V → V.cell? ⟨b, of + j * 6, none⟩ = some (.int .i64 x.kind) ∧ V.cell? ⟨b, of + j * 6 + 1, none⟩ = some (.int .i64 x.f) ∧ V.cell? ⟨b, of + j * 6 + 2, none⟩ = some (.int .i64 x.l) ∧ V.cell? ⟨b, of + j * 6 + 3, none⟩ = some (.int .i64 x.c) ∧ V.cell? ⟨b, of + j * 6 + 4, none⟩ = some (.string x.text) ∧ V.cell? ⟨b, of + j * 6 + 5, none⟩ = some (.slice Ak x.kids.length ck) := fun V hV =>
                          ⟨(hV.cell (p := ⟨b, of + j * 6, none⟩) hbl).trans x0, (hV.cell (p := ⟨b, of + j * 6 + 1, none⟩) hbl).trans x1, (hV.cell (p := ⟨b, of + j * 6 + 2, none⟩) hbl).trans x2, (hV.cell (p := ⟨b, of + j * 6 + 3, none⟩) hbl).trans x3, (hV.cell (p := ⟨b, of + j * 6 + 4, none⟩) hbl).trans x4, (hV.cell (p := ⟨b, of + j * 6 + 5, none⟩) hbl).trans x5⟩
                        have HC := hide cells
                        have S0 := cells _ HWR.out
                        have hnode := node_at (L := L) (i := j + 1) (by omega) (by have := HM.out; omega) (by simpa using hx)
                        have HND := hide (node_any tb L ((j : Int) + 1) wr.drew (HT7.out.below HWR.out.drew (Nat.le_refl _)) HKB.out)
                        rw [show ((j : Int) + 1) = ((j + 1 : Nat) : Int) by omega, hnode, show ((j + 1 : Nat) : Int) = (j : Int) + 1 by omega] at HND
                        have HXK := hide xk
                        have HXN := hide (HK20.out x (List.mem_of_getElem? hx))
                        clear x0 x1 x2 x3 x4 x5 xk hx cells hnode
                        go_wp2_with fail
                        refine wp_region_tail 99 (fun w' => w'.cell? ⟨b, of + j * 6, none⟩ = some (.int .i64 x.kind) ∧ w'.cell? ⟨b, of + j * 6 + 1, none⟩ = some (.int .i64 x.f) ∧ w'.cell? ⟨b, of + j * 6 + 2, none⟩ = some (.int .i64 x.l) ∧ w'.cell? ⟨b, of + j * 6 + 3, none⟩ = some (.int .i64 x.c) ∧ w'.cell? ⟨b, of + j * 6 + 4, none⟩ = some (.string x.text) ∧ w'.cell? ⟨b, of + j * 6 + 5, none⟩ = some (.slice Ak x.kids.length ck)) (by kernel_rfl) S0 (fun hHeld => ?_)
                        try simp only [Act.put, List.setIfInBounds_toArray, List.set_cons_zero, List.set_cons_succ]
                        refine' wpTail_take (i := 0) (oi := _) ?hi2001 ?hs2001 ?hf2001 ?hr2001 ?hz2001 ?hQ2001 (v := _) (Or.inl ⟨?hw2001, ?hy2001⟩) (by assumption) ?_
                        case hi2001 => (simp only [List.getElem?_toArray, List.getElem?_cons_zero]; exact rfl)
                        case hs2001 => kernel_rfl
                        case hf2001 => kernel_rfl
                        case hr2001 => kernel_rfl
                        case hz2001 => kernel_rfl
                        case hQ2001 => exact fun _ _ _ h => h
                        case hw2001 => rfl
                        case hy2001 => (intro w hSw; (try dsimp only at hSw); go_simp; (try with_reducible rfl))
                        try simp only [Act.put, List.setIfInBounds_toArray, List.set_cons_zero, List.set_cons_succ]
                        refine' wpTail_take (i := 1) (oi := _) ?hi2002 ?hs2002 ?hf2002 ?hr2002 ?hz2002 ?hQ2002 (v := _) (Or.inl ⟨?hw2002, ?hy2002⟩) (by assumption) ?_
                        case hi2002 => (simp only [List.getElem?_toArray, List.getElem?_cons_succ, List.getElem?_cons_zero]; exact rfl)
                        case hs2002 => kernel_rfl
                        case hf2002 => kernel_rfl
                        case hr2002 => kernel_rfl
                        case hz2002 => kernel_rfl
                        case hQ2002 => exact fun _ _ _ h => h
                        case hw2002 => rfl
                        case hy2002 => (intro w hSw; (try dsimp only at hSw); go_simp; (try with_reducible rfl))
                        try simp only [Act.put, List.setIfInBounds_toArray, List.set_cons_zero, List.set_cons_succ]
                        refine' wpTail_take (i := 2) (oi := _) ?hi2003 ?hs2003 ?hf2003 ?hr2003 ?hz2003 ?hQ2003 (v := _) (Or.inl ⟨?hw2003, ?hy2003⟩) (by assumption) ?_
                        case hi2003 => (simp only [List.getElem?_toArray, List.getElem?_cons_succ, List.getElem?_cons_zero]; exact rfl)
                        case hs2003 => kernel_rfl
                        case hf2003 => kernel_rfl
                        case hr2003 => kernel_rfl
                        case hz2003 => kernel_rfl
                        case hQ2003 => exact fun _ _ _ h => h
                        case hw2003 => rfl
                        case hy2003 => (intro w hSw; (try dsimp only at hSw); go_simp; (try with_reducible rfl))
                        try simp only [Act.put, List.setIfInBounds_toArray, List.set_cons_zero, List.set_cons_succ]
                        refine' wpTail_take (i := 4) (oi := _) ?hi2004 ?hs2004 ?hf2004 ?hr2004 ?hz2004 ?hQ2004 (v := _) (Or.inl ⟨?hw2004, ?hy2004⟩) (by assumption) ?_
                        case hi2004 => (simp only [List.getElem?_toArray, List.getElem?_cons_succ, List.getElem?_cons_zero]; exact rfl)
                        case hs2004 => kernel_rfl
                        case hf2004 => kernel_rfl
                        case hr2004 => kernel_rfl
                        case hz2004 => kernel_rfl
                        case hQ2004 => exact fun _ _ _ h => h
                        case hw2004 => rfl
                        case hy2004 => (intro w hSw; (try dsimp only at hSw); go_simp; (try with_reducible rfl))
                        try simp only [Act.put, List.setIfInBounds_toArray, List.set_cons_zero, List.set_cons_succ]
                        refine' wpTail_take (i := 5) (oi := _) ?hi2005 ?hs2005 ?hf2005 ?hr2005 ?hz2005 ?hQ2005 (v := _) (Or.inl ⟨?hw2005, ?hy2005⟩) (by assumption) ?_
                        case hi2005 => (simp only [List.getElem?_toArray, List.getElem?_cons_succ, List.getElem?_cons_zero]; exact rfl)
                        case hs2005 => kernel_rfl
                        case hf2005 => kernel_rfl
                        case hr2005 => kernel_rfl
                        case hz2005 => kernel_rfl
                        case hQ2005 => exact fun _ _ _ h => h
                        case hw2005 => rfl
                        case hy2005 => (intro w hSw; (try dsimp only at hSw); go_simp; (try with_reducible rfl))
                        try simp only [Act.put, List.setIfInBounds_toArray, List.set_cons_zero, List.set_cons_succ]
                        refine' wpTail_take (i := 6) (oi := _) ?hi2006 ?hs2006 ?hf2006 ?hr2006 ?hz2006 ?hQ2006 (v := _) (Or.inl ⟨?hw2006, ?hy2006⟩) (by assumption) ?_
                        case hi2006 => (simp only [List.getElem?_toArray, List.getElem?_cons_succ, List.getElem?_cons_zero]; exact rfl)
                        case hs2006 => kernel_rfl
                        case hf2006 => kernel_rfl
                        case hr2006 => kernel_rfl
                        case hz2006 => kernel_rfl
                        case hQ2006 => exact fun _ _ _ h => h
                        case hw2006 => rfl
                        case hy2006 => (intro w hSw; (try dsimp only at hSw); go_simp; (try with_reducible rfl))
                        try simp only [Act.put, List.setIfInBounds_toArray, List.set_cons_zero, List.set_cons_succ]
                        refine' wpTail_take (i := 7) (oi := _) ?hi2007 ?hs2007 ?hf2007 ?hr2007 ?hz2007 ?hQ2007 (v := _) (Or.inl ⟨?hw2007, ?hy2007⟩) (by assumption) ?_
                        case hi2007 => (simp only [List.getElem?_toArray, List.getElem?_cons_succ, List.getElem?_cons_zero]; exact rfl)
                        case hs2007 => kernel_rfl
                        case hf2007 => kernel_rfl
                        case hr2007 => kernel_rfl
                        case hz2007 => kernel_rfl
                        case hQ2007 => exact fun _ _ _ h => h
                        case hw2007 => rfl
                        case hy2007 => (intro w hSw; (try dsimp only at hSw); go_simp; (try with_reducible rfl))
                        try simp only [Act.put, List.setIfInBounds_toArray, List.set_cons_zero, List.set_cons_succ]
                        refine' wpTail_one (i := 3) (o := _) (by kernel_rfl) ?ho2008 ?hw2008 (fun K hK => ?_)
                        case ho2008 => (simp only [List.getElem?_toArray, List.getElem?_cons_succ, List.getElem?_cons_zero]; exact rfl)
                        case hw2008 => rfl
                        go_simp
                        (with_reducible refine HND.out.mono ?_)
                        rintro e w12 ⟨k12, rfl, hI12, hb12⟩
                        have hbw : Below w7.heap.size w7 w12 := HWR.out.drew.trans (hb12.mono HWR.out.drew.size)
                        have HAL := hide (alike_same x k12 (.slice Ak x.kids.length ck) w12 hI12 (HXK.out.below hbw (Nat.le_refl _)) (by have := HXN.out; omega))
                        have S1 := HC.out _ hbw
                        have HBW := hide hbw
                        refine hK.out _ _ (fun _ => S1) ?_
                        clear hK K hbw hI12 hb12 hHeld S0
                        try simp only [Act.put, List.setIfInBounds_toArray, List.set_cons_zero, List.set_cons_succ]
                        refine' wpTail_one (i := 8) (o := _) (by kernel_rfl) ?ho2009 ?hw2009 (fun K hK => ?_)
                        case ho2009 => (simp only [List.getElem?_toArray, List.getElem?_cons_succ, List.getElem?_cons_zero]; exact rfl)
                        case hw2009 => rfl
                        go_simp
                        (with_reducible refine HAL.out.mono ?_)
                        rintro e w13 ⟨rfl, hb13⟩
                        have hbw := HBW.out.trans (hb13.mono HBW.out.size)
                        have S2 := HC.out _ hbw
                        have HBX := hide hbw
                        refine hK.out _ _ (fun _ => S2) ?_
                        clear hK K hbw hb13 S1
                        try simp only [Act.put, List.setIfInBounds_toArray, List.set_cons_zero, List.set_cons_succ]
                        refine' wpTail_one (i := 9) (o := _) (by kernel_rfl) ?ho2010 ?hw2010 (fun K hK => ?_)
                        case ho2010 => (simp only [List.getElem?_toArray, List.getElem?_cons_succ, List.getElem?_cons_zero]; exact rfl)
                        case hw2010 => rfl
                        go_simp
                        refine hK.out _ _ (fun _ => S2) ?_
                        clear hK K
                        refine wpTail_done (by kernel_rfl) ?_ _
                        try simp only [Act.put, List.setIfInBounds_toArray, List.set_cons_zero, List.set_cons_succ]
                        clear S2
                        go_wp2_with fail
                        go_roundw
                        case rel => exact ⟨j + 1, by omega, by simp, HBX⟩
                        case measure => simp [intOf]; omega
                      · have hjm : j = m := by omega
                        subst hjm
                        go_wp2_with fail
                        go_ret
                        exact ⟨rfl, HB7.out.trans (HWR.out.mono HB7.out.size)⟩
                  · have hlw := HLB.out false ⟨(fun h => by cases h), fun h => absurd h.2.2 hky0⟩
                    rw [hlw, show (!(true && !false)) = false from rfl] at HSM2
                    clear hlw
                    go_wp2_with fail
                    refine HSM2.out.mono ?_
                    rintro e w7 ⟨rfl, hb7⟩
                    have z0 : w7.cell? ⟨b, of + y1 * 6, none⟩ = some (.int .i64 x.kind) := (hb7.cell (p := ⟨b, of + y1 * 6, none⟩) hbl).trans HXC.out.1
                    have z4 : w7.cell? ⟨b, of + y1 * 6 + 4, none⟩ = some (.string x.text) := (hb7.cell (p := ⟨b, of + y1 * 6 + 4, none⟩) hbl).trans HXC.out.2.1
                    have z5 : w7.cell? ⟨b, of + y1 * 6 + 5, none⟩ = some (.slice Ay ky cy) := (hb7.cell (p := ⟨b, of + y1 * 6 + 5, none⟩) hbl).trans HXC.out.2.2
                    have HT7 := hide (HT6.out.below hb7 (Nat.le_refl _))
                    have HB7 := hide (HB6.out.trans (hb7.mono HB6.out.size))
                    have HN7 := hide (HN6.out.below hb7 (Nat.le_refl _))
                    have HLT := hide (HLN.out w7 HT7.out)
                    rw [← HM.out] at HLT
                    clear hb7
                    rw [hk18] at z0
                    rw [htx] at z4
                    have i9 : ((ky : Int) == 0) = false := by rw [beq_eq_false_iff_ne]; omega
                    go_wp2_with fail
                    refine HLT.out.mono ?_
                    rintro e w' ⟨rfl, rfl⟩
                    clear z0 z4 z5
                    go_wp2_with fail
                    go_loopw [23] (fun jj wr => ∃ (j : Nat), j ≤ m ∧ jj = .int .i64 j ∧ Hid (Below w7.heap.size w7 wr)) (fun jj _ => m - (intOf jj).toNat)
                    case atStart => exact ⟨0, Nat.zero_le _, rfl, hide (Below.refl _ _)⟩
                    case round =>
                      obtain ⟨j, hj, rfl, HWR⟩ := hrel
                      by_cases hlt : j < m
                      · have j1 : (j : Int) < (m : Int) := by omega
                        have q5 : IntKind.i64.wrap ((j : Int) + 1) = (j : Int) + 1 := IntWalk.i64_in _ (by have := HM.out; have := HLL.out; omega)
                        obtain ⟨bq, oq, x, kq, he, hbl, hx, x0, x1, x2, x3, x4, x5, xk⟩ := HN7.out.at_ (k := j) (by have := HM.out; omega)
                        injection he with he
                        injection he with he1 he2
                        subst he1 he2
                        obtain ⟨Ak, ck, rfl⟩ := xk.form
                        have cells : ∀ V : World, Below w7.heap.size w7 V → V.cell? ⟨b, of + j * 6, none⟩ = some (.int .i64 x.kind) ∧ V.cell? ⟨b, of + j * 6 + 1, none⟩ = some (.int .i64 x.f) ∧ V.cell? ⟨b, of + j * 6 + 2, none⟩ = some (.int .i64 x.l) ∧ V.cell? ⟨b, of + j * 6 + 3, none⟩ = some (.int .i64 x.c) ∧ V.cell? ⟨b, of + j * 6 + 4, none⟩ = some (.string x.text) ∧ V.cell? ⟨b, of + j * 6 + 5, none⟩ = some (.slice Ak x.kids.length ck) := fun V hV =>
                          ⟨(hV.cell (p := ⟨b, of + j * 6, none⟩) hbl).trans x0, (hV.cell (p := ⟨b, of + j * 6 + 1, none⟩) hbl).trans x1, (hV.cell (p := ⟨b, of + j * 6 + 2, none⟩) hbl).trans x2, (hV.cell (p := ⟨b, of + j * 6 + 3, none⟩) hbl).trans x3, (hV.cell (p := ⟨b, of + j * 6 + 4, none⟩) hbl).trans x4, (hV.cell (p := ⟨b, of + j * 6 + 5, none⟩) hbl).trans x5⟩
                        have HC := hide cells
                        have S0 := cells _ HWR.out
                        have hnode := node_at (L := L) (i := j + 1) (by omega) (by have := HM.out; omega) (by simpa using hx)
                        have HND := hide (node_any tb L ((j : Int) + 1) wr.drew (HT7.out.below HWR.out.drew (Nat.le_refl _)) HKB.out)
                        rw [show ((j : Int) + 1) = ((j + 1 : Nat) : Int) by omega, hnode, show ((j + 1 : Nat) : Int) = (j : Int) + 1 by omega] at HND
                        have HXK := hide xk
                        have HXN := hide (HK20.out x (List.mem_of_getElem? hx))
                        clear x0 x1 x2 x3 x4 x5 xk hx cells hnode
                        go_wp2_with fail
                        refine wp_region_tail 99 (fun w' => w'.cell? ⟨b, of + j * 6, none⟩ = some (.int .i64 x.kind) ∧ w'.cell? ⟨b, of + j * 6 + 1, none⟩ = some (.int .i64 x.f) ∧ w'.cell? ⟨b, of + j * 6 + 2, none⟩ = some (.int .i64 x.l) ∧ w'.cell? ⟨b, of + j * 6 + 3, none⟩ = some (.int .i64 x.c) ∧ w'.cell? ⟨b, of + j * 6 + 4, none⟩ = some (.string x.text) ∧ w'.cell? ⟨b, of + j * 6 + 5, none⟩ = some (.slice Ak x.kids.length ck)) (by kernel_rfl) S0 (fun hHeld => ?_)
                        try simp only [Act.put, List.setIfInBounds_toArray, List.set_cons_zero, List.set_cons_succ]
                        refine' wpTail_take (i := 0) (oi := _) ?hi2011 ?hs2011 ?hf2011 ?hr2011 ?hz2011 ?hQ2011 (v := _) (Or.inl ⟨?hw2011, ?hy2011⟩) (by assumption) ?_
                        case hi2011 => (simp only [List.getElem?_toArray, List.getElem?_cons_zero]; exact rfl)
                        case hs2011 => kernel_rfl
                        case hf2011 => kernel_rfl
                        case hr2011 => kernel_rfl
                        case hz2011 => kernel_rfl
                        case hQ2011 => exact fun _ _ _ h => h
                        case hw2011 => rfl
                        case hy2011 => (intro w hSw; (try dsimp only at hSw); go_simp; (try with_reducible rfl))
                        try simp only [Act.put, List.setIfInBounds_toArray, List.set_cons_zero, List.set_cons_succ]
                        refine' wpTail_take (i := 1) (oi := _) ?hi2012 ?hs2012 ?hf2012 ?hr2012 ?hz2012 ?hQ2012 (v := _) (Or.inl ⟨?hw2012, ?hy2012⟩) (by assumption) ?_
                        case hi2012 => (simp only [List.getElem?_toArray, List.getElem?_cons_succ, List.getElem?_cons_zero]; exact rfl)
                        case hs2012 => kernel_rfl
                        case hf2012 => kernel_rfl
                        case hr2012 => kernel_rfl
                        case hz2012 => kernel_rfl
                        case hQ2012 => exact fun _ _ _ h => h
                        case hw2012 => rfl
                        case hy2012 => (intro w hSw; (try dsimp only at hSw); go_simp; (try with_reducible rfl))
                        try simp only [Act.put, List.setIfInBounds_toArray, List.set_cons_zero, List.set_cons_succ]
                        refine' wpTail_take (i := 2) (oi := _) ?hi2013 ?hs2013 ?hf2013 ?hr2013 ?hz2013 ?hQ2013 (v := _) (Or.inl ⟨?hw2013, ?hy2013⟩) (by assumption) ?_
                        case hi2013 => (simp only [List.getElem?_toArray, List.getElem?_cons_succ, List.getElem?_cons_zero]; exact rfl)
                        case hs2013 => kernel_rfl
                        case hf2013 => kernel_rfl
                        case hr2013 => kernel_rfl
                        case hz2013 => kernel_rfl
                        case hQ2013 => exact fun _ _ _ h => h
                        case hw2013 => rfl
                        case hy2013 => (intro w hSw; (try dsimp only at hSw); go_simp; (try with_reducible rfl))
                        try simp only [Act.put, List.setIfInBounds_toArray, List.set_cons_zero, List.set_cons_succ]
                        refine' wpTail_take (i := 4) (oi := _) ?hi2014 ?hs2014 ?hf2014 ?hr2014 ?hz2014 ?hQ2014 (v := _) (Or.inl ⟨?hw2014, ?hy2014⟩) (by assumption) ?_
                        case hi2014 => (simp only [List.getElem?_toArray, List.getElem?_cons_succ, List.getElem?_cons_zero]; exact rfl)
                        case hs2014 => kernel_rfl
                        case hf2014 => kernel_rfl
                        case hr2014 => kernel_rfl
                        case hz2014 => kernel_rfl
                        case hQ2014 => exact fun _ _ _ h => h
                        case hw2014 => rfl
                        case hy2014 => (intro w hSw; (try dsimp only at hSw); go_simp; (try with_reducible rfl))
                        try simp only [Act.put, List.setIfInBounds_toArray, List.set_cons_zero, List.set_cons_succ]
                        refine' wpTail_take (i := 5) (oi := _) ?hi2015 ?hs2015 ?hf2015 ?hr2015 ?hz2015 ?hQ2015 (v := _) (Or.inl ⟨?hw2015, ?hy2015⟩) (by assumption) ?_
                        case hi2015 => (simp only [List.getElem?_toArray, List.getElem?_cons_succ, List.getElem?_cons_zero]; exact rfl)
                        case hs2015 => kernel_rfl
                        case hf2015 => kernel_rfl
                        case hr2015 => kernel_rfl
                        case hz2015 => kernel_rfl
                        case hQ2015 => exact fun _ _ _ h => h
                        case hw2015 => rfl
                        case hy2015 => (intro w hSw; (try dsimp only at hSw); go_simp; (try with_reducible rfl))
                        try simp only [Act.put, List.setIfInBounds_toArray, List.set_cons_zero, List.set_cons_succ]
                        refine' wpTail_take (i := 6) (oi := _) ?hi2016 ?hs2016 ?hf2016 ?hr2016 ?hz2016 ?hQ2016 (v := _) (Or.inl ⟨?hw2016, ?hy2016⟩) (by assumption) ?_
                        case hi2016 => (simp only [List.getElem?_toArray, List.getElem?_cons_succ, List.getElem?_cons_zero]; exact rfl)
                        case hs2016 => kernel_rfl
                        case hf2016 => kernel_rfl
                        case hr2016 => kernel_rfl
                        case hz2016 => kernel_rfl
                        case hQ2016 => exact fun _ _ _ h => h
                        case hw2016 => rfl
                        case hy2016 => (intro w hSw; (try dsimp only at hSw); go_simp; (try with_reducible rfl))
                        try simp only [Act.put, List.setIfInBounds_toArray, List.set_cons_zero, List.set_cons_succ]
                        refine' wpTail_take (i := 7) (oi := _) ?hi2017 ?hs2017 ?hf2017 ?hr2017 ?hz2017 ?hQ2017 (v := _) (Or.inl ⟨?hw2017, ?hy2017⟩) (by assumption) ?_
                        case hi2017 => (simp only [List.getElem?_toArray, List.getElem?_cons_succ, List.getElem?_cons_zero]; exact rfl)
                        case hs2017 => kernel_rfl
                        case hf2017 => kernel_rfl
                        case hr2017 => kernel_rfl
                        case hz2017 => kernel_rfl
                        case hQ2017 => exact fun _ _ _ h => h
                        case hw2017 => rfl
                        case hy2017 => (intro w hSw; (try dsimp only at hSw); go_simp; (try with_reducible rfl))
                        try simp only [Act.put, List.setIfInBounds_toArray, List.set_cons_zero, List.set_cons_succ]
                        refine' wpTail_one (i := 3) (o := _) (by kernel_rfl) ?ho2018 ?hw2018 (fun K hK => ?_)
                        case ho2018 => (simp only [List.getElem?_toArray, List.getElem?_cons_succ, List.getElem?_cons_zero]; exact rfl)
                        case hw2018 => rfl
                        go_simp
                        (with_reducible refine HND.out.mono ?_)
                        rintro e w12 ⟨k12, rfl, hI12, hb12⟩
                        have hbw : Below w7.heap.size w7 w12 := HWR.out.drew.trans (hb12.mono HWR.out.drew.size)
                        have HAL := hide (alike_same x k12 (.slice Ak x.kids.length ck) w12 hI12 (HXK.out.below hbw (Nat.le_refl _)) (by have := HXN.out; omega))
                        have S1 := HC.out _ hbw
                        have HBW := hide hbw
                        refine hK.out _ _ (fun _ => S1) ?_
                        clear hK K hbw hI12 hb12 hHeld S0
                        try simp only [Act.put, List.setIfInBounds_toArray, List.set_cons_zero, List.set_cons_succ]
                        refine' wpTail_one (i := 8) (o := _) (by kernel_rfl) ?ho2019 ?hw2019 (fun K hK => ?_)
                        case ho2019 => (simp only [List.getElem?_toArray, List.getElem?_cons_succ, List.getElem?_cons_zero]; exact rfl)
                        case hw2019 => rfl
                        go_simp
                        (with_reducible refine HAL.out.mono ?_)
                        rintro e w13 ⟨rfl, hb13⟩
                        have hbw := HBW.out.trans (hb13.mono HBW.out.size)
                        have S2 := HC.out _ hbw
                        have HBX := hide hbw
                        refine hK.out _ _ (fun _ => S2) ?_
                        clear hK K hbw hb13 S1
                        try simp only [Act.put, List.setIfInBounds_toArray, List.set_cons_zero, List.set_cons_succ]
                        refine' wpTail_one (i := 9) (o := _) (by kernel_rfl) ?ho2020 ?hw2020 (fun K hK => ?_)
                        case ho2020 => (simp only [List.getElem?_toArray, List.getElem?_cons_succ, List.getElem?_cons_zero]; exact rfl)
                        case hw2020 => rfl
                        go_simp
                        refine hK.out _ _ (fun _ => S2) ?_
                        clear hK K
                        refine wpTail_done (by kernel_rfl) ?_ _
                        try simp only [Act.put, List.setIfInBounds_toArray, List.set_cons_zero, List.set_cons_succ]
                        clear S2
                        go_wp2_with fail
                        go_roundw
                        case rel => exact ⟨j + 1, by omega, by simp, HBX⟩
                        case measure => simp [intOf]; omega
                      · have hjm : j = m := by omega
                        subst hjm
                        go_wp2_with fail
                        go_ret
                        exact ⟨rfl, HB7.out.trans (HWR.out.mono HB7.out.size)⟩
                · have hlw := HLB.out false ⟨(fun h => by cases h), fun h => absurd h.2.1 htx⟩
                  rw [hlw, show (!(true && !false)) = false from rfl] at HSM2
                  clear hlw
                  go_wp2_with fail
                  refine HSM2.out.mono ?_
                  rintro e w7 ⟨rfl, hb7⟩
                  have z0 : w7.cell? ⟨b, of + y1 * 6, none⟩ = some (.int .i64 x.kind) := (hb7.cell (p := ⟨b, of + y1 * 6, none⟩) hbl).trans HXC.out.1
                  have z4 : w7.cell? ⟨b, of + y1 * 6 + 4, none⟩ = some (.string x.text) := (hb7.cell (p := ⟨b, of + y1 * 6 + 4, none⟩) hbl).trans HXC.out.2.1
                  have z5 : w7.cell? ⟨b, of + y1 * 6 + 5, none⟩ = some (.slice Ay ky cy) := (hb7.cell (p := ⟨b, of + y1 * 6 + 5, none⟩) hbl).trans HXC.out.2.2
                  have HT7 := hide (HT6.out.below hb7 (Nat.le_refl _))
                  have HB7 := hide (HB6.out.trans (hb7.mono HB6.out.size))
                  have HN7 := hide (HN6.out.below hb7 (Nat.le_refl _))
                  have HLT := hide (HLN.out w7 HT7.out)
                  rw [← HM.out] at HLT
                  clear hb7
                  rw [hk18] at z0
                  have i9 : ¬ x.text.toList = [115, 119, 97, 112, 112, 101, 100] := fun e => htx (bytes_injT (by rw [← ByteArray.toList_eq]; exact e))
                  go_wp2_with fail
                  refine HLT.out.mono ?_
                  rintro e w' ⟨rfl, rfl⟩
                  clear z0 z4 z5
                  go_wp2_with fail
                  go_loopw [23] (fun jj wr => ∃ (j : Nat), j ≤ m ∧ jj = .int .i64 j ∧ Hid (Below w7.heap.size w7 wr)) (fun jj _ => m - (intOf jj).toNat)
                  case atStart => exact ⟨0, Nat.zero_le _, rfl, hide (Below.refl _ _)⟩
                  case round =>
                    obtain ⟨j, hj, rfl, HWR⟩ := hrel
                    by_cases hlt : j < m
                    · have j1 : (j : Int) < (m : Int) := by omega
                      have q5 : IntKind.i64.wrap ((j : Int) + 1) = (j : Int) + 1 := IntWalk.i64_in _ (by have := HM.out; have := HLL.out; omega)
                      obtain ⟨bq, oq, x, kq, he, hbl, hx, x0, x1, x2, x3, x4, x5, xk⟩ := HN7.out.at_ (k := j) (by have := HM.out; omega)
                      injection he with he
                      injection he with he1 he2
                      subst he1 he2
                      obtain ⟨Ak, ck, rfl⟩ := xk.form
                      have cells : ∀ V : World, Below w7.heap.size w7 V → V.cell? ⟨b, of + j * 6, none⟩ = some (.int .i64 x.kind) ∧ V.cell? ⟨b, of + j * 6 + 1, none⟩ = some (.int .i64 x.f) ∧ V.cell? ⟨b, of + j * 6 + 2, none⟩ = some (.int .i64 x.l) ∧ V.cell? ⟨b, of + j * 6 + 3, none⟩ = some (.int .i64 x.c) ∧ V.cell? ⟨b, of + j * 6 + 4, none⟩ = some (.string x.text) ∧ V.cell? ⟨b, of + j * 6 + 5, none⟩ = some (.slice Ak x.kids.length ck) := fun V hV =>
                        ⟨(hV.cell (p := ⟨b, of + j * 6, none⟩) hbl).trans x0, (hV.cell (p := ⟨b, of + j * 6 + 1, none⟩) hbl).trans x1, (hV.cell (p := ⟨b, of + j * 6 + 2, none⟩) hbl).trans x2, (hV.cell (p := ⟨b, of + j * 6 + 3, none⟩) hbl).trans x3, (hV.cell (p := ⟨b, of + j * 6 + 4, none⟩) hbl).trans x4, (hV.cell (p := ⟨b, of + j * 6 + 5, none⟩) hbl).trans x5⟩
                      have HC := hide cells
                      have S0 := cells _ HWR.out
                      have hnode := node_at (L := L) (i := j + 1) (by omega) (by have := HM.out; omega) (by simpa using hx)
                      have HND := hide (node_any tb L ((j : Int) + 1) wr.drew (HT7.out.below HWR.out.drew (Nat.le_refl _)) HKB.out)
                      rw [show ((j : Int) + 1) = ((j + 1 : Nat) : Int) by omega, hnode, show ((j + 1 : Nat) : Int) = (j : Int) + 1 by omega] at HND
                      have HXK := hide xk
                      have HXN := hide (HK20.out x (List.mem_of_getElem? hx))
                      clear x0 x1 x2 x3 x4 x5 xk hx cells hnode
                      go_wp2_with fail
                      refine wp_region_tail 99 (fun w' => w'.cell? ⟨b, of + j * 6, none⟩ = some (.int .i64 x.kind) ∧ w'.cell? ⟨b, of + j * 6 + 1, none⟩ = some (.int .i64 x.f) ∧ w'.cell? ⟨b, of + j * 6 + 2, none⟩ = some (.int .i64 x.l) ∧ w'.cell? ⟨b, of + j * 6 + 3, none⟩ = some (.int .i64 x.c) ∧ w'.cell? ⟨b, of + j * 6 + 4, none⟩ = some (.string x.text) ∧ w'.cell? ⟨b, of + j * 6 + 5, none⟩ = some (.slice Ak x.kids.length ck)) (by kernel_rfl) S0 (fun hHeld => ?_)
                      try simp only [Act.put, List.setIfInBounds_toArray, List.set_cons_zero, List.set_cons_succ]
                      refine' wpTail_take (i := 0) (oi := _) ?hi2021 ?hs2021 ?hf2021 ?hr2021 ?hz2021 ?hQ2021 (v := _) (Or.inl ⟨?hw2021, ?hy2021⟩) (by assumption) ?_
                      case hi2021 => (simp only [List.getElem?_toArray, List.getElem?_cons_zero]; exact rfl)
                      case hs2021 => kernel_rfl
                      case hf2021 => kernel_rfl
                      case hr2021 => kernel_rfl
                      case hz2021 => kernel_rfl
                      case hQ2021 => exact fun _ _ _ h => h
                      case hw2021 => rfl
                      case hy2021 => (intro w hSw; (try dsimp only at hSw); go_simp; (try with_reducible rfl))
                      try simp only [Act.put, List.setIfInBounds_toArray, List.set_cons_zero, List.set_cons_succ]
                      refine' wpTail_take (i := 1) (oi := _) ?hi2022 ?hs2022 ?hf2022 ?hr2022 ?hz2022 ?hQ2022 (v := _) (Or.inl ⟨?hw2022, ?hy2022⟩) (by assumption) ?_
                      case hi2022 => (simp only [List.getElem?_toArray, List.getElem?_cons_succ, List.getElem?_cons_zero]; exact rfl)
                      case hs2022 => kernel_rfl
                      case hf2022 => kernel_rfl
                      case hr2022 => kernel_rfl
                      case hz2022 => kernel_rfl
                      case hQ2022 => exact fun _ _ _ h => h
                      case hw2022 => rfl
                      case hy2022 => (intro w hSw; (try dsimp only at hSw); go_simp; (try with_reducible rfl))
                      try simp only [Act.put, List.setIfInBounds_toArray, List.set_cons_zero, List.set_cons_succ]
                      refine' wpTail_take (i := 2) (oi := _) ?hi2023 ?hs2023 ?hf2023 ?hr2023 ?hz2023 ?hQ2023 (v := _) (Or.inl ⟨?hw2023, ?hy2023⟩) (by assumption) ?_
                      case hi2023 => (simp only [List.getElem?_toArray, List.getElem?_cons_succ, List.getElem?_cons_zero]; exact rfl)
                      case hs2023 => kernel_rfl
                      case hf2023 => kernel_rfl
                      case hr2023 => kernel_rfl
                      case hz2023 => kernel_rfl
                      case hQ2023 => exact fun _ _ _ h => h
                      case hw2023 => rfl
                      case hy2023 => (intro w hSw; (try dsimp only at hSw); go_simp; (try with_reducible rfl))
                      try simp only [Act.put, List.setIfInBounds_toArray, List.set_cons_zero, List.set_cons_succ]
                      refine' wpTail_take (i := 4) (oi := _) ?hi2024 ?hs2024 ?hf2024 ?hr2024 ?hz2024 ?hQ2024 (v := _) (Or.inl ⟨?hw2024, ?hy2024⟩) (by assumption) ?_
                      case hi2024 => (simp only [List.getElem?_toArray, List.getElem?_cons_succ, List.getElem?_cons_zero]; exact rfl)
                      case hs2024 => kernel_rfl
                      case hf2024 => kernel_rfl
                      case hr2024 => kernel_rfl
                      case hz2024 => kernel_rfl
                      case hQ2024 => exact fun _ _ _ h => h
                      case hw2024 => rfl
                      case hy2024 => (intro w hSw; (try dsimp only at hSw); go_simp; (try with_reducible rfl))
                      try simp only [Act.put, List.setIfInBounds_toArray, List.set_cons_zero, List.set_cons_succ]
                      refine' wpTail_take (i := 5) (oi := _) ?hi2025 ?hs2025 ?hf2025 ?hr2025 ?hz2025 ?hQ2025 (v := _) (Or.inl ⟨?hw2025, ?hy2025⟩) (by assumption) ?_
                      case hi2025 => (simp only [List.getElem?_toArray, List.getElem?_cons_succ, List.getElem?_cons_zero]; exact rfl)
                      case hs2025 => kernel_rfl
                      case hf2025 => kernel_rfl
                      case hr2025 => kernel_rfl
                      case hz2025 => kernel_rfl
                      case hQ2025 => exact fun _ _ _ h => h
                      case hw2025 => rfl
                      case hy2025 => (intro w hSw; (try dsimp only at hSw); go_simp; (try with_reducible rfl))
                      try simp only [Act.put, List.setIfInBounds_toArray, List.set_cons_zero, List.set_cons_succ]
                      refine' wpTail_take (i := 6) (oi := _) ?hi2026 ?hs2026 ?hf2026 ?hr2026 ?hz2026 ?hQ2026 (v := _) (Or.inl ⟨?hw2026, ?hy2026⟩) (by assumption) ?_
                      case hi2026 => (simp only [List.getElem?_toArray, List.getElem?_cons_succ, List.getElem?_cons_zero]; exact rfl)
                      case hs2026 => kernel_rfl
                      case hf2026 => kernel_rfl
                      case hr2026 => kernel_rfl
                      case hz2026 => kernel_rfl
                      case hQ2026 => exact fun _ _ _ h => h
                      case hw2026 => rfl
                      case hy2026 => (intro w hSw; (try dsimp only at hSw); go_simp; (try with_reducible rfl))
                      try simp only [Act.put, List.setIfInBounds_toArray, List.set_cons_zero, List.set_cons_succ]
                      refine' wpTail_take (i := 7) (oi := _) ?hi2027 ?hs2027 ?hf2027 ?hr2027 ?hz2027 ?hQ2027 (v := _) (Or.inl ⟨?hw2027, ?hy2027⟩) (by assumption) ?_
                      case hi2027 => (simp only [List.getElem?_toArray, List.getElem?_cons_succ, List.getElem?_cons_zero]; exact rfl)
                      case hs2027 => kernel_rfl
                      case hf2027 => kernel_rfl
                      case hr2027 => kernel_rfl
                      case hz2027 => kernel_rfl
                      case hQ2027 => exact fun _ _ _ h => h
                      case hw2027 => rfl
                      case hy2027 => (intro w hSw; (try dsimp only at hSw); go_simp; (try with_reducible rfl))
                      try simp only [Act.put, List.setIfInBounds_toArray, List.set_cons_zero, List.set_cons_succ]
                      refine' wpTail_one (i := 3) (o := _) (by kernel_rfl) ?ho2028 ?hw2028 (fun K hK => ?_)
                      case ho2028 => (simp only [List.getElem?_toArray, List.getElem?_cons_succ, List.getElem?_cons_zero]; exact rfl)
                      case hw2028 => rfl
                      go_simp
                      (with_reducible refine HND.out.mono ?_)
                      rintro e w12 ⟨k12, rfl, hI12, hb12⟩
                      have hbw : Below w7.heap.size w7 w12 := HWR.out.drew.trans (hb12.mono HWR.out.drew.size)
                      have HAL := hide (alike_same x k12 (.slice Ak x.kids.length ck) w12 hI12 (HXK.out.below hbw (Nat.le_refl _)) (by have := HXN.out; omega))
                      have S1 := HC.out _ hbw
                      have HBW := hide hbw
                      refine hK.out _ _ (fun _ => S1) ?_
                      clear hK K hbw hI12 hb12 hHeld S0
                      try simp only [Act.put, List.setIfInBounds_toArray, List.set_cons_zero, List.set_cons_succ]
                      refine' wpTail_one (i := 8) (o := _) (by kernel_rfl) ?ho2029 ?hw2029 (fun K hK => ?_)
                      case ho2029 => (simp only [List.getElem?_toArray, List.getElem?_cons_succ, List.getElem?_cons_zero]; exact rfl)
                      case hw2029 => rfl
                      go_simp
                      (with_reducible refine HAL.out.mono ?_)
                      rintro e w13 ⟨rfl, hb13⟩
                      have hbw := HBW.out.trans (hb13.mono HBW.out.size)
                      have S2 := HC.out _ hbw
                      have HBX := hide hbw
                      refine hK.out _ _ (fun _ => S2) ?_
                      clear hK K hbw hb13 S1
                      try simp only [Act.put, List.setIfInBounds_toArray, List.set_cons_zero, List.set_cons_succ]
                      refine' wpTail_one (i := 9) (o := _) (by kernel_rfl) ?ho2030 ?hw2030 (fun K hK => ?_)
                      case ho2030 => (simp only [List.getElem?_toArray, List.getElem?_cons_succ, List.getElem?_cons_zero]; exact rfl)
                      case hw2030 => rfl
                      go_simp
                      refine hK.out _ _ (fun _ => S2) ?_
                      clear hK K
                      refine wpTail_done (by kernel_rfl) ?_ _
                      try simp only [Act.put, List.setIfInBounds_toArray, List.set_cons_zero, List.set_cons_succ]
                      clear S2
                      go_wp2_with fail
                      go_roundw
                      case rel => exact ⟨j + 1, by omega, by simp, HBX⟩
                      case measure => simp [intOf]; omega
                    · have hjm : j = m := by omega
                      subst hjm
                      go_wp2_with fail
                      go_ret
                      exact ⟨rfl, HB7.out.trans (HWR.out.mono HB7.out.size)⟩
              · have hlw := HLB.out false ⟨(fun h => by cases h), fun h => absurd h.1 hk18⟩
                rw [hlw, show (!(true && !false)) = false from rfl] at HSM2
                clear hlw
                go_wp2_with fail
                refine HSM2.out.mono ?_
                rintro e w7 ⟨rfl, hb7⟩
                have z0 : w7.cell? ⟨b, of + y1 * 6, none⟩ = some (.int .i64 x.kind) := (hb7.cell (p := ⟨b, of + y1 * 6, none⟩) hbl).trans HXC.out.1
                have z4 : w7.cell? ⟨b, of + y1 * 6 + 4, none⟩ = some (.string x.text) := (hb7.cell (p := ⟨b, of + y1 * 6 + 4, none⟩) hbl).trans HXC.out.2.1
                have z5 : w7.cell? ⟨b, of + y1 * 6 + 5, none⟩ = some (.slice Ay ky cy) := (hb7.cell (p := ⟨b, of + y1 * 6 + 5, none⟩) hbl).trans HXC.out.2.2
                have HT7 := hide (HT6.out.below hb7 (Nat.le_refl _))
                have HB7 := hide (HB6.out.trans (hb7.mono HB6.out.size))
                have HN7 := hide (HN6.out.below hb7 (Nat.le_refl _))
                have HLT := hide (HLN.out w7 HT7.out)
                rw [← HM.out] at HLT
                clear hb7
                have i9 : (x.kind == 18) = false := by rw [beq_eq_false_iff_ne]; exact hk18
                go_wp2_with fail
                refine HLT.out.mono ?_
                rintro e w' ⟨rfl, rfl⟩
                clear z0 z4 z5
                go_wp2_with fail
                go_loopw [23] (fun jj wr => ∃ (j : Nat), j ≤ m ∧ jj = .int .i64 j ∧ Hid (Below w7.heap.size w7 wr)) (fun jj _ => m - (intOf jj).toNat)
                case atStart => exact ⟨0, Nat.zero_le _, rfl, hide (Below.refl _ _)⟩
                case round =>
                  obtain ⟨j, hj, rfl, HWR⟩ := hrel
                  by_cases hlt : j < m
                  · have j1 : (j : Int) < (m : Int) := by omega
                    have q5 : IntKind.i64.wrap ((j : Int) + 1) = (j : Int) + 1 := IntWalk.i64_in _ (by have := HM.out; have := HLL.out; omega)
                    obtain ⟨bq, oq, x, kq, he, hbl, hx, x0, x1, x2, x3, x4, x5, xk⟩ := HN7.out.at_ (k := j) (by have := HM.out; omega)
                    injection he with he
                    injection he with he1 he2
                    subst he1 he2
                    obtain ⟨Ak, ck, rfl⟩ := xk.form
                    have cells : ∀ V : World, Below w7.heap.size w7 V → V.cell? ⟨b, of + j * 6, none⟩ = some (.int .i64 x.kind) ∧ V.cell? ⟨b, of + j * 6 + 1, none⟩ = some (.int .i64 x.f) ∧ V.cell? ⟨b, of + j * 6 + 2, none⟩ = some (.int .i64 x.l) ∧ V.cell? ⟨b, of + j * 6 + 3, none⟩ = some (.int .i64 x.c) ∧ V.cell? ⟨b, of + j * 6 + 4, none⟩ = some (.string x.text) ∧ V.cell? ⟨b, of + j * 6 + 5, none⟩ = some (.slice Ak x.kids.length ck) := fun V hV =>
                      ⟨(hV.cell (p := ⟨b, of + j * 6, none⟩) hbl).trans x0, (hV.cell (p := ⟨b, of + j * 6 + 1, none⟩) hbl).trans x1, (hV.cell (p := ⟨b, of + j * 6 + 2, none⟩) hbl).trans x2, (hV.cell (p := ⟨b, of + j * 6 + 3, none⟩) hbl).trans x3, (hV.cell (p := ⟨b, of + j * 6 + 4, none⟩) hbl).trans x4, (hV.cell (p := ⟨b, of + j * 6 + 5, none⟩) hbl).trans x5⟩
                    have HC := hide cells
                    have S0 := cells _ HWR.out
                    have hnode := node_at (L := L) (i := j + 1) (by omega) (by have := HM.out; omega) (by simpa using hx)
                    have HND := hide (node_any tb L ((j : Int) + 1) wr.drew (HT7.out.below HWR.out.drew (Nat.le_refl _)) HKB.out)
                    rw [show ((j : Int) + 1) = ((j + 1 : Nat) : Int) by omega, hnode, show ((j + 1 : Nat) : Int) = (j : Int) + 1 by omega] at HND
                    have HXK := hide xk
                    have HXN := hide (HK20.out x (List.mem_of_getElem? hx))
                    clear x0 x1 x2 x3 x4 x5 xk hx cells hnode
                    go_wp2_with fail
                    refine wp_region_tail 99 (fun w' => w'.cell? ⟨b, of + j * 6, none⟩ = some (.int .i64 x.kind) ∧ w'.cell? ⟨b, of + j * 6 + 1, none⟩ = some (.int .i64 x.f) ∧ w'.cell? ⟨b, of + j * 6 + 2, none⟩ = some (.int .i64 x.l) ∧ w'.cell? ⟨b, of + j * 6 + 3, none⟩ = some (.int .i64 x.c) ∧ w'.cell? ⟨b, of + j * 6 + 4, none⟩ = some (.string x.text) ∧ w'.cell? ⟨b, of + j * 6 + 5, none⟩ = some (.slice Ak x.kids.length ck)) (by kernel_rfl) S0 (fun hHeld => ?_)
                    try simp only [Act.put, List.setIfInBounds_toArray, List.set_cons_zero, List.set_cons_succ]
                    refine' wpTail_take (i := 0) (oi := _) ?hi2031 ?hs2031 ?hf2031 ?hr2031 ?hz2031 ?hQ2031 (v := _) (Or.inl ⟨?hw2031, ?hy2031⟩) (by assumption) ?_
                    case hi2031 => (simp only [List.getElem?_toArray, List.getElem?_cons_zero]; exact rfl)
                    case hs2031 => kernel_rfl
                    case hf2031 => kernel_rfl
                    case hr2031 => kernel_rfl
                    case hz2031 => kernel_rfl
                    case hQ2031 => exact fun _ _ _ h => h
                    case hw2031 => rfl
                    case hy2031 => (intro w hSw; (try dsimp only at hSw); go_simp; (try with_reducible rfl))
                    try simp only [Act.put, List.setIfInBounds_toArray, List.set_cons_zero, List.set_cons_succ]
                    refine' wpTail_take (i := 1) (oi := _) ?hi2032 ?hs2032 ?hf2032 ?hr2032 ?hz2032 ?hQ2032 (v := _) (Or.inl ⟨?hw2032, ?hy2032⟩) (by assumption) ?_
                    case hi2032 => (simp only [List.getElem?_toArray, List.getElem?_cons_succ, List.getElem?_cons_zero]; exact rfl)
                    case hs2032 => kernel_rfl
                    case hf2032 => kernel_rfl
                    case hr2032 => kernel_rfl
                    case hz2032 => kernel_rfl
                    case hQ2032 => exact fun _ _ _ h => h
                    case hw2032 => rfl
                    case hy2032 => (intro w hSw; (try dsimp only at hSw); go_simp; (try with_reducible rfl))
                    try simp only [Act.put, List.setIfInBounds_toArray, List.set_cons_zero, List.set_cons_succ]
                    refine' wpTail_take (i := 2) (oi := _) ?hi2033 ?hs2033 ?hf2033 ?hr2033 ?hz2033 ?hQ2033 (v := _) (Or.inl ⟨?hw2033, ?hy2033⟩) (by assumption) ?_
                    case hi2033 => (simp only [List.getElem?_toArray, List.getElem?_cons_succ, List.getElem?_cons_zero]; exact rfl)
                    case hs2033 => kernel_rfl
                    case hf2033 => kernel_rfl
                    case hr2033 => kernel_rfl
                    case hz2033 => kernel_rfl
                    case hQ2033 => exact fun _ _ _ h => h
                    case hw2033 => rfl
                    case hy2033 => (intro w hSw; (try dsimp only at hSw); go_simp; (try with_reducible rfl))
                    try simp only [Act.put, List.setIfInBounds_toArray, List.set_cons_zero, List.set_cons_succ]
                    refine' wpTail_take (i := 4) (oi := _) ?hi2034 ?hs2034 ?hf2034 ?hr2034 ?hz2034 ?hQ2034 (v := _) (Or.inl ⟨?hw2034, ?hy2034⟩) (by assumption) ?_
                    case hi2034 => (simp only [List.getElem?_toArray, List.getElem?_cons_succ, List.getElem?_cons_zero]; exact rfl)
                    case hs2034 => kernel_rfl
                    case hf2034 => kernel_rfl
                    case hr2034 => kernel_rfl
                    case hz2034 => kernel_rfl
                    case hQ2034 => exact fun _ _ _ h => h
                    case hw2034 => rfl
                    case hy2034 => (intro w hSw; (try dsimp only at hSw); go_simp; (try with_reducible rfl))
                    try simp only [Act.put, List.setIfInBounds_toArray, List.set_cons_zero, List.set_cons_succ]
                    refine' wpTail_take (i := 5) (oi := _) ?hi2035 ?hs2035 ?hf2035 ?hr2035 ?hz2035 ?hQ2035 (v := _) (Or.inl ⟨?hw2035, ?hy2035⟩) (by assumption) ?_
                    case hi2035 => (simp only [List.getElem?_toArray, List.getElem?_cons_succ, List.getElem?_cons_zero]; exact rfl)
                    case hs2035 => kernel_rfl
                    case hf2035 => kernel_rfl
                    case hr2035 => kernel_rfl
                    case hz2035 => kernel_rfl
                    case hQ2035 => exact fun _ _ _ h => h
                    case hw2035 => rfl
                    case hy2035 => (intro w hSw; (try dsimp only at hSw); go_simp; (try with_reducible rfl))
                    try simp only [Act.put, List.setIfInBounds_toArray, List.set_cons_zero, List.set_cons_succ]
                    refine' wpTail_take (i := 6) (oi := _) ?hi2036 ?hs2036 ?hf2036 ?hr2036 ?hz2036 ?hQ2036 (v := _) (Or.inl ⟨?hw2036, ?hy2036⟩) (by assumption) ?_
                    case hi2036 => (simp only [List.getElem?_toArray, List.getElem?_cons_succ, List.getElem?_cons_zero]; exact rfl)
                    case hs2036 => kernel_rfl
                    case hf2036 => kernel_rfl
                    case hr2036 => kernel_rfl
                    case hz2036 => kernel_rfl
                    case hQ2036 => exact fun _ _ _ h => h
                    case hw2036 => rfl
                    case hy2036 => (intro w hSw; (try dsimp only at hSw); go_simp; (try with_reducible rfl))
                    try simp only [Act.put, List.setIfInBounds_toArray, List.set_cons_zero, List.set_cons_succ]
                    refine' wpTail_take (i := 7) (oi := _) ?hi2037 ?hs2037 ?hf2037 ?hr2037 ?hz2037 ?hQ2037 (v := _) (Or.inl ⟨?hw2037, ?hy2037⟩) (by assumption) ?_
                    case hi2037 => (simp only [List.getElem?_toArray, List.getElem?_cons_succ, List.getElem?_cons_zero]; exact rfl)
                    case hs2037 => kernel_rfl
                    case hf2037 => kernel_rfl
                    case hr2037 => kernel_rfl
                    case hz2037 => kernel_rfl
                    case hQ2037 => exact fun _ _ _ h => h
                    case hw2037 => rfl
                    case hy2037 => (intro w hSw; (try dsimp only at hSw); go_simp; (try with_reducible rfl))
                    try simp only [Act.put, List.setIfInBounds_toArray, List.set_cons_zero, List.set_cons_succ]
                    refine' wpTail_one (i := 3) (o := _) (by kernel_rfl) ?ho2038 ?hw2038 (fun K hK => ?_)
                    case ho2038 => (simp only [List.getElem?_toArray, List.getElem?_cons_succ, List.getElem?_cons_zero]; exact rfl)
                    case hw2038 => rfl
                    go_simp
                    (with_reducible refine HND.out.mono ?_)
                    rintro e w12 ⟨k12, rfl, hI12, hb12⟩
                    have hbw : Below w7.heap.size w7 w12 := HWR.out.drew.trans (hb12.mono HWR.out.drew.size)
                    have HAL := hide (alike_same x k12 (.slice Ak x.kids.length ck) w12 hI12 (HXK.out.below hbw (Nat.le_refl _)) (by have := HXN.out; omega))
                    have S1 := HC.out _ hbw
                    have HBW := hide hbw
                    refine hK.out _ _ (fun _ => S1) ?_
                    clear hK K hbw hI12 hb12 hHeld S0
                    try simp only [Act.put, List.setIfInBounds_toArray, List.set_cons_zero, List.set_cons_succ]
                    refine' wpTail_one (i := 8) (o := _) (by kernel_rfl) ?ho2039 ?hw2039 (fun K hK => ?_)
                    case ho2039 => (simp only [List.getElem?_toArray, List.getElem?_cons_succ, List.getElem?_cons_zero]; exact rfl)
                    case hw2039 => rfl
                    go_simp
                    (with_reducible refine HAL.out.mono ?_)
                    rintro e w13 ⟨rfl, hb13⟩
                    have hbw := HBW.out.trans (hb13.mono HBW.out.size)
                    have S2 := HC.out _ hbw
                    have HBX := hide hbw
                    refine hK.out _ _ (fun _ => S2) ?_
                    clear hK K hbw hb13 S1
                    try simp only [Act.put, List.setIfInBounds_toArray, List.set_cons_zero, List.set_cons_succ]
                    refine' wpTail_one (i := 9) (o := _) (by kernel_rfl) ?ho2040 ?hw2040 (fun K hK => ?_)
                    case ho2040 => (simp only [List.getElem?_toArray, List.getElem?_cons_succ, List.getElem?_cons_zero]; exact rfl)
                    case hw2040 => rfl
                    go_simp
                    refine hK.out _ _ (fun _ => S2) ?_
                    clear hK K
                    refine wpTail_done (by kernel_rfl) ?_ _
                    try simp only [Act.put, List.setIfInBounds_toArray, List.set_cons_zero, List.set_cons_succ]
                    clear S2
                    go_wp2_with fail
                    go_roundw
                    case rel => exact ⟨j + 1, by omega, by simp, HBX⟩
                    case measure => simp [intOf]; omega
                  · have hjm : j = m := by omega
                    subst hjm
                    go_wp2_with fail
                    go_ret
                    exact ⟨rfl, HB7.out.trans (HWR.out.mono HB7.out.size)⟩
            | false =>
              by_cases hk18 : x.kind = 18
              · by_cases htx : x.text = ⟨#[115, 119, 97, 112, 112, 101, 100]⟩
                · by_cases hky0 : ky = 0
                  · have hlw := HLB.out true ⟨fun _ => ⟨hk18, htx, hky0⟩, fun _ => rfl⟩
                    rw [hlw, show (!(false && !true)) = true from rfl] at HSM2
                    clear hlw
                    go_wp2_with fail
                    refine HSM2.out.mono ?_
                    rintro e w7 ⟨rfl, hb7⟩
                    have z0 : w7.cell? ⟨b, of + y1 * 6, none⟩ = some (.int .i64 x.kind) := (hb7.cell (p := ⟨b, of + y1 * 6, none⟩) hbl).trans HXC.out.1
                    have z4 : w7.cell? ⟨b, of + y1 * 6 + 4, none⟩ = some (.string x.text) := (hb7.cell (p := ⟨b, of + y1 * 6 + 4, none⟩) hbl).trans HXC.out.2.1
                    have z5 : w7.cell? ⟨b, of + y1 * 6 + 5, none⟩ = some (.slice Ay ky cy) := (hb7.cell (p := ⟨b, of + y1 * 6 + 5, none⟩) hbl).trans HXC.out.2.2
                    have HT7 := hide (HT6.out.below hb7 (Nat.le_refl _))
                    have HB7 := hide (HB6.out.trans (hb7.mono HB6.out.size))
                    have HN7 := hide (HN6.out.below hb7 (Nat.le_refl _))
                    have HLT := hide (HLN.out w7 HT7.out)
                    rw [← HM.out] at HLT
                    clear hb7
                    rw [hk18] at z0
                    rw [htx] at z4
                    rw [hky0] at z5
                    go_wp2_with fail
                    refine HLT.out.mono ?_
                    rintro e w' ⟨rfl, rfl⟩
                    clear z0 z4 z5
                    go_wp2_with fail
                    go_loopw [23] (fun jj wr => ∃ (j : Nat), j ≤ m ∧ jj = .int .i64 j ∧ Hid (Below w7.heap.size w7 wr)) (fun jj _ => m - (intOf jj).toNat)
                    case atStart => exact ⟨0, Nat.zero_le _, rfl, hide (Below.refl _ _)⟩
                    case round =>
                      obtain ⟨j, hj, rfl, HWR⟩ := hrel
                      by_cases hlt : j < m
                      · have j1 : (j : Int) < (m : Int) := by omega
                        have q5 : IntKind.i64.wrap ((j : Int) + 1) = (j : Int) + 1 := IntWalk.i64_in _ (by have := HM.out; have := HLL.out; omega)
                        obtain ⟨bq, oq, x, kq, he, hbl, hx, x0, x1, x2, x3, x4, x5, xk⟩ := HN7.out.at_ (k := j) (by have := HM.out; omega)
                        injection he with he
                        injection he with he1 he2
                        subst he1 he2
                        obtain ⟨Ak, ck, rfl⟩ := xk.form
                        have cells : ∀ V : World, Below w7.heap.size w7 V → V.cell? ⟨b, of + j * 6, none⟩ = some (.int .i64 x.kind) ∧ V.cell? ⟨b, of + j * 6 + 1, none⟩ = some (.int .i64 x.f) ∧ V.cell? ⟨b, of + j * 6 + 2, none⟩ = some (.int .i64 x.l) ∧ V.cell? ⟨b, of + j * 6 + 3, none⟩ = some (.int .i64 x.c) ∧ V.cell? ⟨b, of + j * 6 + 4, none⟩ = some (.string x.text) ∧ V.cell? ⟨b, of + j * 6 + 5, none⟩ = some (.slice Ak x.kids.length ck) := fun V hV =>
                          ⟨(hV.cell (p := ⟨b, of + j * 6, none⟩) hbl).trans x0, (hV.cell (p := ⟨b, of + j * 6 + 1, none⟩) hbl).trans x1, (hV.cell (p := ⟨b, of + j * 6 + 2, none⟩) hbl).trans x2, (hV.cell (p := ⟨b, of + j * 6 + 3, none⟩) hbl).trans x3, (hV.cell (p := ⟨b, of + j * 6 + 4, none⟩) hbl).trans x4, (hV.cell (p := ⟨b, of + j * 6 + 5, none⟩) hbl).trans x5⟩
                        have HC := hide cells
                        have S0 := cells _ HWR.out
                        have hnode := node_at (L := L) (i := j + 1) (by omega) (by have := HM.out; omega) (by simpa using hx)
                        have HND := hide (node_any tb L ((j : Int) + 1) wr.drew (HT7.out.below HWR.out.drew (Nat.le_refl _)) HKB.out)
                        rw [show ((j : Int) + 1) = ((j + 1 : Nat) : Int) by omega, hnode, show ((j + 1 : Nat) : Int) = (j : Int) + 1 by omega] at HND
                        have HXK := hide xk
                        have HXN := hide (HK20.out x (List.mem_of_getElem? hx))
                        clear x0 x1 x2 x3 x4 x5 xk hx cells hnode
                        go_wp2_with fail
                        refine wp_region_tail 99 (fun w' => w'.cell? ⟨b, of + j * 6, none⟩ = some (.int .i64 x.kind) ∧ w'.cell? ⟨b, of + j * 6 + 1, none⟩ = some (.int .i64 x.f) ∧ w'.cell? ⟨b, of + j * 6 + 2, none⟩ = some (.int .i64 x.l) ∧ w'.cell? ⟨b, of + j * 6 + 3, none⟩ = some (.int .i64 x.c) ∧ w'.cell? ⟨b, of + j * 6 + 4, none⟩ = some (.string x.text) ∧ w'.cell? ⟨b, of + j * 6 + 5, none⟩ = some (.slice Ak x.kids.length ck)) (by kernel_rfl) S0 (fun hHeld => ?_)
                        try simp only [Act.put, List.setIfInBounds_toArray, List.set_cons_zero, List.set_cons_succ]
                        refine' wpTail_take (i := 0) (oi := _) ?hi2041 ?hs2041 ?hf2041 ?hr2041 ?hz2041 ?hQ2041 (v := _) (Or.inl ⟨?hw2041, ?hy2041⟩) (by assumption) ?_
                        case hi2041 => (simp only [List.getElem?_toArray, List.getElem?_cons_zero]; exact rfl)
                        case hs2041 => kernel_rfl
                        case hf2041 => kernel_rfl
                        case hr2041 => kernel_rfl
                        case hz2041 => kernel_rfl
                        case hQ2041 => exact fun _ _ _ h => h
                        case hw2041 => rfl
                        case hy2041 => (intro w hSw; (try dsimp only at hSw); go_simp; (try with_reducible rfl))
                        try simp only [Act.put, List.setIfInBounds_toArray, List.set_cons_zero, List.set_cons_succ]
                        refine' wpTail_take (i := 1) (oi := _) ?hi2042 ?hs2042 ?hf2042 ?hr2042 ?hz2042 ?hQ2042 (v := _) (Or.inl ⟨?hw2042, ?hy2042⟩) (by assumption) ?_
                        case hi2042 => (simp only [List.getElem?_toArray, List.getElem?_cons_succ, List.getElem?_cons_zero]; exact rfl)
                        case hs2042 => kernel_rfl
                        case hf2042 => kernel_rfl
                        case hr2042 => kernel_rfl
                        case hz2042 => kernel_rfl
                        case hQ2042 => exact fun _ _ _ h => h
                        case hw2042 => rfl
                        case hy2042 => (intro w hSw; (try dsimp only at hSw); go_simp; (try with_reducible rfl))
                        try simp only [Act.put, List.setIfInBounds_toArray, List.set_cons_zero, List.set_cons_succ]
                        refine' wpTail_take (i := 2) (oi := _) ?hi2043 ?hs2043 ?hf2043 ?hr2043 ?hz2043 ?hQ2043 (v := _) (Or.inl ⟨?hw2043, ?hy2043⟩) (by assumption) ?_
                        case hi2043 => (simp only [List.getElem?_toArray, List.getElem?_cons_succ, List.getElem?_cons_zero]; exact rfl)
                        case hs2043 => kernel_rfl
                        case hf2043 => kernel_rfl
                        case hr2043 => kernel_rfl
                        case hz2043 => kernel_rfl
                        case hQ2043 => exact fun _ _ _ h => h
                        case hw2043 => rfl
                        case hy2043 => (intro w hSw; (try dsimp only at hSw); go_simp; (try with_reducible rfl))
                        try simp only [Act.put, List.setIfInBounds_toArray, List.set_cons_zero, List.set_cons_succ]
                        refine' wpTail_take (i := 4) (oi := _) ?hi2044 ?hs2044 ?hf2044 ?hr2044 ?hz2044 ?hQ2044 (v := _) (Or.inl ⟨?hw2044, ?hy2044⟩) (by assumption) ?_
                        case hi2044 => (simp only [List.getElem?_toArray, List.getElem?_cons_succ, List.getElem?_cons_zero]; exact rfl)
                        case hs2044 => kernel_rfl
                        case hf2044 => kernel_rfl
                        case hr2044 => kernel_rfl
                        case hz2044 => kernel_rfl
                        case hQ2044 => exact fun _ _ _ h => h
                        case hw2044 => rfl
                        case hy2044 => (intro w hSw; (try dsimp only at hSw); go_simp; (try with_reducible rfl))
                        try simp only [Act.put, List.setIfInBounds_toArray, List.set_cons_zero, List.set_cons_succ]
                        refine' wpTail_take (i := 5) (oi := _) ?hi2045 ?hs2045 ?hf2045 ?hr2045 ?hz2045 ?hQ2045 (v := _) (Or.inl ⟨?hw2045, ?hy2045⟩) (by assumption) ?_
                        case hi2045 => (simp only [List.getElem?_toArray, List.getElem?_cons_succ, List.getElem?_cons_zero]; exact rfl)
                        case hs2045 => kernel_rfl
                        case hf2045 => kernel_rfl
                        case hr2045 => kernel_rfl
                        case hz2045 => kernel_rfl
                        case hQ2045 => exact fun _ _ _ h => h
                        case hw2045 => rfl
                        case hy2045 => (intro w hSw; (try dsimp only at hSw); go_simp; (try with_reducible rfl))
                        try simp only [Act.put, List.setIfInBounds_toArray, List.set_cons_zero, List.set_cons_succ]
                        refine' wpTail_take (i := 6) (oi := _) ?hi2046 ?hs2046 ?hf2046 ?hr2046 ?hz2046 ?hQ2046 (v := _) (Or.inl ⟨?hw2046, ?hy2046⟩) (by assumption) ?_
                        case hi2046 => (simp only [List.getElem?_toArray, List.getElem?_cons_succ, List.getElem?_cons_zero]; exact rfl)
                        case hs2046 => kernel_rfl
                        case hf2046 => kernel_rfl
                        case hr2046 => kernel_rfl
                        case hz2046 => kernel_rfl
                        case hQ2046 => exact fun _ _ _ h => h
                        case hw2046 => rfl
                        case hy2046 => (intro w hSw; (try dsimp only at hSw); go_simp; (try with_reducible rfl))
                        try simp only [Act.put, List.setIfInBounds_toArray, List.set_cons_zero, List.set_cons_succ]
                        refine' wpTail_take (i := 7) (oi := _) ?hi2047 ?hs2047 ?hf2047 ?hr2047 ?hz2047 ?hQ2047 (v := _) (Or.inl ⟨?hw2047, ?hy2047⟩) (by assumption) ?_
                        case hi2047 => (simp only [List.getElem?_toArray, List.getElem?_cons_succ, List.getElem?_cons_zero]; exact rfl)
                        case hs2047 => kernel_rfl
                        case hf2047 => kernel_rfl
                        case hr2047 => kernel_rfl
                        case hz2047 => kernel_rfl
                        case hQ2047 => exact fun _ _ _ h => h
                        case hw2047 => rfl
                        case hy2047 => (intro w hSw; (try dsimp only at hSw); go_simp; (try with_reducible rfl))
                        try simp only [Act.put, List.setIfInBounds_toArray, List.set_cons_zero, List.set_cons_succ]
                        refine' wpTail_one (i := 3) (o := _) (by kernel_rfl) ?ho2048 ?hw2048 (fun K hK => ?_)
                        case ho2048 => (simp only [List.getElem?_toArray, List.getElem?_cons_succ, List.getElem?_cons_zero]; exact rfl)
                        case hw2048 => rfl
                        go_simp
                        (with_reducible refine HND.out.mono ?_)
                        rintro e w12 ⟨k12, rfl, hI12, hb12⟩
                        have hbw : Below w7.heap.size w7 w12 := HWR.out.drew.trans (hb12.mono HWR.out.drew.size)
                        have HAL := hide (alike_same x k12 (.slice Ak x.kids.length ck) w12 hI12 (HXK.out.below hbw (Nat.le_refl _)) (by have := HXN.out; omega))
                        have S1 := HC.out _ hbw
                        have HBW := hide hbw
                        refine hK.out _ _ (fun _ => S1) ?_
                        clear hK K hbw hI12 hb12 hHeld S0
                        try simp only [Act.put, List.setIfInBounds_toArray, List.set_cons_zero, List.set_cons_succ]
                        refine' wpTail_one (i := 8) (o := _) (by kernel_rfl) ?ho2049 ?hw2049 (fun K hK => ?_)
                        case ho2049 => (simp only [List.getElem?_toArray, List.getElem?_cons_succ, List.getElem?_cons_zero]; exact rfl)
                        case hw2049 => rfl
                        go_simp
                        (with_reducible refine HAL.out.mono ?_)
                        rintro e w13 ⟨rfl, hb13⟩
                        have hbw := HBW.out.trans (hb13.mono HBW.out.size)
                        have S2 := HC.out _ hbw
                        have HBX := hide hbw
                        refine hK.out _ _ (fun _ => S2) ?_
                        clear hK K hbw hb13 S1
                        try simp only [Act.put, List.setIfInBounds_toArray, List.set_cons_zero, List.set_cons_succ]
                        refine' wpTail_one (i := 9) (o := _) (by kernel_rfl) ?ho2050 ?hw2050 (fun K hK => ?_)
                        case ho2050 => (simp only [List.getElem?_toArray, List.getElem?_cons_succ, List.getElem?_cons_zero]; exact rfl)
                        case hw2050 => rfl
                        go_simp
                        refine hK.out _ _ (fun _ => S2) ?_
                        clear hK K
                        refine wpTail_done (by kernel_rfl) ?_ _
                        try simp only [Act.put, List.setIfInBounds_toArray, List.set_cons_zero, List.set_cons_succ]
                        clear S2
                        go_wp2_with fail
                        go_roundw
                        case rel => exact ⟨j + 1, by omega, by simp, HBX⟩
                        case measure => simp [intOf]; omega
                      · have hjm : j = m := by omega
                        subst hjm
                        go_wp2_with fail
                        go_ret
                        exact ⟨rfl, HB7.out.trans (HWR.out.mono HB7.out.size)⟩
                  · have hlw := HLB.out false ⟨(fun h => by cases h), fun h => absurd h.2.2 hky0⟩
                    rw [hlw, show (!(false && !false)) = true from rfl] at HSM2
                    clear hlw
                    go_wp2_with fail
                    refine HSM2.out.mono ?_
                    rintro e w7 ⟨rfl, hb7⟩
                    have z0 : w7.cell? ⟨b, of + y1 * 6, none⟩ = some (.int .i64 x.kind) := (hb7.cell (p := ⟨b, of + y1 * 6, none⟩) hbl).trans HXC.out.1
                    have z4 : w7.cell? ⟨b, of + y1 * 6 + 4, none⟩ = some (.string x.text) := (hb7.cell (p := ⟨b, of + y1 * 6 + 4, none⟩) hbl).trans HXC.out.2.1
                    have z5 : w7.cell? ⟨b, of + y1 * 6 + 5, none⟩ = some (.slice Ay ky cy) := (hb7.cell (p := ⟨b, of + y1 * 6 + 5, none⟩) hbl).trans HXC.out.2.2
                    have HT7 := hide (HT6.out.below hb7 (Nat.le_refl _))
                    have HB7 := hide (HB6.out.trans (hb7.mono HB6.out.size))
                    have HN7 := hide (HN6.out.below hb7 (Nat.le_refl _))
                    have HLT := hide (HLN.out w7 HT7.out)
                    rw [← HM.out] at HLT
                    clear hb7
                    rw [hk18] at z0
                    rw [htx] at z4
                    have i9 : ((ky : Int) == 0) = false := by rw [beq_eq_false_iff_ne]; omega
                    go_wp2_with fail
                    refine HLT.out.mono ?_
                    rintro e w' ⟨rfl, rfl⟩
                    clear z0 z4 z5
                    go_wp2_with fail
                    go_loopw [23] (fun jj wr => ∃ (j : Nat), j ≤ m ∧ jj = .int .i64 j ∧ Hid (Below w7.heap.size w7 wr)) (fun jj _ => m - (intOf jj).toNat)
                    case atStart => exact ⟨0, Nat.zero_le _, rfl, hide (Below.refl _ _)⟩
                    case round =>
                      obtain ⟨j, hj, rfl, HWR⟩ := hrel
                      by_cases hlt : j < m
                      · have j1 : (j : Int) < (m : Int) := by omega
                        have q5 : IntKind.i64.wrap ((j : Int) + 1) = (j : Int) + 1 := IntWalk.i64_in _ (by have := HM.out; have := HLL.out; omega)
                        obtain ⟨bq, oq, x, kq, he, hbl, hx, x0, x1, x2, x3, x4, x5, xk⟩ := HN7.out.at_ (k := j) (by have := HM.out; omega)
                        injection he with he
                        injection he with he1 he2
                        subst he1 he2
                        obtain ⟨Ak, ck, rfl⟩ := xk.form
                        have cells : ∀ V : World, Below w7.heap.size w7 V → V.cell? ⟨b, of + j * 6, none⟩ = some (.int .i64 x.kind) ∧ V.cell? ⟨b, of + j * 6 + 1, none⟩ = some (.int .i64 x.f) ∧ V.cell? ⟨b, of + j * 6 + 2, none⟩ = some (.int .i64 x.l) ∧ V.cell? ⟨b, of + j * 6 + 3, none⟩ = some (.int .i64 x.c) ∧ V.cell? ⟨b, of + j * 6 + 4, none⟩ = some (.string x.text) ∧ V.cell? ⟨b, of + j * 6 + 5, none⟩ = some (.slice Ak x.kids.length ck) := fun V hV =>
                          ⟨(hV.cell (p := ⟨b, of + j * 6, none⟩) hbl).trans x0, (hV.cell (p := ⟨b, of + j * 6 + 1, none⟩) hbl).trans x1, (hV.cell (p := ⟨b, of + j * 6 + 2, none⟩) hbl).trans x2, (hV.cell (p := ⟨b, of + j * 6 + 3, none⟩) hbl).trans x3, (hV.cell (p := ⟨b, of + j * 6 + 4, none⟩) hbl).trans x4, (hV.cell (p := ⟨b, of + j * 6 + 5, none⟩) hbl).trans x5⟩
                        have HC := hide cells
                        have S0 := cells _ HWR.out
                        have hnode := node_at (L := L) (i := j + 1) (by omega) (by have := HM.out; omega) (by simpa using hx)
                        have HND := hide (node_any tb L ((j : Int) + 1) wr.drew (HT7.out.below HWR.out.drew (Nat.le_refl _)) HKB.out)
                        rw [show ((j : Int) + 1) = ((j + 1 : Nat) : Int) by omega, hnode, show ((j + 1 : Nat) : Int) = (j : Int) + 1 by omega] at HND
                        have HXK := hide xk
                        have HXN := hide (HK20.out x (List.mem_of_getElem? hx))
                        clear x0 x1 x2 x3 x4 x5 xk hx cells hnode
                        go_wp2_with fail
                        refine wp_region_tail 99 (fun w' => w'.cell? ⟨b, of + j * 6, none⟩ = some (.int .i64 x.kind) ∧ w'.cell? ⟨b, of + j * 6 + 1, none⟩ = some (.int .i64 x.f) ∧ w'.cell? ⟨b, of + j * 6 + 2, none⟩ = some (.int .i64 x.l) ∧ w'.cell? ⟨b, of + j * 6 + 3, none⟩ = some (.int .i64 x.c) ∧ w'.cell? ⟨b, of + j * 6 + 4, none⟩ = some (.string x.text) ∧ w'.cell? ⟨b, of + j * 6 + 5, none⟩ = some (.slice Ak x.kids.length ck)) (by kernel_rfl) S0 (fun hHeld => ?_)
                        try simp only [Act.put, List.setIfInBounds_toArray, List.set_cons_zero, List.set_cons_succ]
                        refine' wpTail_take (i := 0) (oi := _) ?hi2051 ?hs2051 ?hf2051 ?hr2051 ?hz2051 ?hQ2051 (v := _) (Or.inl ⟨?hw2051, ?hy2051⟩) (by assumption) ?_
                        case hi2051 => (simp only [List.getElem?_toArray, List.getElem?_cons_zero]; exact rfl)
                        case hs2051 => kernel_rfl
                        case hf2051 => kernel_rfl
                        case hr2051 => kernel_rfl
                        case hz2051 => kernel_rfl
                        case hQ2051 => exact fun _ _ _ h => h
                        case hw2051 => rfl
                        case hy2051 => (intro w hSw; (try dsimp only at hSw); go_simp; (try with_reducible rfl))
                        try simp only [Act.put, List.setIfInBounds_toArray, List.set_cons_zero, List.set_cons_succ]
                        refine' wpTail_take (i := 1) (oi := _) ?hi2052 ?hs2052 ?hf2052 ?hr2052 ?hz2052 ?hQ2052 (v := _) (Or.inl ⟨?hw2052, ?hy2052⟩) (by assumption) ?_
                        case hi2052 => (simp only [List.getElem?_toArray, List.getElem?_cons_succ, List.getElem?_cons_zero]; exact rfl)
                        case hs2052 => kernel_rfl
                        case hf2052 => kernel_rfl
                        case hr2052 => kernel_rfl
                        case hz2052 => kernel_rfl
                        case hQ2052 => exact fun _ _ _ h => h
                        case hw2052 => rfl
                        case hy2052 => (intro w hSw; (try dsimp only at hSw); go_simp; (try with_reducible rfl))
                        try simp only [Act.put, List.setIfInBounds_toArray, List.set_cons_zero, List.set_cons_succ]
                        refine' wpTail_take (i := 2) (oi := _) ?hi2053 ?hs2053 ?hf2053 ?hr2053 ?hz2053 ?hQ2053 (v := _) (Or.inl ⟨?hw2053, ?hy2053⟩) (by assumption) ?_
                        case hi2053 => (simp only [List.getElem?_toArray, List.getElem?_cons_succ, List.getElem?_cons_zero]; exact rfl)
                        case hs2053 => kernel_rfl
                        case hf2053 => kernel_rfl
                        case hr2053 => kernel_rfl
                        case hz2053 => kernel_rfl
                        case hQ2053 => exact fun _ _ _ h => h
                        case hw2053 => rfl
                        case hy2053 => (intro w hSw; (try dsimp only at hSw); go_simp; (try with_reducible rfl))
                        try simp only [Act.put, List.setIfInBounds_toArray, List.set_cons_zero, List.set_cons_succ]
                        refine' wpTail_take (i := 4) (oi := _) ?hi2054 ?hs2054 ?hf2054 ?hr2054 ?hz2054 ?hQ2054 (v := _) (Or.inl ⟨?hw2054, ?hy2054⟩) (by assumption) ?_
                        case hi2054 => (simp only [List.getElem?_toArray, List.getElem?_cons_succ, List.getElem?_cons_zero]; exact rfl)
                        case hs2054 => kernel_rfl
                        case hf2054 => kernel_rfl
                        case hr2054 => kernel_rfl
                        case hz2054 => kernel_rfl
                        case hQ2054 => exact fun _ _ _ h => h
                        case hw2054 => rfl
                        case hy2054 => (intro w hSw; (try dsimp only at hSw); go_simp; (try with_reducible rfl))
                        try simp only [Act.put, List.setIfInBounds_toArray, List.set_cons_zero, List.set_cons_succ]
                        refine' wpTail_take (i := 5) (oi := _) ?hi2055 ?hs2055 ?hf2055 ?hr2055 ?hz2055 ?hQ2055 (v := _) (Or.inl ⟨?hw2055, ?hy2055⟩) (by assumption) ?_
                        case hi2055 => (simp only [List.getElem?_toArray, List.getElem?_cons_succ, List.getElem?_cons_zero]; exact rfl)
                        case hs2055 => kernel_rfl
                        case hf2055 => kernel_rfl
                        case hr2055 => kernel_rfl
                        case hz2055 => kernel_rfl
                        case hQ2055 => exact fun _ _ _ h => h
                        case hw2055 => rfl
                        case hy2055 => (intro w hSw; (try dsimp only at hSw); go_simp; (try with_reducible rfl))
                        try simp only [Act.put, List.setIfInBounds_toArray, List.set_cons_zero, List.set_cons_succ]
                        refine' wpTail_take (i := 6) (oi := _) ?hi2056 ?hs2056 ?hf2056 ?hr2056 ?hz2056 ?hQ2056 (v := _) (Or.inl ⟨?hw2056, ?hy2056⟩) (by assumption) ?_
                        case hi2056 => (simp only [List.getElem?_toArray, List.getElem?_cons_succ, List.getElem?_cons_zero]; exact rfl)
                        case hs2056 => kernel_rfl
                        case hf2056 => kernel_rfl
                        case hr2056 => kernel_rfl
                        case hz2056 => kernel_rfl
                        case hQ2056 => exact fun _ _ _ h => h
                        case hw2056 => rfl
                        case hy2056 => (intro w hSw; (try dsimp only at hSw); go_simp; (try with_reducible rfl))
                        try simp only [Act.put, List.setIfInBounds_toArray, List.set_cons_zero, List.set_cons_succ]
                        refine' wpTail_take (i := 7) (oi := _) ?hi2057 ?hs2057 ?hf2057 ?hr2057 ?hz2057 ?hQ2057 (v := _) (Or.inl ⟨?hw2057, ?hy2057⟩) (by assumption) ?_
                        case hi2057 => (simp only [List.getElem?_toArray, List.getElem?_cons_succ, List.getElem?_cons_zero]; exact rfl)
                        case hs2057 => kernel_rfl
                        case hf2057 => kernel_rfl
                        case hr2057 => kernel_rfl
                        case hz2057 => kernel_rfl
                        case hQ2057 => exact fun _ _ _ h => h
                        case hw2057 => rfl
                        case hy2057 => (intro w hSw; (try dsimp only at hSw); go_simp; (try with_reducible rfl))
                        try simp only [Act.put, List.setIfInBounds_toArray, List.set_cons_zero, List.set_cons_succ]
                        refine' wpTail_one (i := 3) (o := _) (by kernel_rfl) ?ho2058 ?hw2058 (fun K hK => ?_)
                        case ho2058 => (simp only [List.getElem?_toArray, List.getElem?_cons_succ, List.getElem?_cons_zero]; exact rfl)
                        case hw2058 => rfl
                        go_simp
                        (with_reducible refine HND.out.mono ?_)
                        rintro e w12 ⟨k12, rfl, hI12, hb12⟩
                        have hbw : Below w7.heap.size w7 w12 := HWR.out.drew.trans (hb12.mono HWR.out.drew.size)
                        have HAL := hide (alike_same x k12 (.slice Ak x.kids.length ck) w12 hI12 (HXK.out.below hbw (Nat.le_refl _)) (by have := HXN.out; omega))
                        have S1 := HC.out _ hbw
                        have HBW := hide hbw
                        refine hK.out _ _ (fun _ => S1) ?_
                        clear hK K hbw hI12 hb12 hHeld S0
                        try simp only [Act.put, List.setIfInBounds_toArray, List.set_cons_zero, List.set_cons_succ]
                        refine' wpTail_one (i := 8) (o := _) (by kernel_rfl) ?ho2059 ?hw2059 (fun K hK => ?_)
                        case ho2059 => (simp only [List.getElem?_toArray, List.getElem?_cons_succ, List.getElem?_cons_zero]; exact rfl)
                        case hw2059 => rfl
                        go_simp
                        (with_reducible refine HAL.out.mono ?_)
                        rintro e w13 ⟨rfl, hb13⟩
                        have hbw := HBW.out.trans (hb13.mono HBW.out.size)
                        have S2 := HC.out _ hbw
                        have HBX := hide hbw
                        refine hK.out _ _ (fun _ => S2) ?_
                        clear hK K hbw hb13 S1
                        try simp only [Act.put, List.setIfInBounds_toArray, List.set_cons_zero, List.set_cons_succ]
                        refine' wpTail_one (i := 9) (o := _) (by kernel_rfl) ?ho2060 ?hw2060 (fun K hK => ?_)
                        case ho2060 => (simp only [List.getElem?_toArray, List.getElem?_cons_succ, List.getElem?_cons_zero]; exact rfl)
                        case hw2060 => rfl
                        go_simp
                        refine hK.out _ _ (fun _ => S2) ?_
                        clear hK K
                        refine wpTail_done (by kernel_rfl) ?_ _
                        try simp only [Act.put, List.setIfInBounds_toArray, List.set_cons_zero, List.set_cons_succ]
                        clear S2
                        go_wp2_with fail
                        go_roundw
                        case rel => exact ⟨j + 1, by omega, by simp, HBX⟩
                        case measure => simp [intOf]; omega
                      · have hjm : j = m := by omega
                        subst hjm
                        go_wp2_with fail
                        go_ret
                        exact ⟨rfl, HB7.out.trans (HWR.out.mono HB7.out.size)⟩
                · have hlw := HLB.out false ⟨(fun h => by cases h), fun h => absurd h.2.1 htx⟩
                  rw [hlw, show (!(false && !false)) = true from rfl] at HSM2
                  clear hlw
                  go_wp2_with fail
                  refine HSM2.out.mono ?_
                  rintro e w7 ⟨rfl, hb7⟩
                  have z0 : w7.cell? ⟨b, of + y1 * 6, none⟩ = some (.int .i64 x.kind) := (hb7.cell (p := ⟨b, of + y1 * 6, none⟩) hbl).trans HXC.out.1
                  have z4 : w7.cell? ⟨b, of + y1 * 6 + 4, none⟩ = some (.string x.text) := (hb7.cell (p := ⟨b, of + y1 * 6 + 4, none⟩) hbl).trans HXC.out.2.1
                  have z5 : w7.cell? ⟨b, of + y1 * 6 + 5, none⟩ = some (.slice Ay ky cy) := (hb7.cell (p := ⟨b, of + y1 * 6 + 5, none⟩) hbl).trans HXC.out.2.2
                  have HT7 := hide (HT6.out.below hb7 (Nat.le_refl _))
                  have HB7 := hide (HB6.out.trans (hb7.mono HB6.out.size))
                  have HN7 := hide (HN6.out.below hb7 (Nat.le_refl _))
                  have HLT := hide (HLN.out w7 HT7.out)
                  rw [← HM.out] at HLT
                  clear hb7
                  rw [hk18] at z0
                  have i9 : ¬ x.text.toList = [115, 119, 97, 112, 112, 101, 100] := fun e => htx (bytes_injT (by rw [← ByteArray.toList_eq]; exact e))
                  go_wp2_with fail
                  refine HLT.out.mono ?_
                  rintro e w' ⟨rfl, rfl⟩
                  clear z0 z4 z5
                  go_wp2_with fail
                  go_loopw [23] (fun jj wr => ∃ (j : Nat), j ≤ m ∧ jj = .int .i64 j ∧ Hid (Below w7.heap.size w7 wr)) (fun jj _ => m - (intOf jj).toNat)
                  case atStart => exact ⟨0, Nat.zero_le _, rfl, hide (Below.refl _ _)⟩
                  case round =>
                    obtain ⟨j, hj, rfl, HWR⟩ := hrel
                    by_cases hlt : j < m
                    · have j1 : (j : Int) < (m : Int) := by omega
                      have q5 : IntKind.i64.wrap ((j : Int) + 1) = (j : Int) + 1 := IntWalk.i64_in _ (by have := HM.out; have := HLL.out; omega)
                      obtain ⟨bq, oq, x, kq, he, hbl, hx, x0, x1, x2, x3, x4, x5, xk⟩ := HN7.out.at_ (k := j) (by have := HM.out; omega)
                      injection he with he
                      injection he with he1 he2
                      subst he1 he2
                      obtain ⟨Ak, ck, rfl⟩ := xk.form
                      have cells : ∀ V : World, Below w7.heap.size w7 V → V.cell? ⟨b, of + j * 6, none⟩ = some (.int .i64 x.kind) ∧ V.cell? ⟨b, of + j * 6 + 1, none⟩ = some (.int .i64 x.f) ∧ V.cell? ⟨b, of + j * 6 + 2, none⟩ = some (.int .i64 x.l) ∧ V.cell? ⟨b, of + j * 6 + 3, none⟩ = some (.int .i64 x.c) ∧ V.cell? ⟨b, of + j * 6 + 4, none⟩ = some (.string x.text) ∧ V.cell? ⟨b, of + j * 6 + 5, none⟩ = some (.slice Ak x.kids.length ck) := fun V hV =>
                        ⟨(hV.cell (p := ⟨b, of + j * 6, none⟩) hbl).trans x0, (hV.cell (p := ⟨b, of + j * 6 + 1, none⟩) hbl).trans x1, (hV.cell (p := ⟨b, of + j * 6 + 2, none⟩) hbl).trans x2, (hV.cell (p := ⟨b, of + j * 6 + 3, none⟩) hbl).trans x3, (hV.cell (p := ⟨b, of + j * 6 + 4, none⟩) hbl).trans x4, (hV.cell (p := ⟨b, of + j * 6 + 5, none⟩) hbl).trans x5⟩
                      have HC := hide cells
                      have S0 := cells _ HWR.out
                      have hnode := node_at (L := L) (i := j + 1) (by omega) (by have := HM.out; omega) (by simpa using hx)
                      have HND := hide (node_any tb L ((j : Int) + 1) wr.drew (HT7.out.below HWR.out.drew (Nat.le_refl _)) HKB.out)
                      rw [show ((j : Int) + 1) = ((j + 1 : Nat) : Int) by omega, hnode, show ((j + 1 : Nat) : Int) = (j : Int) + 1 by omega] at HND
                      have HXK := hide xk
                      have HXN := hide (HK20.out x (List.mem_of_getElem? hx))
                      clear x0 x1 x2 x3 x4 x5 xk hx cells hnode
                      go_wp2_with fail
                      refine wp_region_tail 99 (fun w' => w'.cell? ⟨b, of + j * 6, none⟩ = some (.int .i64 x.kind) ∧ w'.cell? ⟨b, of + j * 6 + 1, none⟩ = some (.int .i64 x.f) ∧ w'.cell? ⟨b, of + j * 6 + 2, none⟩ = some (.int .i64 x.l) ∧ w'.cell? ⟨b, of + j * 6 + 3, none⟩ = some (.int .i64 x.c) ∧ w'.cell? ⟨b, of + j * 6 + 4, none⟩ = some (.string x.text) ∧ w'.cell? ⟨b, of + j * 6 + 5, none⟩ = some (.slice Ak x.kids.length ck)) (by kernel_rfl) S0 (fun hHeld => ?_)
                      try simp only [Act.put, List.setIfInBounds_toArray, List.set_cons_zero, List.set_cons_succ]
                      refine' wpTail_take (i := 0) (oi := _) ?hi2061 ?hs2061 ?hf2061 ?hr2061 ?hz2061 ?hQ2061 (v := _) (Or.inl ⟨?hw2061, ?hy2061⟩) (by assumption) ?_
                      case hi2061 => (simp only [List.getElem?_toArray, List.getElem?_cons_zero]; exact rfl)
                      case hs2061 => kernel_rfl
                      case hf2061 => kernel_rfl
                      case hr2061 => kernel_rfl
                      case hz2061 => kernel_rfl
                      case hQ2061 => exact fun _ _ _ h => h
                      case hw2061 => rfl
                      case hy2061 => (intro w hSw; (try dsimp only at hSw); go_simp; (try with_reducible rfl))
                      try simp only [Act.put, List.setIfInBounds_toArray, List.set_cons_zero, List.set_cons_succ]
                      refine' wpTail_take (i := 1) (oi := _) ?hi2062 ?hs2062 ?hf2062 ?hr2062 ?hz2062 ?hQ2062 (v := _) (Or.inl ⟨?hw2062, ?hy2062⟩) (by assumption) ?_
                      case hi2062 => (simp only [List.getElem?_toArray, List.getElem?_cons_succ, List.getElem?_cons_zero]; exact rfl)
                      case hs2062 => kernel_rfl
                      case hf2062 => kernel_rfl
                      case hr2062 => kernel_rfl
                      case hz2062 => kernel_rfl
                      case hQ2062 => exact fun _ _ _ h => h
                      case hw2062 => rfl
                      case hy2062 => (intro w hSw; (try dsimp only at hSw); go_simp; (try with_reducible rfl))
                      try simp only [Act.put, List.setIfInBounds_toArray, List.set_cons_zero, List.set_cons_succ]
                      refine' wpTail_take (i := 2) (oi := _) ?hi2063 ?hs2063 ?hf2063 ?hr2063 ?hz2063 ?hQ2063 (v := _) (Or.inl ⟨?hw2063, ?hy2063⟩) (by assumption) ?_
                      case hi2063 => (simp only [List.getElem?_toArray, List.getElem?_cons_succ, List.getElem?_cons_zero]; exact rfl)
                      case hs2063 => kernel_rfl
                      case hf2063 => kernel_rfl
                      case hr2063 => kernel_rfl
                      case hz2063 => kernel_rfl
                      case hQ2063 => exact fun _ _ _ h => h
                      case hw2063 => rfl
                      case hy2063 => (intro w hSw; (try dsimp only at hSw); go_simp; (try with_reducible rfl))
                      try simp only [Act.put, List.setIfInBounds_toArray, List.set_cons_zero, List.set_cons_succ]
                      refine' wpTail_take (i := 4) (oi := _) ?hi2064 ?hs2064 ?hf2064 ?hr2064 ?hz2064 ?hQ2064 (v := _) (Or.inl ⟨?hw2064, ?hy2064⟩) (by assumption) ?_
                      case hi2064 => (simp only [List.getElem?_toArray, List.getElem?_cons_succ, List.getElem?_cons_zero]; exact rfl)
                      case hs2064 => kernel_rfl
                      case hf2064 => kernel_rfl
                      case hr2064 => kernel_rfl
                      case hz2064 => kernel_rfl
                      case hQ2064 => exact fun _ _ _ h => h
                      case hw2064 => rfl
                      case hy2064 => (intro w hSw; (try dsimp only at hSw); go_simp; (try with_reducible rfl))
                      try simp only [Act.put, List.setIfInBounds_toArray, List.set_cons_zero, List.set_cons_succ]
                      refine' wpTail_take (i := 5) (oi := _) ?hi2065 ?hs2065 ?hf2065 ?hr2065 ?hz2065 ?hQ2065 (v := _) (Or.inl ⟨?hw2065, ?hy2065⟩) (by assumption) ?_
                      case hi2065 => (simp only [List.getElem?_toArray, List.getElem?_cons_succ, List.getElem?_cons_zero]; exact rfl)
                      case hs2065 => kernel_rfl
                      case hf2065 => kernel_rfl
                      case hr2065 => kernel_rfl
                      case hz2065 => kernel_rfl
                      case hQ2065 => exact fun _ _ _ h => h
                      case hw2065 => rfl
                      case hy2065 => (intro w hSw; (try dsimp only at hSw); go_simp; (try with_reducible rfl))
                      try simp only [Act.put, List.setIfInBounds_toArray, List.set_cons_zero, List.set_cons_succ]
                      refine' wpTail_take (i := 6) (oi := _) ?hi2066 ?hs2066 ?hf2066 ?hr2066 ?hz2066 ?hQ2066 (v := _) (Or.inl ⟨?hw2066, ?hy2066⟩) (by assumption) ?_
                      case hi2066 => (simp only [List.getElem?_toArray, List.getElem?_cons_succ, List.getElem?_cons_zero]; exact rfl)
                      case hs2066 => kernel_rfl
                      case hf2066 => kernel_rfl
                      case hr2066 => kernel_rfl
                      case hz2066 => kernel_rfl
                      case hQ2066 => exact fun _ _ _ h => h
                      case hw2066 => rfl
                      case hy2066 => (intro w hSw; (try dsimp only at hSw); go_simp; (try with_reducible rfl))
                      try simp only [Act.put, List.setIfInBounds_toArray, List.set_cons_zero, List.set_cons_succ]
                      refine' wpTail_take (i := 7) (oi := _) ?hi2067 ?hs2067 ?hf2067 ?hr2067 ?hz2067 ?hQ2067 (v := _) (Or.inl ⟨?hw2067, ?hy2067⟩) (by assumption) ?_
                      case hi2067 => (simp only [List.getElem?_toArray, List.getElem?_cons_succ, List.getElem?_cons_zero]; exact rfl)
                      case hs2067 => kernel_rfl
                      case hf2067 => kernel_rfl
                      case hr2067 => kernel_rfl
                      case hz2067 => kernel_rfl
                      case hQ2067 => exact fun _ _ _ h => h
                      case hw2067 => rfl
                      case hy2067 => (intro w hSw; (try dsimp only at hSw); go_simp; (try with_reducible rfl))
                      try simp only [Act.put, List.setIfInBounds_toArray, List.set_cons_zero, List.set_cons_succ]
                      refine' wpTail_one (i := 3) (o := _) (by kernel_rfl) ?ho2068 ?hw2068 (fun K hK => ?_)
                      case ho2068 => (simp only [List.getElem?_toArray, List.getElem?_cons_succ, List.getElem?_cons_zero]; exact rfl)
                      case hw2068 => rfl
                      go_simp
                      (with_reducible refine HND.out.mono ?_)
                      rintro e w12 ⟨k12, rfl, hI12, hb12⟩
                      have hbw : Below w7.heap.size w7 w12 := HWR.out.drew.trans (hb12.mono HWR.out.drew.size)
                      have HAL := hide (alike_same x k12 (.slice Ak x.kids.length ck) w12 hI12 (HXK.out.below hbw (Nat.le_refl _)) (by have := HXN.out; omega))
                      have S1 := HC.out _ hbw
                      have HBW := hide hbw
                      refine hK.out _ _ (fun _ => S1) ?_
                      clear hK K hbw hI12 hb12 hHeld S0
                      try simp only [Act.put, List.setIfInBounds_toArray, List.set_cons_zero, List.set_cons_succ]
                      refine' wpTail_one (i := 8) (o := _) (by kernel_rfl) ?ho2069 ?hw2069 (fun K hK => ?_)
                      case ho2069 => (simp only [List.getElem?_toArray, List.getElem?_cons_succ, List.getElem?_cons_zero]; exact rfl)
                      case hw2069 => rfl
                      go_simp
                      (with_reducible refine HAL.out.mono ?_)
                      rintro e w13 ⟨rfl, hb13⟩
                      have hbw := HBW.out.trans (hb13.mono HBW.out.size)
                      have S2 := HC.out _ hbw
                      have HBX := hide hbw
                      refine hK.out _ _ (fun _ => S2) ?_
                      clear hK K hbw hb13 S1
                      try simp only [Act.put, List.setIfInBounds_toArray, List.set_cons_zero, List.set_cons_succ]
                      refine' wpTail_one (i := 9) (o := _) (by kernel_rfl) ?ho2070 ?hw2070 (fun K hK => ?_)
                      case ho2070 => (simp only [List.getElem?_toArray, List.getElem?_cons_succ, List.getElem?_cons_zero]; exact rfl)
                      case hw2070 => rfl
                      go_simp
                      refine hK.out _ _ (fun _ => S2) ?_
                      clear hK K
                      refine wpTail_done (by kernel_rfl) ?_ _
                      try simp only [Act.put, List.setIfInBounds_toArray, List.set_cons_zero, List.set_cons_succ]
                      clear S2
                      go_wp2_with fail
                      go_roundw
                      case rel => exact ⟨j + 1, by omega, by simp, HBX⟩
                      case measure => simp [intOf]; omega
                    · have hjm : j = m := by omega
                      subst hjm
                      go_wp2_with fail
                      go_ret
                      exact ⟨rfl, HB7.out.trans (HWR.out.mono HB7.out.size)⟩
              · have hlw := HLB.out false ⟨(fun h => by cases h), fun h => absurd h.1 hk18⟩
                rw [hlw, show (!(false && !false)) = true from rfl] at HSM2
                clear hlw
                go_wp2_with fail
                refine HSM2.out.mono ?_
                rintro e w7 ⟨rfl, hb7⟩
                have z0 : w7.cell? ⟨b, of + y1 * 6, none⟩ = some (.int .i64 x.kind) := (hb7.cell (p := ⟨b, of + y1 * 6, none⟩) hbl).trans HXC.out.1
                have z4 : w7.cell? ⟨b, of + y1 * 6 + 4, none⟩ = some (.string x.text) := (hb7.cell (p := ⟨b, of + y1 * 6 + 4, none⟩) hbl).trans HXC.out.2.1
                have z5 : w7.cell? ⟨b, of + y1 * 6 + 5, none⟩ = some (.slice Ay ky cy) := (hb7.cell (p := ⟨b, of + y1 * 6 + 5, none⟩) hbl).trans HXC.out.2.2
                have HT7 := hide (HT6.out.below hb7 (Nat.le_refl _))
                have HB7 := hide (HB6.out.trans (hb7.mono HB6.out.size))
                have HN7 := hide (HN6.out.below hb7 (Nat.le_refl _))
                have HLT := hide (HLN.out w7 HT7.out)
                rw [← HM.out] at HLT
                clear hb7
                have i9 : (x.kind == 18) = false := by rw [beq_eq_false_iff_ne]; exact hk18
                go_wp2_with fail
                refine HLT.out.mono ?_
                rintro e w' ⟨rfl, rfl⟩
                clear z0 z4 z5
                go_wp2_with fail
                go_loopw [23] (fun jj wr => ∃ (j : Nat), j ≤ m ∧ jj = .int .i64 j ∧ Hid (Below w7.heap.size w7 wr)) (fun jj _ => m - (intOf jj).toNat)
                case atStart => exact ⟨0, Nat.zero_le _, rfl, hide (Below.refl _ _)⟩
                case round =>
                  obtain ⟨j, hj, rfl, HWR⟩ := hrel
                  by_cases hlt : j < m
                  · have j1 : (j : Int) < (m : Int) := by omega
                    have q5 : IntKind.i64.wrap ((j : Int) + 1) = (j : Int) + 1 := IntWalk.i64_in _ (by have := HM.out; have := HLL.out; omega)
                    obtain ⟨bq, oq, x, kq, he, hbl, hx, x0, x1, x2, x3, x4, x5, xk⟩ := HN7.out.at_ (k := j) (by have := HM.out; omega)
                    injection he with he
                    injection he with he1 he2
                    subst he1 he2
                    obtain ⟨Ak, ck, rfl⟩ := xk.form
                    have cells : ∀ V : World, Below w7.heap.size w7 V → V.cell? ⟨b, of + j * 6, none⟩ = some (.int .i64 x.kind) ∧ V.cell? ⟨b, of + j * 6 + 1, none⟩ = some (.int .i64 x.f) ∧ V.cell? ⟨b, of + j * 6 + 2, none⟩ = some (.int .i64 x.l) ∧ V.cell? ⟨b, of + j * 6 + 3, none⟩ = some (.int .i64 x.c) ∧ V.cell? ⟨b, of + j * 6 + 4, none⟩ = some (.string x.text) ∧ V.cell? ⟨b, of + j * 6 + 5, none⟩ = some (.slice Ak x.kids.length ck) := fun V hV =>
                      ⟨(hV.cell (p := ⟨b, of + j * 6, none⟩) hbl).trans x0, (hV.cell (p := ⟨b, of + j * 6 + 1, none⟩) hbl).trans x1, (hV.cell (p := ⟨b, of + j * 6 + 2, none⟩) hbl).trans x2, (hV.cell (p := ⟨b, of + j * 6 + 3, none⟩) hbl).trans x3, (hV.cell (p := ⟨b, of + j * 6 + 4, none⟩) hbl).trans x4, (hV.cell (p := ⟨b, of + j * 6 + 5, none⟩) hbl).trans x5⟩
                    have HC := hide cells
                    have S0 := cells _ HWR.out
                    have hnode := node_at (L := L) (i := j + 1) (by omega) (by have := HM.out; omega) (by simpa using hx)
                    have HND := hide (node_any tb L ((j : Int) + 1) wr.drew (HT7.out.below HWR.out.drew (Nat.le_refl _)) HKB.out)
                    rw [show ((j : Int) + 1) = ((j + 1 : Nat) : Int) by omega, hnode, show ((j + 1 : Nat) : Int) = (j : Int) + 1 by omega] at HND
                    have HXK := hide xk
                    have HXN := hide (HK20.out x (List.mem_of_getElem? hx))
                    clear x0 x1 x2 x3 x4 x5 xk hx cells hnode
                    go_wp2_with fail
                    refine wp_region_tail 99 (fun w' => w'.cell? ⟨b, of + j * 6, none⟩ = some (.int .i64 x.kind) ∧ w'.cell? ⟨b, of + j * 6 + 1, none⟩ = some (.int .i64 x.f) ∧ w'.cell? ⟨b, of + j * 6 + 2, none⟩ = some (.int .i64 x.l) ∧ w'.cell? ⟨b, of + j * 6 + 3, none⟩ = some (.int .i64 x.c) ∧ w'.cell? ⟨b, of + j * 6 + 4, none⟩ = some (.string x.text) ∧ w'.cell? ⟨b, of + j * 6 + 5, none⟩ = some (.slice Ak x.kids.length ck)) (by kernel_rfl) S0 (fun hHeld => ?_)
                    try simp only [Act.put, List.setIfInBounds_toArray, List.set_cons_zero, List.set_cons_succ]
                    refine' wpTail_take (i := 0) (oi := _) ?hi2071 ?hs2071 ?hf2071 ?hr2071 ?hz2071 ?hQ2071 (v := _) (Or.inl ⟨?hw2071, ?hy2071⟩) (by assumption) ?_
                    case hi2071 => (simp only [List.getElem?_toArray, List.getElem?_cons_zero]; exact rfl)
                    case hs2071 => kernel_rfl
                    case hf2071 => kernel_rfl
                    case hr2071 => kernel_rfl
                    case hz2071 => kernel_rfl
                    case hQ2071 => exact fun _ _ _ h => h
                    case hw2071 => rfl
                    case hy2071 => (intro w hSw; (try dsimp only at hSw); go_simp; (try with_reducible rfl))
                    try simp only [Act.put, List.setIfInBounds_toArray, List.set_cons_zero, List.set_cons_succ]
                    refine' wpTail_take (i := 1) (oi := _) ?hi2072 ?hs2072 ?hf2072 ?hr2072 ?hz2072 ?hQ2072 (v := _) (Or.inl ⟨?hw2072, ?hy2072⟩) (by assumption) ?_
                    case hi2072 => (simp only [List.getElem?_toArray, List.getElem?_cons_succ, List.getElem?_cons_zero]; exact rfl)
                    case hs2072 => kernel_rfl
                    case hf2072 => kernel_rfl
                    case hr2072 => kernel_rfl
                    case hz2072 => kernel_rfl
                    case hQ2072 => exact fun _ _ _ h => h
                    case hw2072 => rfl
                    case hy2072 => (intro w hSw; (try dsimp only at hSw); go_simp; (try with_reducible rfl))
                    try simp only [Act.put, List.setIfInBounds_toArray, List.set_cons_zero, List.set_cons_succ]
                    refine' wpTail_take (i := 2) (oi := _) ?hi2073 ?hs2073 ?hf2073 ?hr2073 ?hz2073 ?hQ2073 (v := _) (Or.inl ⟨?hw2073, ?hy2073⟩) (by assumption) ?_
                    case hi2073 => (simp only [List.getElem?_toArray, List.getElem?_cons_succ, List.getElem?_cons_zero]; exact rfl)
                    case hs2073 => kernel_rfl
                    case hf2073 => kernel_rfl
                    case hr2073 => kernel_rfl
                    case hz2073 => kernel_rfl
                    case hQ2073 => exact fun _ _ _ h => h
                    case hw2073 => rfl
                    case hy2073 => (intro w hSw; (try dsimp only at hSw); go_simp; (try with_reducible rfl))
                    try simp only [Act.put, List.setIfInBounds_toArray, List.set_cons_zero, List.set_cons_succ]
                    refine' wpTail_take (i := 4) (oi := _) ?hi2074 ?hs2074 ?hf2074 ?hr2074 ?hz2074 ?hQ2074 (v := _) (Or.inl ⟨?hw2074, ?hy2074⟩) (by assumption) ?_
                    case hi2074 => (simp only [List.getElem?_toArray, List.getElem?_cons_succ, List.getElem?_cons_zero]; exact rfl)
                    case hs2074 => kernel_rfl
                    case hf2074 => kernel_rfl
                    case hr2074 => kernel_rfl
                    case hz2074 => kernel_rfl
                    case hQ2074 => exact fun _ _ _ h => h
                    case hw2074 => rfl
                    case hy2074 => (intro w hSw; (try dsimp only at hSw); go_simp; (try with_reducible rfl))
                    try simp only [Act.put, List.setIfInBounds_toArray, List.set_cons_zero, List.set_cons_succ]
                    refine' wpTail_take (i := 5) (oi := _) ?hi2075 ?hs2075 ?hf2075 ?hr2075 ?hz2075 ?hQ2075 (v := _) (Or.inl ⟨?hw2075, ?hy2075⟩) (by assumption) ?_
                    case hi2075 => (simp only [List.getElem?_toArray, List.getElem?_cons_succ, List.getElem?_cons_zero]; exact rfl)
                    case hs2075 => kernel_rfl
                    case hf2075 => kernel_rfl
                    case hr2075 => kernel_rfl
                    case hz2075 => kernel_rfl
                    case hQ2075 => exact fun _ _ _ h => h
                    case hw2075 => rfl
                    case hy2075 => (intro w hSw; (try dsimp only at hSw); go_simp; (try with_reducible rfl))
                    try simp only [Act.put, List.setIfInBounds_toArray, List.set_cons_zero, List.set_cons_succ]
                    refine' wpTail_take (i := 6) (oi := _) ?hi2076 ?hs2076 ?hf2076 ?hr2076 ?hz2076 ?hQ2076 (v := _) (Or.inl ⟨?hw2076, ?hy2076⟩) (by assumption) ?_
                    case hi2076 => (simp only [List.getElem?_toArray, List.getElem?_cons_succ, List.getElem?_cons_zero]; exact rfl)
                    case hs2076 => kernel_rfl
                    case hf2076 => kernel_rfl
                    case hr2076 => kernel_rfl
                    case hz2076 => kernel_rfl
                    case hQ2076 => exact fun _ _ _ h => h
                    case hw2076 => rfl
                    case hy2076 => (intro w hSw; (try dsimp only at hSw); go_simp; (try with_reducible rfl))
                    try simp only [Act.put, List.setIfInBounds_toArray, List.set_cons_zero, List.set_cons_succ]
                    refine' wpTail_take (i := 7) (oi := _) ?hi2077 ?hs2077 ?hf2077 ?hr2077 ?hz2077 ?hQ2077 (v := _) (Or.inl ⟨?hw2077, ?hy2077⟩) (by assumption) ?_
                    case hi2077 => (simp only [List.getElem?_toArray, List.getElem?_cons_succ, List.getElem?_cons_zero]; exact rfl)
                    case hs2077 => kernel_rfl
                    case hf2077 => kernel_rfl
                    case hr2077 => kernel_rfl
                    case hz2077 => kernel_rfl
                    case hQ2077 => exact fun _ _ _ h => h
                    case hw2077 => rfl
                    case hy2077 => (intro w hSw; (try dsimp only at hSw); go_simp; (try with_reducible rfl))
                    try simp only [Act.put, List.setIfInBounds_toArray, List.set_cons_zero, List.set_cons_succ]
                    refine' wpTail_one (i := 3) (o := _) (by kernel_rfl) ?ho2078 ?hw2078 (fun K hK => ?_)
                    case ho2078 => (simp only [List.getElem?_toArray, List.getElem?_cons_succ, List.getElem?_cons_zero]; exact rfl)
                    case hw2078 => rfl
                    go_simp
                    (with_reducible refine HND.out.mono ?_)
                    rintro e w12 ⟨k12, rfl, hI12, hb12⟩
                    have hbw : Below w7.heap.size w7 w12 := HWR.out.drew.trans (hb12.mono HWR.out.drew.size)
                    have HAL := hide (alike_same x k12 (.slice Ak x.kids.length ck) w12 hI12 (HXK.out.below hbw (Nat.le_refl _)) (by have := HXN.out; omega))
                    have S1 := HC.out _ hbw
                    have HBW := hide hbw
                    refine hK.out _ _ (fun _ => S1) ?_
                    clear hK K hbw hI12 hb12 hHeld S0
                    try simp only [Act.put, List.setIfInBounds_toArray, List.set_cons_zero, List.set_cons_succ]
                    refine' wpTail_one (i := 8) (o := _) (by kernel_rfl) ?ho2079 ?hw2079 (fun K hK => ?_)
                    case ho2079 => (simp only [List.getElem?_toArray, List.getElem?_cons_succ, List.getElem?_cons_zero]; exact rfl)
                    case hw2079 => rfl
                    go_simp
                    (with_reducible refine HAL.out.mono ?_)
                    rintro e w13 ⟨rfl, hb13⟩
                    have hbw := HBW.out.trans (hb13.mono HBW.out.size)
                    have S2 := HC.out _ hbw
                    have HBX := hide hbw
                    refine hK.out _ _ (fun _ => S2) ?_
                    clear hK K hbw hb13 S1
                    try simp only [Act.put, List.setIfInBounds_toArray, List.set_cons_zero, List.set_cons_succ]
                    refine' wpTail_one (i := 9) (o := _) (by kernel_rfl) ?ho2080 ?hw2080 (fun K hK => ?_)
                    case ho2080 => (simp only [List.getElem?_toArray, List.getElem?_cons_succ, List.getElem?_cons_zero]; exact rfl)
                    case hw2080 => rfl
                    go_simp
                    refine hK.out _ _ (fun _ => S2) ?_
                    clear hK K
                    refine wpTail_done (by kernel_rfl) ?_ _
                    try simp only [Act.put, List.setIfInBounds_toArray, List.set_cons_zero, List.set_cons_succ]
                    clear S2
                    go_wp2_with fail
                    go_roundw
                    case rel => exact ⟨j + 1, by omega, by simp, HBX⟩
                    case measure => simp [intOf]; omega
                  · have hjm : j = m := by omega
                    subst hjm
                    go_wp2_with fail
                    go_ret
                    exact ⟨rfl, HB7.out.trans (HWR.out.mono HB7.out.size)⟩
end Go.Proofs.YtnphfogepdkpbaaDoor
