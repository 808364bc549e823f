/- Whether two rows of facts are the same; conditions: their sizes. -/
import Derived.Test.YtgnobpljnahceaaDoorFcQ
namespace Go.Proofs.YtgnobpljnahceaaDoor
open Go.RowKit Go.WideShapes Go.ChangeShapes Go.Shelf
set_option linter.unusedVariables false
set_option linter.unusedSimpArgs false
set_option maxRecDepth 100000

def SameP (la lb : List TD) (e : Ending) : Prop := ∃ b, e = .returned (.bool b) ∧ (b = true ↔ la = lb)
theorem sameP_no {la lb : List TD} (h : la ≠ lb) : SameP la lb (.returned (.bool false)) := ⟨false, rfl, ⟨(fun e => by cases e), (fun e => absurd e h)⟩⟩
def SameRel (w : World) (la lb : List TD) (i : Value) (wr : World) : Prop := ∃ k : Nat, i = .int .i64 (k : Int) ∧ k ≤ la.length ∧ la.take k = lb.take k ∧ ∃ q, wr = w.drewN q
def SameIn (w : World) (sa sb : List Bool) (i : Value) (wr : World) : Prop := ∃ k : Nat, i = .int .i64 (k : Int) ∧ k ≤ sa.length ∧ sa.take k = sb.take k ∧ ∃ q, wr = w.drewN q
theorem take_more {α : Type} {a b : List α} {k : Nat} {x : α} (h : a.take k = b.take k) (ha : a[k]? = some x) (hb : b[k]? = some x) : a.take (k + 1) = b.take (k + 1) := by
  rw [List.take_add_one, List.take_add_one, h, ha, hb]
theorem unlike_at {α : Type} {a b : List α} {k : Nat} {x y : α} (ha : a[k]? = some x) (hb : b[k]? = some y) (h : x ≠ y) : a ≠ b := by
  intro e
  rw [e, hb] at ha
  injection ha with ha
  exact h ha.symm
set_option maxHeartbeats 8000000 in
theorem same_any (va vb : Value) (la lb : List TD) (w : World) (ha : TDs w va la) (hb : TDs w vb lb)
    (hqa : la.length ≤ maxLen ∧ ∀ t ∈ la, t.k.length ≤ maxLen ∧ t.s.length ≤ maxLen) (hqb : lb.length ≤ maxLen ∧ ∀ t ∈ lb, t.k.length ≤ maxLen ∧ t.s.length ≤ maxLen) :
    Calls Tryd.prog 14 #[va, vb] w fun e w' => SameP la lb e ∧ ∃ q, w' = w.drewN q := by
  obtain ⟨A, ca, rfl, hca⟩ := ha
  obtain ⟨B, cb, rfl, hcb⟩ := hb
  have HCA := hide hca
  have HCB := hide hcb
  have HQA := hide hqa
  have HQB := hide hqb
  clear hca hcb hqa hqb
  by_cases hlen : la.length = lb.length
  case neg =>
    obtain ⟨n, hn⟩ : ∃ n, n = la.length := ⟨_, rfl⟩
    obtain ⟨m, hm⟩ : ∃ n, n = lb.length := ⟨_, rfl⟩
    have i1 : ¬ (n : Int) = (m : Int) := by omega
    have i2 : ((n : Int) != (m : Int)) = true := bne_iff_ne.2 i1
    rw [← hn, ← hm]
    have HNE := hide (show la ≠ lb from fun e => hlen (by rw [e]))
    clear hn hm hlen
    go_enter Tryd.func14, Tryd.ntmps14
    go_wp2_with fail
    go_ret
    exact ⟨sameP_no HNE.out, 0, rfl⟩
  obtain ⟨n, hn⟩ : ∃ n, n = la.length := ⟨_, rfl⟩
  rw [← hlen, ← hn]
  have HN := hide (And.intro hn hlen)
  clear hn hlen
  go_enter Tryd.func14, Tryd.ntmps14
  go_wp2_with fail
  go_loopw [5, 6] (fun i _ wr => SameRel w la lb i wr) (fun i _ _ => (((n : Int) - intOf i).toNat))
  case atStart => exact ⟨0, rfl, Nat.zero_le _, rfl, 0, rfl⟩
  case round =>
    obtain ⟨k, rfl, hk, htk, q, rfl⟩ := hrel
    by_cases hlt : k < n
    · have j1 : (k : Int) < (n : Int) := by omega
      have q2 : IntKind.i64.wrap ((k : Int) + 1) = (k : Int) + 1 := IntWalk.i64_in _ (by have := HN.out; have := HQA.out.1; unfold maxLen at this; omega)
      obtain ⟨t, ht⟩ : ∃ t, la[k]? = some t := ⟨_, List.getElem?_eq_getElem (by have := HN.out; omega)⟩
      obtain ⟨u, hu⟩ : ∃ u, lb[k]? = some u := ⟨_, List.getElem?_eq_getElem (by have := HN.out; omega)⟩
      obtain ⟨blk, off, bv, rfl, hbl, c0, c1, c2, hbo⟩ := HCA.out k t ht
      obtain ⟨blk2, off2, bv2, rfl, hbl2, d0, d1, d2, hbo2⟩ := HCB.out k u hu
      obtain ⟨A2, ca2, rfl, hba⟩ := hbo
      obtain ⟨B2, cb2, rfl, hbb⟩ := hbo2
      have hta := HQA.out.2 t (List.mem_of_getElem? ht)
      have htb := HQB.out.2 u (List.mem_of_getElem? hu)
      obtain ⟨K, hK⟩ : ∃ K : ByteArray, K = ⟨t.k.toArray⟩ := ⟨_, rfl⟩
      obtain ⟨L, hL⟩ : ∃ K : ByteArray, K = ⟨u.k.toArray⟩ := ⟨_, rfl⟩
      rw [← hK] at c0
      rw [← hL] at d0
      have hKl : K.toList = t.k := by rw [hK]; exact str_list _
      have hLl : L.toList = u.k := by rw [hL]; exact str_list _
      obtain ⟨x, hx⟩ : ∃ b, b = t.n := ⟨_, rfl⟩
      obtain ⟨y, hy⟩ : ∃ b, b = u.n := ⟨_, rfl⟩
      rw [← hx] at c1
      rw [← hy] at d1
      obtain ⟨m, hm⟩ : ∃ m, m = t.s.length := ⟨_, rfl⟩
      obtain ⟨m2, hm2⟩ : ∃ m, m = u.s.length := ⟨_, rfl⟩
      rw [← hm] at c2
      rw [← hm2] at d2
      have HT := hide (And.intro ht hu)
      have HTK := hide htk
      have HBA := hide hba
      have HBB := hide hbb
      have HMM := hide (And.intro hm hm2)
      have HML := hide (And.intro hta.2 htb.2)
      by_cases h1 : t.k = u.k
      case neg =>
        have n2 : (K.toList == L.toList) = false := beq_false_of_ne (by rw [hKl, hLl]; exact h1)
        have HNE := hide (unlike_at ht hu (fun e => h1 (by rw [e])))
        clear hKl hLl hK hL ht hu hta htb hba hbb htk hx hy hm hm2
        go_wp2_with fail
        go_quiet (fail)
        go_wp2_with fail
        go_ret
        exact ⟨sameP_no HNE.out, _, World.drewN_drewN ..⟩
      obtain rfl : K = L := by rw [hK, hL, h1]
      by_cases h2 : x = y
      case neg =>
        have HNE := hide (unlike_at ht hu (fun e => h2 (by rw [hx, hy, e])))
        have hy2 : y = !x := by cases x <;> cases y <;> simp_all
        subst hy2
        clear hKl hLl hK hL ht hu hta htb hba hbb htk hx hy hm hm2 h2
        cases x
        all_goals
          go_wp2_with fail
          go_quiet (fail)
          go_wp2_with fail
          go_ret
          exact ⟨sameP_no HNE.out, _, World.drewN_drewN ..⟩
      obtain rfl : x = y := h2
      by_cases h3 : m = m2
      case neg =>
        have HNE := hide (unlike_at ht hu (fun e => h3 (by rw [hm, hm2, e])))
        have n3 : ¬ (m : Int) = (m2 : Int) := by omega
        have n4 : ((m : Int) != (m2 : Int)) = true := bne_iff_ne.2 n3
        clear hKl hLl hK hL ht hu hta htb hba hbb htk hx hy hm hm2 h3
        cases x
        all_goals
          go_wp2_with fail
          go_quiet (fail)
          go_wp2_with fail
          go_ret
          exact ⟨sameP_no HNE.out, _, World.drewN_drewN ..⟩
      obtain rfl : m = m2 := h3
      have HXY := hide (And.intro h1 (And.intro hx hy))
      clear hKl hLl hK hL ht hu hta htb hba hbb htk hx hy hm hm2 h1
      go_wp2_with fail
      go_quiet (fail)
      go_wp2_with fail
      go_loopw [6] (fun i wr => SameIn w t.s u.s i wr) (fun i _ => (((m : Int) - intOf i).toNat))
      case atStart => exact ⟨0, rfl, Nat.zero_le _, rfl, _, World.drewN_drewN ..⟩
      case round =>
        obtain ⟨j, rfl, hj, htj, q', rfl⟩ := hrel
        by_cases hjl : j < m
        · have j3 : (j : Int) < (m : Int) := by omega
          have q3 : IntKind.i64.wrap ((j : Int) + 1) = (j : Int) + 1 := IntWalk.i64_in _ (by have := HMM.out; have := HML.out.1; unfold maxLen at this; omega)
          obtain ⟨b1, hb1⟩ : ∃ b, t.s[j]? = some b := ⟨_, List.getElem?_eq_getElem (by have := HMM.out; omega)⟩
          obtain ⟨b2, hb2⟩ : ∃ b, u.s[j]? = some b := ⟨_, List.getElem?_eq_getElem (by have := HMM.out; omega)⟩
          obtain ⟨g1, o1, rfl, hg1, e0⟩ := HBA.out j b1 hb1
          obtain ⟨g2, o2, rfl, hg2, f0⟩ := HBB.out j b2 hb2
          by_cases h5 : b1 = b2
          case neg =>
            have HNE := hide (unlike_at HT.out.1 HT.out.2 (fun e => unlike_at hb1 hb2 h5 (by rw [e])))
            have hy2 : b2 = !b1 := by cases b1 <;> cases b2 <;> simp_all
            subst hy2
            clear htj hb1 hb2 h5
            cases b1
            all_goals
              go_wp2_with fail
              go_quiet (fail)
              go_wp2_with fail
              go_ret
              exact ⟨sameP_no HNE.out, _, World.drewN_drewN ..⟩
          obtain rfl : b1 = b2 := h5
          have HTJ := hide (take_more htj hb1 hb2)
          clear htj hb1 hb2
          cases b1
          all_goals
            go_wp2_with fail
            go_quiet (fail)
            go_wp2_with fail
            go_roundw
            case rel => exact ⟨j + 1, by simp, by have := HMM.out; omega, HTJ.out, _, rfl⟩
            case measure => simp [intOf]; omega
        · have j3 : ¬ (j : Int) < (m : Int) := by omega
          have HTJ := hide (show t.s = u.s from by
            have h1 := HMM.out
            rw [List.take_of_length_le (by omega), List.take_of_length_le (by omega)] at htj
            exact htj)
          clear htj
          have HTM := hide (show la.take (k + 1) = lb.take (k + 1) from by
            have e : t = u := by
              have h1 := HXY.out
              cases t
              cases u
              have h2 := HTJ.out
              simp only at h1 h2
              obtain ⟨h3, h4, h5⟩ := h1
              subst h3 h2
              rw [← h4, ← h5]
            refine take_more HTK.out HT.out.1 ?_
            rw [HT.out.2, e])
          go_wp2_with fail
          go_roundw
          case rel => exact ⟨k + 1, by simp, by have := HN.out; omega, HTM.out, _, rfl⟩
          case measure => simp [intOf]; omega
    · have j1 : ¬ (k : Int) < (n : Int) := by omega
      have HE := hide (show la = lb from by
        have h1 := HN.out
        rw [List.take_of_length_le (by omega), List.take_of_length_le (by omega)] at htk
        exact htk)
      clear htk
      go_wp2_with fail
      go_ret
      exact ⟨⟨true, rfl, ⟨fun _ => HE.out, fun _ => rfl⟩⟩, _, rfl⟩
end Go.Proofs.YtgnobpljnahceaaDoor
