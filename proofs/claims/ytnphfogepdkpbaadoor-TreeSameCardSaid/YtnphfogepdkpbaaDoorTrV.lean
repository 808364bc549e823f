/- Nodes that come as an argument; which of them can be, and which are too great (lorgnetteref03.Good, lorgnettelaw03.great); conditions: they are in memory. -/
import Derived.Test.YtnphfogepdkpbaaDoorTrU
namespace Go.Proofs.YtnphfogepdkpbaaDoor
open Go.RowKit Go.WideShapes Go.ChangeShapes
set_option linter.unusedVariables false
set_option linter.unusedSimpArgs false
set_option maxRecDepth 100000

/-- A slice that reads as a row of nodes. -/
def NodesAt (w : World) (v : Value) (l : List Nd) : Prop :=
  ∃ A c, v = .slice A l.length c ∧ l.length ≤ c ∧ ∀ (i : Nat) (n : Nd), l[i]? = some n → ∃ blk off kv, A = some ⟨blk, off, none⟩ ∧ blk < w.heap.size ∧
    w.cell? ⟨blk, off + i * 6, none⟩ = some (.int .i64 n.kind) ∧ w.cell? ⟨blk, off + i * 6 + 1, none⟩ = some (.int .i64 n.f) ∧ w.cell? ⟨blk, off + i * 6 + 2, none⟩ = some (.int .i64 n.l) ∧ w.cell? ⟨blk, off + i * 6 + 3, none⟩ = some (.int .i64 n.c) ∧
    w.cell? ⟨blk, off + i * 6 + 4, none⟩ = some (.string n.text) ∧ w.cell? ⟨blk, off + i * 6 + 5, none⟩ = some kv ∧ IntsAt w kv n.kids
theorem NodesAt.below {w w' : World} {v : Value} {l : List Nd} {B : Nat} (h : NodesAt w v l) (hb : Below B w w') (hB : w.heap.size ≤ B) : NodesAt w' v l := by
  obtain ⟨A, c, hv, hlc, hc⟩ := h
  refine ⟨A, c, hv, hlc, fun i n hi => ?_⟩
  obtain ⟨blk, off, kv, hA, hl, h0, h1, h2, h3, h4, h5, hk⟩ := hc i n hi
  have q : ∀ k, (w'.cell? ⟨blk, k, none⟩) = w.cell? ⟨blk, k, none⟩ := fun k => hb.cell (p := ⟨blk, k, none⟩) (by show blk < B; omega)
  exact ⟨blk, off, kv, hA, Nat.lt_of_lt_of_le hl hb.size, (q _).trans h0, (q _).trans h1, (q _).trans h2, (q _).trans h3, (q _).trans h4, (q _).trans h5, hk.below hb hB⟩
theorem NodesAt.form {w : World} {v : Value} {l : List Nd} (h : NodesAt w v l) : ∃ A c, v = .slice A l.length c := by
  obtain ⟨A, c, hv, _⟩ := h
  exact ⟨A, c, hv⟩
theorem NodesAt.at_ {w : World} {A : Option Addr} {l : List Nd} {n c k : Nat} (h : NodesAt w (.slice A n c) l) (hk : k < l.length) : ∃ blk off x kv, A = some ⟨blk, off, none⟩ ∧ blk < w.heap.size ∧ l[k]? = some x ∧
    w.cell? ⟨blk, off + k * 6, none⟩ = some (.int .i64 x.kind) ∧ w.cell? ⟨blk, off + k * 6 + 1, none⟩ = some (.int .i64 x.f) ∧ w.cell? ⟨blk, off + k * 6 + 2, none⟩ = some (.int .i64 x.l) ∧ w.cell? ⟨blk, off + k * 6 + 3, none⟩ = some (.int .i64 x.c) ∧
    w.cell? ⟨blk, off + k * 6 + 4, none⟩ = some (.string x.text) ∧ w.cell? ⟨blk, off + k * 6 + 5, none⟩ = some kv ∧ IntsAt w kv x.kids := by
  obtain ⟨A', c', hv, hlc, hc⟩ := h
  injection hv with h1 h2 h3
  subst h1
  obtain ⟨blk, off, kv, rest⟩ := hc k l[k] (List.getElem?_eq_getElem hk)
  exact ⟨blk, off, l[k], kv, rest.1, rest.2.1, List.getElem?_eq_getElem hk, rest.2.2⟩

set_option maxHeartbeats 4000000 in
theorem good_any (n : Nd) (kv : Value) (M : Nat) (w : World) (h : IntsAt w kv n.kids) (hn : n.kids.length ≤ 1000000) :
    Calls Tryd.prog 23 #[n.val kv, .int .i64 (M : Int)] w (BoolP w (goodN n M)) := by
  obtain ⟨a, ha⟩ : ∃ a, a = w.heap.size := ⟨_, rfl⟩
  obtain ⟨W1, hW1⟩ : ∃ W1, W1 = w.alloc (.cells (n.arr kv) 34) := ⟨_, rfl⟩
  have hb1 : Below w.heap.size w W1 := by rw [hW1]; exact (Below.refl _ _).alloc (Nat.le_refl _) _
  have hba : Blk W1 a 34 (n.arr kv) := by rw [hW1, ha]; exact Blk.new _ _ _
  obtain ⟨Ak, ck, rfl⟩ := h.form
  have h1 := h.below hb1 (Nat.le_refl _)
  obtain ⟨m, hm⟩ : ∃ m, m = n.kids.length := ⟨_, rfl⟩
  rw [← hm] at h1 hba hW1 ⊢
  have z0 : W1.cell? ⟨a, 0, none⟩ = some (.int .i64 n.kind) := hba.cell 0
  have z5 : W1.cell? ⟨a, 5, none⟩ = some (.slice Ak m ck) := hba.cell 5
  have HH := hide h1
  have HB1 := hide hb1
  have HW1 := hide hW1
  have HA := hide ha
  have HM := hide (And.intro hm hn)
  clear h h1 hb1 hW1 ha hm hn hba
  by_cases hk1 : n.kind < 1
  · have HG : Hid (goodN n M = false) := hide (by
      cases hg : goodN n M with
      | false => rfl
      | true => have := (goodN_iff.1 hg).1; omega)
    go_enter Tryd.func23, Tryd.ntmps23
    go_upto_region 1 with (fail)
    rw [← HW1.out, ← HA.out]
    go_wp2_with fail
    go_ret
    exact ⟨ret_bS HG.out.symm, HB1.out⟩
  · by_cases hk2 : 47 < n.kind
    · have HG : Hid (goodN n M = false) := hide (by
        cases hg : goodN n M with
        | false => rfl
        | true => have := (goodN_iff.1 hg).1; omega)
      go_enter Tryd.func23, Tryd.ntmps23
      go_upto_region 1 with (fail)
      rw [← HW1.out, ← HA.out]
      go_wp2_with fail
      go_ret
      exact ⟨ret_bS HG.out.symm, HB1.out⟩
    · go_enter Tryd.func23, Tryd.ntmps23
      go_upto_region 1 with (fail)
      rw [← HW1.out, ← HA.out]
      go_wp2_with fail
      go_loopw [5] (fun jj wr => ∃ j : Nat, j ≤ m ∧ jj = .int .i64 j ∧ wr = W1 ∧ Hid (∀ q k, q < j → n.kids[q]? = some k → 0 ≤ k ∧ k ≤ (M : Int))) (fun jj _ => m - (intOf jj).toNat)
      case atStart => exact ⟨0, Nat.zero_le _, rfl, rfl, hide (fun q k hq => by omega)⟩
      case round =>
        obtain ⟨j, hj, rfl, rfl, HQ⟩ := hrel
        by_cases hlt : j < m
        · have j1 : (j : Int) < (m : Int) := by omega
          obtain ⟨b, of, x, rfl, _, hx, hcell⟩ := HH.out.at_ (k := j) (by rw [← HM.out.1]; exact hlt)
          have q5 : IntKind.i64.wrap ((j : Int) + 1) = (j : Int) + 1 := IntWalk.i64_in _ (by have := HM.out; omega)
          have HX := hide hx
          have bad : (x < 0 ∨ (M : Int) < x) → goodN n M = false := fun hb => by
            cases hg : goodN n M with
            | false => rfl
            | true => have := (goodN_iff.1 hg).2 x (List.mem_of_getElem? HX.out); omega
          have HBAD := hide bad
          clear hx bad
          by_cases hx1 : x < 0
          · go_wp2_with fail
            go_ret
            exact ⟨ret_bS (HBAD.out (.inl hx1)).symm, HB1.out⟩
          · by_cases hx2 : (M : Int) < x
            · go_wp2_with fail
              go_ret
              exact ⟨ret_bS (HBAD.out (.inr hx2)).symm, HB1.out⟩
            · have HN : Hid (∀ q k, q < j + 1 → n.kids[q]? = some k → 0 ≤ k ∧ k ≤ (M : Int)) := hide (fun q k hq hk => by
                rcases Nat.lt_or_ge q j with h1 | h1
                · exact HQ.out q k h1 hk
                · have : q = j := by omega
                  subst this
                  rw [HX.out] at hk
                  injection hk with hk
                  omega)
              go_wp2_with fail
              go_roundw
              case rel => exact ⟨j + 1, by omega, by simp, trivial, HN⟩
              case measure => simp [intOf]; omega
        · have hjm : j = m := by omega
          subst hjm
          have HG : Hid (goodN n M = true) := hide (goodN_iff.2 ⟨by omega, fun k hk => by
            obtain ⟨q, hq, he⟩ := List.mem_iff_getElem.1 hk
            exact HQ.out q k (by have := HM.out.1; omega) (by rw [List.getElem?_eq_getElem hq, he])⟩)
          go_wp2_with fail
          go_ret
          exact ⟨ret_bS HG.out.symm, HB1.out⟩
/-- Too many nodes, or one that is too great. -/
def greatB (l : List Nd) : Bool := decide (60 < l.length) || l.any fun n => decide (20 < n.kids.length) || decide (200 < n.text.size)
theorem great_false {l : List Nd} (h : greatB l = false) : l.length ≤ 60 ∧ ∀ n ∈ l, n.kids.length ≤ 20 ∧ n.text.size ≤ 200 := by
  unfold greatB at h
  rw [Bool.or_eq_false_iff] at h
  refine ⟨by have := of_decide_eq_false h.1; omega, fun n hn => ?_⟩
  have := List.any_eq_false.1 h.2 n hn
  simp at this
  omega
set_option maxHeartbeats 4000000 in
theorem great_any (v : Value) (l : List Nd) (w : World) (h : NodesAt w v l) :
    Calls Tryd.prog 8 #[v] w fun e w' => e = .returned (.bool (greatB l)) ∧ w' = w := by
  obtain ⟨A, c, rfl⟩ := h.form
  obtain ⟨m, hm⟩ : ∃ m, m = l.length := ⟨_, rfl⟩
  rw [← hm] at h ⊢
  have HH := hide h
  have HM := hide hm
  clear h hm
  by_cases h1 : 60 < m
  · have HG : Hid (greatB l = true) := hide (by unfold greatB; rw [decide_eq_true (by rw [← HM.out]; exact h1)]; rfl)
    have j1 : (60 : Int) < (m : Int) := by omega
    go_enter Tryd.func8, Tryd.ntmps8
    go_wp2_with fail
    go_ret
    exact ⟨ret_bS HG.out.symm, rfl⟩
  · have j1 : ¬ (60 : Int) < (m : Int) := by omega
    go_enter Tryd.func8, Tryd.ntmps8
    go_wp2_with fail
    go_loopw [3] (fun jj wr => ∃ j : Nat, j ≤ m ∧ jj = .int .i64 j ∧ wr = w ∧ Hid (∀ q n, q < j → l[q]? = some n → n.kids.length ≤ 20 ∧ n.text.size ≤ 200)) (fun jj _ => m - (intOf jj).toNat)
    case atStart => exact ⟨0, Nat.zero_le _, rfl, rfl, hide (fun q k hq => by omega)⟩
    case round =>
      obtain ⟨j, hj, rfl, rfl, HQ⟩ := hrel
      by_cases hlt : j < m
      · have j2 : (j : Int) < (m : Int) := by omega
        obtain ⟨b, of, x, kv, rfl, _, hx, x0, x1, x2, x3, x4, x5, xk⟩ := HH.out.at_ (k := j) (by rw [← HM.out]; exact hlt)
        obtain ⟨Ak, ck, rfl⟩ := xk.form
        have q5 : IntKind.i64.wrap ((j : Int) + 1) = (j : Int) + 1 := IntWalk.i64_in _ (by omega)
        have HX := hide hx
        obtain ⟨kl, hkl⟩ : ∃ kl, kl = x.kids.length := ⟨_, rfl⟩
        obtain ⟨tl, htl⟩ : ∃ tl, tl = x.text.size := ⟨_, rfl⟩
        have bad : (20 < kl ∨ 200 < tl) → greatB l = true := fun hb => by
          unfold greatB
          rw [Bool.or_eq_true]
          refine .inr (List.any_eq_true.2 ⟨x, List.mem_of_getElem? HX.out, ?_⟩)
          simp
          omega
        have HBAD := hide bad
        have HLE := hide (And.intro hkl htl)
        rw [← hkl] at x5
        clear hx bad xk x0 x1 x2 x3 hkl htl
        by_cases hx1 : 20 < kl
        · have j3 : (20 : Int) < (kl : Int) := by omega
          go_wp2_with fail
          go_ret
          exact ⟨ret_bS (HBAD.out (.inl hx1)).symm, rfl⟩
        · have j3 : ¬ (20 : Int) < (kl : Int) := by omega
          by_cases hx2 : 200 < tl
          · have j4 : (200 : Int) < (x.text.size : Int) := by have := HLE.out.2; omega
            go_wp2_with fail
            go_ret
            exact ⟨ret_bS (HBAD.out (.inr hx2)).symm, rfl⟩
          · have j4 : ¬ (200 : Int) < (x.text.size : Int) := by have := HLE.out.2; omega
            have HN : Hid (∀ q n, q < j + 1 → l[q]? = some n → n.kids.length ≤ 20 ∧ n.text.size ≤ 200) := hide (fun q k hq hk => by
              rcases Nat.lt_or_ge q j with h1 | h1
              · exact HQ.out q k h1 hk
              · have : q = j := by omega
                subst this
                rw [HX.out] at hk
                injection hk with hk
                subst hk
                have := HLE.out
                omega)
            go_wp2_with fail
            go_roundw
            case rel => exact ⟨j + 1, by omega, by simp, trivial, HN⟩
            case measure => simp [intOf]; omega
      · have hjm : j = m := by omega
        subst hjm
        have HG : Hid (greatB l = false) := hide (by
          unfold greatB
          rw [Bool.or_eq_false_iff]
          refine ⟨decide_eq_false (by rw [← HM.out]; exact h1), List.any_eq_false.2 (fun x hx => ?_)⟩
          obtain ⟨q, hq, he⟩ := List.mem_iff_getElem.1 hx
          have := HQ.out q x (by have := HM.out; omega) (by rw [List.getElem?_eq_getElem hq, he])
          simp
          omega)
        go_wp2_with fail
        go_ret
        exact ⟨ret_bS HG.out.symm, rfl⟩
end Go.Proofs.YtnphfogepdkpbaaDoor
