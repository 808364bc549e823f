/- The reference's numbers: what Neg and Add answer; conditions: the digits' cells are in memory. -/
import Derived.Test.YtgleldpdelhhhaaDoorDig4
namespace Go.Proofs.YtgleldpdelhhhaaDoor
open Go.RowKit Go.WideShapes Go.ChangeShapes
set_option linter.unusedVariables false
set_option maxRecDepth 100000

theorem Dg.setOther {w : World} {n g i : Nat} {A : Option Addr} {ds : List Nat} {t : TypeId} {cs : Array Value} (h : Dg w A n ds) (hb : Blk w g t cs) (hcs : ∀ u ∈ cs.toList, ∀ z, u ≠ .int .i64 z) (v : Value) : Dg (w.setCell ⟨g, i, none⟩ v) A n ds := by
  refine ⟨h.1, h.2.1, fun hpos => ?_⟩
  obtain ⟨b, off, e, hlt, hc⟩ := plainD h.2 (by omega) (by omega)
  refine ⟨⟨b, off, none⟩, e, by simpa using hlt, fun j u hu => ?_⟩
  have hcj := hc j u hu
  have hne : b ≠ g := by
    intro hbg
    subst hbg
    have hint : ∃ z, u = .int .i64 z := by
      obtain ⟨x, _, rfl⟩ := List.mem_map.1 (List.mem_of_getElem? hu)
      exact ⟨_, rfl⟩
    obtain ⟨z, rfl⟩ := hint
    rw [hb.cell (off + j)] at hcj
    have hm : Value.int .i64 z ∈ cs.toList := by
      have h2 := Array.mem_of_getElem? hcj
      simpa using h2
    exact hcs _ hm z rfl
  rw [Go.WideShapes.add_plain]
  rw [World.cell?_of_block (w' := w.setCell ⟨g, i, none⟩ v) (w := w) (a := ⟨b, off + j, none⟩) (Below.heap_setCell _ _ _ _ hne)]
  exact hcj

abbrev NumT : TypeId := 43
theorem num_end {w w1 : World} {g1 k c v v0 : Nat} {A : Option Addr} {s s0 b0 : Bool} {A0 : Option Addr} {n0 c0 : Nat} {gs : List (Nat × TypeId × Array Value)} {fn : Func} {t : Tmp} {a : Act} (hf : fn.results = #[.cell t NumT]) (hp : a.tmps.getD t undef = .pointer (some ⟨g1, 0, none⟩)) (hdf : a.defers = [])
    (HB : Hid (NB w ((g1, NumT, #[.bool b0, .slice A0 n0 c0]) :: gs) w1)) (hS : Dg w1 A k (dgs v)) (hc : k ≤ c) (hs : s = s0) (hv : v = v0) :
    bodyPost Tryd.prog fn (NumS w s0 v0) .ret a ((w1.setCell ⟨g1, 0, none⟩ (.bool s)).setCell ⟨g1, 1, none⟩ (.slice A k c)) := by
  subst hs hv
  have hb1 := NB.at_ HB (.head _)
  have h1 := HB.out.ge (g1, _, _) (.head _)
  have hb2 : Blk (w1.setCell ⟨g1, 0, none⟩ (.bool s)) g1 NumT #[.bool s, .slice A0 n0 c0] := by have h := hb1.set_ 0 (.bool s); simpa using h
  refine ret_num hf hp hdf (set_twoN hb1 _ _) ⟨A, k, c, rfl, ?_, hc, (HB.out.low.setCell (p := ⟨g1, 0, none⟩) h1 (.bool s)).setCell (p := ⟨g1, 1, none⟩) h1 (.slice A k c)⟩
  refine (hS.setOther hb1 ?_ _).setOther hb2 ?_ _
  · intro u hu z
    simp at hu
    rcases hu with rfl | rfl <;> simp
  · intro u hu z
    simp at hu
    rcases hu with rfl | rfl <;> simp

/-- The number x as an answer. -/
def NumR (w : World) (x : Int) (e : Ending) (w' : World) : Prop := NumS w (decide (x < 0)) x.natAbs e w'

set_option maxHeartbeats 4000000 in
theorem ref_neg {w : World} {n c : Nat} {A : Option Addr} (x : Int) (h : Dg w A n (dgs x.natAbs)) (hn : n ≤ 500) (hc : n ≤ c) :
    Calls Tryd.prog 25 #[.agg #[.bool (decide (x < 0)), .slice A n c]] w (NumR w (-x)) := by
  obtain ⟨s, hs⟩ : ∃ s, s = decide (x < 0) := ⟨_, rfl⟩
  rw [← hs]
  have HB := NB.add NumT #[.bool false, .slice none 0 0] (NB.add NumT #[.bool s, .slice A n c] (NB.nil w))
  have HG := hide h
  have HS := hide hs
  clear h hs
  go_enter Tryd.func25, Tryd.ntmps25
  go_upto_region 1 with (fail)
  obtain ⟨W, hW⟩ : ∃ W : World, W = ((w.alloc (.cells #[.bool s, .slice A n c] NumT)).alloc (.cells #[.bool false, .slice none 0 0] NumT)) := ⟨_, rfl⟩
  obtain ⟨g0, hg0⟩ : ∃ g, g = w.heap.size := ⟨_, rfl⟩
  obtain ⟨g1, hg1⟩ : ∃ g, g = (w.alloc (.cells #[.bool s, .slice A n c] NumT)).heap.size := ⟨_, rfl⟩
  have hg1' : w.heap.size + 1 = g1 := by rw [hg1]; simp
  rw [← hW] at HB ⊢
  rw [← hg1, ← hg0] at HB
  try rw [hg1']
  try rw [← hg0]
  obtain ⟨c0, c1, e0, e1⟩ := two_cellsN (NB.at_ HB (.tail _ (.head _)))
  have HT := hide (fun (b : Bool) => rtrim_any b (HG.out.below HB.out.low) (dgs_dok _) (by omega) hc)
  clear hW hg0 hg1 hg1'
  go_wp2_with fail
  refine (HT.out _).mono ?_
  rintro e w1 ⟨A1, k1, cp1, rfl, hd1, hk1, hb1⟩
  have HB1 := NB.next hb1 HB
  obtain ⟨d0, d1, f0, f1⟩ := two_cellsN (NB.at_ HB1 (.head _))
  have HD1 := hide hd1
  clear hd1 hb1
  go_wp2_with fail
  all_goals exact num_end rfl rfl rfl HB1 HD1.out hk1 (by rw [dgs_val, HS.out, Bool.eq_iff_iff]; simp; omega) (by rw [dgs_val]; omega)

theorem add_args {w wr : World} {g0 g1 g2 : Nat} {u0 u1 u2 v0 v1 v2 : Value} {t : TypeId} (h : Hid (NB w [(g2, t, #[u2, v2]), (g1, t, #[u1, v1]), (g0, t, #[u0, v0])] wr)) :
    wr.cell? ⟨g0, 0, none⟩ = some u0 ∧ wr.cell? ⟨g0, 1, none⟩ = some v0 ∧ wr.cell? ⟨g1, 0, none⟩ = some u1 ∧ wr.cell? ⟨g1, 1, none⟩ = some v1 :=
  ⟨(NB.at_ h (.tail _ (.tail _ (.head _)))).cell 0, (NB.at_ h (.tail _ (.tail _ (.head _)))).cell 1, (NB.at_ h (.tail _ (.head _))).cell 0, (NB.at_ h (.tail _ (.head _))).cell 1⟩
theorem NB.put2 {w wr : World} {g : Nat} {t : TypeId} {a b x y : Value} {gs : List (Nat × TypeId × Array Value)} (h : Hid (NB w ((g, t, #[a, b]) :: gs) wr)) (hn : ∀ p ∈ gs, p.1 ≠ g) : Hid (NB w ((g, t, #[x, y]) :: gs) ((wr.setCell ⟨g, 0, none⟩ x).setCell ⟨g, 1, none⟩ y)) :=
  hide ⟨fun p hp => by
    rcases List.mem_cons.1 hp with rfl | hp
    · exact set_twoN (NB.at_ h (.head _)) x y
    · exact ((h.out.bl p (.tail _ hp)).far (p := ⟨g, 0, none⟩) (fun e => hn p hp e) x).far (p := ⟨g, 1, none⟩) (fun e => hn p hp e) y,
    (h.out.low.setCell (p := ⟨g, 0, none⟩) (h.out.ge _ (.head _)) x).setCell (p := ⟨g, 1, none⟩) (h.out.ge _ (.head _)) y, fun p hp => by
    rcases List.mem_cons.1 hp with rfl | hp
    · exact h.out.ge (g, t, #[a, b]) (.head _)
    · exact h.out.ge p (.tail _ hp)⟩
theorem add_args2 {w wr : World} {g0 g1 g2 : Nat} {u0 u1 u2 v0 v1 v2 x y : Value} {t : TypeId} (h : Hid (NB w [(g2, t, #[u2, v2]), (g1, t, #[u1, v1]), (g0, t, #[u0, v0])] wr)) (h0 : g0 ≠ g2) (h1 : g1 ≠ g2) :
    ((wr.setCell ⟨g2, 0, none⟩ x).setCell ⟨g2, 1, none⟩ y).cell? ⟨g0, 0, none⟩ = some u0 ∧ ((wr.setCell ⟨g2, 0, none⟩ x).setCell ⟨g2, 1, none⟩ y).cell? ⟨g0, 1, none⟩ = some v0 ∧ ((wr.setCell ⟨g2, 0, none⟩ x).setCell ⟨g2, 1, none⟩ y).cell? ⟨g1, 0, none⟩ = some u1 ∧ ((wr.setCell ⟨g2, 0, none⟩ x).setCell ⟨g2, 1, none⟩ y).cell? ⟨g1, 1, none⟩ = some v1 :=
  add_args (NB.put2 h (by intro p hp; simp at hp; rcases hp with rfl | rfl; exact h1; exact h0))
theorem Dg.nbelow {w wr w' : World} {n : Nat} {A : Option Addr} {ds : List Nat} {gs : List (Nat × TypeId × Array Value)} (h : Dg w A n ds) (hb : Hid (NB w gs wr)) : Dg wr A n ds := h.below hb.out.low

theorem add_sign {x y : Int} {s : Bool} (h1 : s = decide (x < 0)) (h2 : s = decide (y < 0)) : (s && decide (0 < dval (dgs x.natAbs) + dval (dgs y.natAbs))) = decide (x + y < 0) := by
  subst h1
  have h3 := decide_eq_decide.1 h2
  rw [dgs_val, dgs_val, Bool.eq_iff_iff]
  simp
  omega
theorem add_same_val {x y : Int} {s : Bool} (h1 : s = decide (x < 0)) (h2 : s = decide (y < 0)) : (x + y).natAbs = x.natAbs + y.natAbs := by
  subst h1
  have h3 := decide_eq_decide.1 h2
  omega
theorem add_sign_val {x y : Int} {s s' : Bool} (h1 : s = decide (x < 0)) (h2 : s' = decide (y < 0)) (h : ¬ s = s') : ((x + y).natAbs : Int) = if x.natAbs < y.natAbs then (y.natAbs : Int) - x.natAbs else (x.natAbs : Int) - y.natAbs := by
  subst h1 h2
  rw [decide_eq_decide] at h
  split <;> omega
theorem add_sign_a {x y : Int} {s s' : Bool} (h1 : s = decide (x < 0)) (h2 : s' = decide (y < 0)) (h : ¬ s = s') (hl : y.natAbs ≤ x.natAbs) : (s && decide (0 < dval (dgs x.natAbs) - dval (dgs y.natAbs))) = decide (x + y < 0) := by
  subst h1 h2
  rw [decide_eq_decide] at h
  rw [dgs_val, dgs_val, Bool.eq_iff_iff]
  simp
  omega
theorem add_sign_b {x y : Int} {s s' : Bool} (h1 : s = decide (x < 0)) (h2 : s' = decide (y < 0)) (h : ¬ s = s') (hl : x.natAbs ≤ y.natAbs) : (s' && decide (0 < dval (dgs y.natAbs) - dval (dgs x.natAbs))) = decide (x + y < 0) := by
  subst h1 h2
  rw [decide_eq_decide] at h
  rw [dgs_val, dgs_val, Bool.eq_iff_iff]
  simp
  omega

set_option maxHeartbeats 8000000 in
theorem ref_add {w : World} {n m c c' : Nat} {A A' : Option Addr} (x y : Int) (h : Dg w A n (dgs x.natAbs)) (h' : Dg w A' m (dgs y.natAbs)) (hn : n ≤ 500) (hm : m ≤ 500) (hc : n ≤ c) (hc' : m ≤ c') :
    Calls Tryd.prog 52 #[.agg #[.bool (decide (x < 0)), .slice A n c], .agg #[.bool (decide (y < 0)), .slice A' m c']] w (NumR w (x + y)) := by
  obtain ⟨s, hs⟩ : ∃ s, s = decide (x < 0) := ⟨_, rfl⟩
  obtain ⟨s', hs'⟩ : ∃ s, s = decide (y < 0) := ⟨_, rfl⟩
  rw [← hs, ← hs']
  have HB := NB.add NumT #[.bool false, .slice none 0 0] (NB.add NumT #[.bool s', .slice A' m c'] (NB.add NumT #[.bool s, .slice A n c] (NB.nil w)))
  have HG := hide h
  have HG' := hide h'
  have HS := hide (And.intro hs hs')
  clear h h' hs hs'
  go_enter Tryd.func52, Tryd.ntmps52
  go_upto_region 1 with (fail)
  obtain ⟨W, hW⟩ : ∃ W : World, W = (((w.alloc (.cells #[.bool s, .slice A n c] NumT)).alloc (.cells #[.bool s', .slice A' m c'] NumT)).alloc (.cells #[.bool false, .slice none 0 0] NumT)) := ⟨_, rfl⟩
  obtain ⟨g0, hg0⟩ : ∃ g, g = w.heap.size := ⟨_, rfl⟩
  obtain ⟨g1, hg1⟩ : ∃ g, g = (w.alloc (.cells #[.bool s, .slice A n c] NumT)).heap.size := ⟨_, rfl⟩
  obtain ⟨g2, hg2⟩ : ∃ g, g = ((w.alloc (.cells #[.bool s, .slice A n c] NumT)).alloc (.cells #[.bool s', .slice A' m c'] NumT)).heap.size := ⟨_, rfl⟩
  have hg1' : w.heap.size + 1 = g1 := by rw [hg1]; simp
  have hg2' : w.heap.size + 1 + 1 = g2 := by rw [hg2]; simp
  rw [← hW] at HB ⊢
  rw [← hg2, ← hg1, ← hg0] at HB
  try rw [hg2']
  try rw [hg1']
  try rw [← hg0]
  have HBD := NB.drew HB
  obtain ⟨c0, c1, e0, e1⟩ := two_cellsN (NB.at_ HB (.tail _ (.tail _ (.head _))))
  obtain ⟨c2, c3, e2, e3⟩ := two_cellsN (NB.at_ HB (.tail _ (.head _)))
  have HP := hide (fun (W' : World) (hb : Hid (NB w [(g2, NumT, #[.bool false, .slice none 0 0]), (g1, NumT, #[.bool s', .slice A' m c']), (g0, NumT, #[.bool s, .slice A n c])] W')) => plus_any (HG.out.nbelow (w' := w) hb) (HG'.out.nbelow (w' := w) hb) (dgs_dok _) (dgs_dok _) (by omega) (by omega) (c := c) (c' := c'))
  have HM1 := hide (fun (W' : World) (hl : y.natAbs ≤ x.natAbs) (hb : Hid (NB w [(g2, NumT, #[.bool false, .slice none 0 0]), (g1, NumT, #[.bool s', .slice A' m c']), (g0, NumT, #[.bool s, .slice A n c])] W')) => minus_any (HG.out.nbelow (w' := w) hb) (HG'.out.nbelow (w' := w) hb) (dgs_dok _) (dgs_dok _) (by omega) (by omega) (by rw [dgs_val, dgs_val]; exact hl) (c := c) (c' := c'))
  have HM2 := hide (fun (W' : World) (hl : x.natAbs ≤ y.natAbs) (hb : Hid (NB w [(g2, NumT, #[.bool false, .slice none 0 0]), (g1, NumT, #[.bool s', .slice A' m c']), (g0, NumT, #[.bool s, .slice A n c])] W')) => minus_any (HG'.out.nbelow (w' := w) hb) (HG.out.nbelow (w' := w) hb) (dgs_dok _) (dgs_dok _) (by omega) (by omega) (by rw [dgs_val, dgs_val]; exact hl) (c := c') (c' := c))
  have HMO := hide (more_any (HG.out.nbelow (w' := w) HB) (HG'.out.nbelow (w' := w) HB) (dgs_dok _) (dgs_dok _) (by omega) (by omega) (c := c) (c' := c'))
  rw [dgs_val, dgs_val] at HMO
  have hn0 : g0 ≠ g2 := by omega
  have hn1 : g1 ≠ g2 := by omega
  clear hW hg0 hg1 hg1' hg2 hg2'
  by_cases hss : s = s'
  · subst hss
    clear HM1 HM2 HMO
    go_wp2_with fail
    go_region_held3 (fun w' => w'.cell? ⟨g0, 0, none⟩ = some (.bool s) ∧ w'.cell? ⟨g0, 1, none⟩ = some (.slice A n c) ∧ w'.cell? ⟨g1, 0, none⟩ = some (.bool s) ∧ w'.cell? ⟨g1, 1, none⟩ = some (.slice A' m c'))
      (first | exact add_args (by assumption) | exact add_args2 (by assumption) hn0 hn1)
      (first
        | (go_at_call 43; (with_reducible refine (HP.out _ (by assumption)).mono ?_); rintro e wa ⟨A1, k1, cp1, ds1, rfl, hd1, ok1, hk1, hc1, hv1, hb1⟩; have hma := NB.next hb1 (by assumption))
        | (go_at_call 36; (with_reducible refine (rtrim_any _ hd1 ok1 (by omega) hc1).mono ?_); rintro e wb ⟨A2, k2, cp2, rfl, hd2, hc2, hb2⟩; have hmb := NB.next hb2 hma; obtain ⟨d0, d1, f0, f1⟩ := two_cellsN (NB.at_ hmb (.head _))))
    all_goals go_wp2_with fail
    all_goals exact num_end rfl rfl rfl hmb hd2 hc2 (add_sign HS.out.1 HS.out.2) (by have e1 := dgs_val x.natAbs; have e2 := dgs_val y.natAbs; have h3 := add_same_val HS.out.1 HS.out.2; omega)
  · have hq : (s == s') = false := by simpa using hss
    clear HP
    by_cases hlt : x.natAbs < y.natAbs
    · have ho : ordN x.natAbs y.natAbs = -1 := by unfold ordN; rw [if_pos hlt]
      rw [ho] at HMO
      clear HM1
      go_wp2_with (refine HMO.out.mono ?_; rintro e w1 ⟨rfl, rfl⟩)
      go_region_held3 (fun w' => w'.cell? ⟨g0, 0, none⟩ = some (.bool s) ∧ w'.cell? ⟨g0, 1, none⟩ = some (.slice A n c) ∧ w'.cell? ⟨g1, 0, none⟩ = some (.bool s') ∧ w'.cell? ⟨g1, 1, none⟩ = some (.slice A' m c'))
        (first | exact add_args (by assumption) | exact add_args2 (by assumption) hn0 hn1)
        (first
          | (go_at_call 42; (with_reducible refine (HM2.out _ (by omega) (by assumption)).mono ?_); rintro e wa ⟨A1, k1, cp1, ds1, rfl, hd1, ok1, hk1, hc1, hv1, hb1⟩; have hma := NB.next hb1 (by assumption))
          | (go_at_call 36; (with_reducible refine (rtrim_any _ hd1 ok1 (by omega) hc1).mono ?_); rintro e wb ⟨A2, k2, cp2, rfl, hd2, hc2, hb2⟩; have hmb := NB.next hb2 hma; obtain ⟨d0, d1, f0, f1⟩ := two_cellsN (NB.at_ hmb (.head _))))
      all_goals go_wp2_with fail
      all_goals exact num_end rfl rfl rfl hmb hd2 hc2 (add_sign_b HS.out.1 HS.out.2 hss (by omega)) (by have e1 := dgs_val x.natAbs; have e2 := dgs_val y.natAbs; have h3 := add_sign_val HS.out.1 HS.out.2 hss; omega)
    · have ho : ordN x.natAbs y.natAbs = 0 ∨ ordN x.natAbs y.natAbs = 1 := by unfold ordN; rw [if_neg hlt]; by_cases h : x.natAbs = y.natAbs <;> simp [h]
      clear HM2
      rcases ho with ho | ho
      all_goals
      rw [ho] at HMO
      go_wp2_with (refine HMO.out.mono ?_; rintro e w1 ⟨rfl, rfl⟩)
      go_region_held3 (fun w' => w'.cell? ⟨g0, 0, none⟩ = some (.bool s) ∧ w'.cell? ⟨g0, 1, none⟩ = some (.slice A n c) ∧ w'.cell? ⟨g1, 0, none⟩ = some (.bool s') ∧ w'.cell? ⟨g1, 1, none⟩ = some (.slice A' m c'))
        (first | exact add_args (by assumption) | exact add_args2 (by assumption) hn0 hn1)
        (first
          | (go_at_call 42; (with_reducible refine (HM1.out _ (by omega) (by assumption)).mono ?_); rintro e wa ⟨A1, k1, cp1, ds1, rfl, hd1, ok1, hk1, hc1, hv1, hb1⟩; have hma := NB.next hb1 (by assumption))
          | (go_at_call 36; (with_reducible refine (rtrim_any _ hd1 ok1 (by omega) hc1).mono ?_); rintro e wb ⟨A2, k2, cp2, rfl, hd2, hc2, hb2⟩; have hmb := NB.next hb2 hma; obtain ⟨d0, d1, f0, f1⟩ := two_cellsN (NB.at_ hmb (.head _))))
      all_goals go_wp2_with fail
      all_goals exact num_end rfl rfl rfl hmb hd2 hc2 (add_sign_a HS.out.1 HS.out.2 hss (by omega)) (by have e1 := dgs_val x.natAbs; have e2 := dgs_val y.natAbs; have h3 := add_sign_val HS.out.1 HS.out.2 hss; omega)
end Go.Proofs.YtgleldpdelhhhaaDoor
