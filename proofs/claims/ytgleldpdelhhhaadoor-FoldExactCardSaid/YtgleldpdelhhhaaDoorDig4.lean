/- The reference's numbers: what trim answers; conditions: the digits' cells are in memory. -/
import Derived.Test.YtgleldpdelhhhaaDoorDig3
namespace Go.Proofs.YtgleldpdelhhhaaDoor
open Go.RowKit Go.WideShapes Go.ChangeShapes
set_option linter.unusedVariables false
set_option maxRecDepth 100000

/-- Blocks of the call's own, the youngest first. -/
structure NB (w : World) (gs : List (Nat × TypeId × Array Value)) (wr : World) : Prop where
  bl : ∀ p ∈ gs, Blk wr p.1 p.2.1 p.2.2
  low : Below w.heap.size w wr
  ge : ∀ p ∈ gs, w.heap.size ≤ p.1
theorem NB.nil (w : World) : Hid (NB w [] w) := hide ⟨fun p hp => (by cases hp), Below.refl _ _, fun p hp => (by cases hp)⟩
theorem NB.next {w W W' : World} {gs : List (Nat × TypeId × Array Value)} (hb : Below W.heap.size W W') (h : Hid (NB w gs W)) : Hid (NB w gs W') :=
  hide ⟨fun p hp => (h.out.bl p hp).below hb (h.out.bl p hp).lt, h.out.low.trans (hb.mono h.out.low.size), h.out.ge⟩
theorem NB.at_ {w W : World} {gs : List (Nat × TypeId × Array Value)} (h : Hid (NB w gs W)) {g : Nat} {t : TypeId} {cs : Array Value} (hg : (g, t, cs) ∈ gs) : Blk W g t cs := h.out.bl _ hg
theorem NB.add {w W : World} {gs : List (Nat × TypeId × Array Value)} (t : TypeId) (cs : Array Value) (h : Hid (NB w gs W)) : Hid (NB w ((W.heap.size, t, cs) :: gs) (W.alloc (.cells cs t))) :=
  hide ⟨fun p hp => by
    rcases List.mem_cons.1 hp with rfl | hp
    · exact Blk.new _ _ _
    · exact (h.out.bl p hp).alloc _, h.out.low.alloc h.out.low.size _, fun p hp => by
    rcases List.mem_cons.1 hp with rfl | hp
    · exact h.out.low.size
    · exact h.out.ge p hp⟩
theorem NB.drew {w W : World} {gs : List (Nat × TypeId × Array Value)} (h : Hid (NB w gs W)) : Hid (NB w gs W.drew) := hide ⟨fun p hp => (h.out.bl p hp).drew, h.out.low.drew, h.out.ge⟩
theorem two_cellsN {w : World} {g : Nat} {t : TypeId} {a b : Value} (h : Blk w g t #[a, b]) : w.cell? ⟨g, 0, none⟩ = some a ∧ w.cell? ⟨g, 1, none⟩ = some b ∧ w.frozen? ⟨g, 0, none⟩ = false ∧ w.frozen? ⟨g, 1, none⟩ = false :=
  ⟨h.cell 0, h.cell 1, h.frozen 0, h.frozen 1⟩
theorem set_twoN {w : World} {g : Nat} {t : TypeId} {a b : Value} (h : Blk w g t #[a, b]) (x y : Value) : Blk ((w.setCell ⟨g, 0, none⟩ x).setCell ⟨g, 1, none⟩ y) g t #[x, y] := by
  have h2 := (h.set_ 0 x).set_ 1 y
  simpa using h2
theorem num_size : (Tryd.prog.info? 43).map (·.size) = some 2 := by kernel_rfl
theorem num_und : ((Tryd.prog.underlying 43).map fun d => (match d with | .struct _ | .array _ _ => true | _ => false)) = some true := by kernel_rfl
theorem ret_num {fn : Func} {t : Tmp} (hf : fn.results = #[.cell t 43]) {R : Ending → World → Prop} {a : Act} {wf : World} {g n c : Nat} {s : Bool} {A : Option Addr} (hp : a.tmps.getD t undef = .pointer (some ⟨g, 0, none⟩)) (hd : a.defers = [])
    (hb : Blk wf g 43 #[.bool s, .slice A n c]) (h : R (.returned (.agg #[.bool s, .slice A n c])) wf) : bodyPost Tryd.prog fn R .ret a wf := by
  have hu := num_und
  cases hq : Tryd.prog.underlying 43 with
  | none => rw [hq] at hu; cases hu
  | some d =>
    rw [hq] at hu
    exact bodyPost_ret (results_cell_row hf _ _ _ _ _ _ d hp hb hq (by cases d <;> simp_all) num_size) hd h

/-- A call's answer is a number with the digits of v, with a sign, in the memory that is known. -/
def NumA (w : World) (A : Option Addr) (c : Nat) (s : Bool) (v : Nat) (e : Ending) (w' : World) : Prop :=
  ∃ k, e = .returned (.agg #[.bool s, .slice A k c]) ∧ Dg w' A k (dgs v) ∧ k ≤ c ∧ Below w.heap.size w w'
/-- A call's answer is a number with the digits of v, with a sign. -/
def NumS (w : World) (s : Bool) (v : Nat) (e : Ending) (w' : World) : Prop :=
  ∃ A k c, e = .returned (.agg #[.bool s, .slice A k c]) ∧ Dg w' A k (dgs v) ∧ k ≤ c ∧ Below w.heap.size w w'

theorem Dg.take {w : World} {n k : Nat} {A : Option Addr} {ds : List Nat} (h : Dg w A n ds) (hk : k ≤ n) : Dg w A k (ds.take k) := by
  refine ⟨by rw [List.length_take, h.1]; omega, by simp [nums, h.1]; omega, fun hpos => ?_⟩
  obtain ⟨a, e, hb, hc⟩ := h.2.2 (by omega)
  refine ⟨a, e, hb, fun j u hu => hc j u ?_⟩
  unfold nums at hu ⊢
  rw [List.map_take] at hu
  rw [List.getElem?_take] at hu
  split at hu
  · exact hu
  · cases hu
theorem trim_end {w wr : World} {g0 g1 n c k : Nat} {A : Option Addr} {ds : List Nat} {s s' : Bool} {u0 : Array Value} {x0 x1 : Value} {fn : Func} {t : Tmp} {a : Act} (hf : fn.results = #[.cell t 43]) (hp : a.tmps.getD t undef = .pointer (some ⟨g1, 0, none⟩)) (hdf : a.defers = [])
    (HB : Hid (NB w [(g1, 43, #[x0, x1]), (g0, 43, u0)] wr)) (hne : g0 ≠ g1) (hg : Dg w A n ds) (hk : k ≤ n) (hc : n ≤ c) (hcut : ds.take k = dgs (dval ds)) (hs : s' = (s && decide (0 < k))) (b : Bool) (v : Value) :
    bodyPost Tryd.prog fn (NumA w A c (s && decide (0 < dval ds)) (dval ds)) .ret a ((((wr.setCell ⟨g0, 1, none⟩ v).setCell ⟨g0, 0, none⟩ (.bool b)).setCell ⟨g1, 0, none⟩ (.bool s')).setCell ⟨g1, 1, none⟩ (.slice A k c)) := by
  have hb1 := (((NB.at_ HB (.head _)).far (p := ⟨g0, 1, none⟩) (fun e => hne e.symm) v).far (p := ⟨g0, 0, none⟩) (fun e => hne e.symm) (.bool b))
  have h0 := HB.out.ge (g0, _, u0) (.tail _ (.head _))
  have h1 := HB.out.ge (g1, _, _) (.head _)
  have hlow := (((HB.out.low.setCell (p := ⟨g0, 1, none⟩) h0 v).setCell (p := ⟨g0, 0, none⟩) h0 (.bool b)).setCell (p := ⟨g1, 0, none⟩) h1 (.bool s')).setCell (p := ⟨g1, 1, none⟩) h1 (.slice A k c)
  refine ret_num hf hp hdf (set_twoN hb1 _ _) ⟨k, ?_, ?_, by omega, hlow⟩
  · rw [hs]
    have e : decide (0 < k) = decide (0 < dval ds) := by
      rw [decide_eq_decide]
      have hlen : (ds.take k).length = k := by rw [List.length_take, hg.1]; omega
      constructor
      · intro h
        apply Nat.pos_of_ne_zero
        intro h0
        rw [h0, dgs_zero] at hcut
        rw [hcut] at hlen
        simp at hlen
        omega
      · intro h
        apply Nat.pos_of_ne_zero
        intro h0
        subst h0
        rw [List.take_zero] at hcut
        have := dgs_nil.1 hcut.symm
        omega
    rw [e]
  · rw [← hcut]
    exact (hg.take hk).below hlow

set_option maxHeartbeats 4000000 in
theorem trim_at {w : World} {n c : Nat} {A : Option Addr} {ds : List Nat} (s : Bool) (h : Dg w A n ds) (hd : DOk ds) (hn : n ≤ 1100) (hc : n ≤ c) :
    Calls Tryd.prog 36 #[.agg #[.bool s, .slice A n c]] w (NumA w A c (s && decide (0 < dval ds)) (dval ds)) := by
  have hl := h.1
  have HB := NB.add 43 #[.bool false, .slice none 0 0] (NB.add 43 #[.bool s, .slice A n c] (NB.nil w))
  have HG := hide h
  have HD := hide hd
  clear h hd
  go_enter Tryd.func36, Tryd.ntmps36
  go_upto_region 1 with (fail)
  obtain ⟨W, hW⟩ : ∃ W : World, W = ((w.alloc (.cells #[.bool s, .slice A n c] 43)).alloc (.cells #[.bool false, .slice none 0 0] 43)) := ⟨_, rfl⟩
  obtain ⟨g0, hg0⟩ : ∃ g, g = w.heap.size := ⟨_, rfl⟩
  obtain ⟨g1, hg1⟩ : ∃ g, g = (w.alloc (.cells #[.bool s, .slice A n c] 43)).heap.size := ⟨_, rfl⟩
  have hg1' : w.heap.size + 1 = g1 := by rw [hg1]; simp
  rw [← hW] at HB ⊢
  rw [← hg1, ← hg0] at HB
  try rw [hg1']
  try rw [← hg0]
  obtain ⟨c0, c1, e0, e1⟩ := two_cellsN (NB.at_ HB (.tail _ (.head _)))
  obtain ⟨d0, d1, f0, f1⟩ := two_cellsN (NB.at_ HB (.head _))
  have HDW := hide (HG.out.below HB.out.low)
  have hne : g0 ≠ g1 := by omega
  have hne2 : g1 ≠ g0 := by omega
  have HGG := hide (And.intro hg0 hg1')
  clear hW hg0 hg1 hg1'
  go_wp2_with fail
  go_loopw [3] (fun i wr => ∃ k : Nat, i = .int .i64 k ∧ k ≤ n ∧ (∀ j, k ≤ j → dg ds j = 0) ∧ wr = W) (fun i _ => (intOf i).toNat)
  case atStart => exact ⟨n, rfl, by omega, fun j hj => dg_over (by omega), rfl⟩
  case round =>
    obtain ⟨k, rfl, hk, hz, rfl⟩ := hrel
    have HZ := hide hz
    clear hz
    by_cases hk0 : k = 0
    · subst hk0
      go_wp2_with fail
      all_goals exact trim_end rfl rfl rfl HB hne HG.out hk hc (dg_cut HD.out 0 (by omega) HZ.out (.inl rfl)) (by simp) _ _
    · obtain ⟨b, off, rfl, hc2⟩ := HDW.out.at_ (k := k - 1) (by omega)
      have hcut := dg_cut (l := ds) HD.out k (by omega) HZ.out
      obtain ⟨x, hx⟩ : ∃ x, x = dg ds (k - 1) := ⟨_, rfl⟩
      rw [← hx] at hc2 hcut
      have HX := hide hx
      have HC := hide hcut
      clear hx hcut
      have hw1 : IntKind.i64.wrap ((k : Int) - 1) = ((k - 1 : Nat) : Int) := by rw [IntKind.wrap_i64]; omega
      have hsub : (k : Int) - 1 = ((k - 1 : Nat) : Int) := by omega
      by_cases hx0 : x = 0
      · subst hx0
        go_wp2_with fail
        go_roundw
        case rel => exact ⟨k - 1, by go_num, by omega, fun j hj => by
          by_cases hj2 : j = k - 1
          · rw [hj2, ← HX.out]
          · exact HZ.out j (by omega), trivial⟩
        case measure => simp [intOf]; omega
      · go_wp2_with fail
        all_goals exact trim_end rfl rfl rfl HB hne HG.out hk hc (HC.out (.inr hx0)) (by rw [decide_eq_true (by omega : 0 < k), Bool.and_true]; simp_all) _ _
theorem rtrim_any {w : World} {n c : Nat} {A : Option Addr} {ds : List Nat} (s : Bool) (h : Dg w A n ds) (hd : DOk ds) (hn : n ≤ 1100) (hc : n ≤ c) :
    Calls Tryd.prog 36 #[.agg #[.bool s, .slice A n c]] w (NumS w (s && decide (0 < dval ds)) (dval ds)) := (trim_at s h hd hn hc).mono fun _ _ ⟨k, h1, h2, h3, h4⟩ => ⟨A, k, c, h1, h2, h3, h4⟩
end Go.Proofs.YtgleldpdelhhhaaDoor
