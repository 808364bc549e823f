/- The reference's numbers: what Quo answers; conditions: the digits' cells are in memory, and the second number isn't 0. -/
import Derived.Test.YtgleldpdelhhhaaDoorDig7
namespace Go.Proofs.YtgleldpdelhhhaaDoor
open Go.RowKit Go.WideShapes Go.ChangeShapes
set_option linter.unusedVariables false
set_option maxRecDepth 100000

theorem own_one (w : World) (x : Nat) : (w.alloc (.cells #[.int .i64 (x : Int)] 3)).ownsRow w.heap.size 3 1 (.slice (some ⟨w.heap.size, 0, none⟩) 1 1) 1 (nums [x]) :=
  ⟨by simp [nums], .inr ⟨w.heap.size, 1, _, rfl, Nat.le_refl _, heap_alloc_new w _, Nat.le_refl _, by simp [maxLen], by simp, by simp [nums]⟩⟩
theorem dgs_cons (x R : Nat) : dval (x :: dgs R) = x + 10 * R := by rw [dval, dgs_val]
theorem nums_cons (x : Nat) (l : List Nat) : nums [x] ++ nums l = nums (x :: l) := rfl
theorem dok_cons {x : Nat} {l : List Nat} (h : x < 10) (hl : DOk l) : DOk (x :: l) := fun d hd => by
  rcases List.mem_cons.1 hd with rfl | hd
  · exact h
  · exact hl d hd

def QuoPost (w : World) (x y : Int) (e : Ending) (w' : World) : Prop :=
  ∃ A k c A' k' c', e = .returned (.tuple #[.agg #[.bool (decide (x.tdiv y < 0)), .slice A k c], .agg #[.bool (decide (x.tmod y < 0)), .slice A' k' c']]) ∧ Dg w' A k (dgs (x.tdiv y).natAbs) ∧ k ≤ c ∧ Dg w' A' k' (dgs (x.tmod y).natAbs) ∧ k' ≤ c' ∧ Below w.heap.size w w'

/-- What Quo's loop keeps. -/
def QuoRel (w : World) (gs : List (Nat × TypeId × Array Value)) (g n X B : Nat) (D : List Nat) (r i : Value) (wr : World) : Prop :=
  ∃ (k R k1 c1 : Nat) (A1 : Option Addr) (qs : List Nat), i = .int .i64 ((k : Int) - 1) ∧ r = .slice A1 k1 c1 ∧ k ≤ n ∧ Dg wr A1 k1 (dgs R) ∧ k1 ≤ c1 ∧ (∀ b off sp, A1 = some ⟨b, off, sp⟩ → g < b) ∧ R < B ∧ Nb w wr g n 9 qs ∧ (∀ j, j < k → dg qs j = 0) ∧ dval (D.drop k) = dval (qs.drop k) * B + R ∧ Hid (NB w gs wr)

def QuoIn (w : World) (gs : List (Nat × TypeId × Array Value)) (g n B V k Dq : Nat) (r : Value) (wr : World) : Prop :=
  ∃ (t R k1 c1 : Nat) (A1 : Option Addr) (qs : List Nat), r = .slice A1 k1 c1 ∧ Dg wr A1 k1 (dgs R) ∧ k1 ≤ c1 ∧ (∀ b off sp, A1 = some ⟨b, off, sp⟩ → g < b) ∧ t * B + R = V ∧ Nb w wr g n 9 qs ∧ dg qs k = t ∧ (∀ j, j < k → dg qs j = 0) ∧ dval (qs.drop (k + 1)) = Dq ∧ Hid (NB w gs wr)
theorem NB.far {w wr : World} {gs : List (Nat × TypeId × Array Value)} (h : Hid (NB w gs wr)) {g i : Nat} (hn : ∀ p ∈ gs, p.1 ≠ g) (hg : w.heap.size ≤ g) (v : Value) : Hid (NB w gs (wr.setCell ⟨g, i, none⟩ v)) :=
  hide ⟨fun p hp => (h.out.bl p hp).far (p := ⟨g, i, none⟩) (hn p hp) v, h.out.low.setCell (p := ⟨g, i, none⟩) hg v, h.out.ge⟩
theorem Nb.below {w wr w' : World} {g L most : Nat} {ls : List Nat} (h : Nb w wr g L most ls) (hb : Below wr.heap.size wr w') : Nb w w' g L most ls :=
  ⟨h.1.below hb h.1.lt, h.2.1, h.2.2.1, h.2.2.2.1.trans (hb.mono h.2.2.2.1.size), h.2.2.2.2⟩
theorem drop_set (ls : List Nat) (k x : Nat) : (ls.set k x).drop (k + 1) = ls.drop (k + 1) := by
  rw [List.drop_set]
  simp
def cellN (wr : World) (g k : Nat) : Nat := (intOf ((wr.cell? ⟨g, k, none⟩).getD undef)).toNat
theorem nb_cellN {w wr : World} {g L most k : Nat} {ls : List Nat} (h : Nb w wr g L most ls) (hk : k < L) : cellN wr g k = dg ls k := by
  unfold cellN
  rw [h.1.cell k, nums_at (by rw [h.2.1]; exact hk)]
  simp [intOf]

theorem put2_dg {w : World} {n g n0 c0 k1 c1 : Nat} {A A0 A1 : Option Addr} {ds : List Nat} {t : TypeId} {b0 s : Bool} (h : Dg w A n ds) (hb : Blk w g t #[.bool b0, .slice A0 n0 c0]) : Dg ((w.setCell ⟨g, 0, none⟩ (.bool s)).setCell ⟨g, 1, none⟩ (.slice A1 k1 c1)) A n ds := by
  have hb2 : Blk (w.setCell ⟨g, 0, none⟩ (.bool s)) g t #[.bool s, .slice A0 n0 c0] := by have h := hb.set_ 0 (.bool s); simpa using h
  refine (h.setOther hb ?_ _).setOther hb2 ?_ _
  · intro u hu z
    simp at hu
    rcases hu with rfl | rfl <;> simp
  · intro u hu z
    simp at hu
    rcases hu with rfl | rfl <;> simp
theorem quo_end {w wb : World} {x y : Int} {g2 g3 k c k' c' v v' : Nat} {A A' : Option Addr} {s s' : Bool} {gs : List (Nat × TypeId × Array Value)} {fn : Func} {t t' : Tmp} {a : Act} (hf : fn.results = #[.cell t NumT, .cell t' NumT]) (hp : a.tmps.getD t undef = .pointer (some ⟨g2, 0, none⟩)) (hp' : a.tmps.getD t' undef = .pointer (some ⟨g3, 0, none⟩)) (hdf : a.defers = [])
    (HB : Hid (NB w gs wb)) (h2 : (g2, NumT, #[.bool false, .slice none 0 0]) ∈ gs) (h3 : (g3, NumT, #[.bool false, .slice none 0 0]) ∈ gs) (hne : g2 ≠ g3) (hd1 : Dg wb A k (dgs v)) (hk : k ≤ c) (hd2 : Dg wb A' k' (dgs v')) (hk' : k' ≤ c') (hs : s = decide (x.tdiv y < 0)) (hv : v = (x.tdiv y).natAbs) (hs' : s' = decide (x.tmod y < 0)) (hv' : v' = (x.tmod y).natAbs) :
    bodyPost Tryd.prog fn (QuoPost w x y) .ret a ((((wb.setCell ⟨g2, 0, none⟩ (.bool s)).setCell ⟨g2, 1, none⟩ (.slice A k c)).setCell ⟨g3, 0, none⟩ (.bool s')).setCell ⟨g3, 1, none⟩ (.slice A' k' c')) := by
  subst hs hv hs' hv'
  have b2 := NB.at_ HB h2
  have b3 := NB.at_ HB h3
  have e2 := HB.out.ge _ h2
  have e3 := HB.out.ge _ h3
  have b3' := (b3.far (p := ⟨g2, 0, none⟩) (fun e => hne e.symm) (.bool (decide (x.tdiv y < 0)))).far (p := ⟨g2, 1, none⟩) (fun e => hne e.symm) (.slice A k c)
  have r2 := ((set_twoN b2 (.bool (decide (x.tdiv y < 0))) (.slice A k c)).far (p := ⟨g3, 0, none⟩) hne (.bool (decide (x.tmod y < 0)))).far (p := ⟨g3, 1, none⟩) hne (.slice A' k' c')
  exact ret_num2 hf hp hp' hdf r2 (set_twoN b3' _ _) ⟨A, k, c, A', k', c', rfl, put2_dg (put2_dg hd1 b2) b3', hk, put2_dg (put2_dg hd2 b2) b3', hk', (((HB.out.low.setCell (p := ⟨g2, 0, none⟩) e2 _).setCell (p := ⟨g2, 1, none⟩) e2 _).setCell (p := ⟨g3, 0, none⟩) e3 _).setCell (p := ⟨g3, 1, none⟩) e3 _⟩
theorem quo_is {X B q R : Nat} (h : X = q * B + R) (hR : R < B) : q = X / B ∧ R = X % B := by
  have h1 : X / B = q := by
    rw [h, Nat.mul_comm, Nat.mul_add_div (by omega), Nat.div_eq_of_lt hR, Nat.add_zero]
  have h2 : X % B = R := by
    rw [h, Nat.mul_comm, Nat.mul_add_mod, Nat.mod_eq_of_lt hR]
  exact ⟨h1.symm, h2.symm⟩
theorem quo_sign {x y : Int} {s s' : Bool} {q : Nat} (h1 : s = decide (x < 0)) (h2 : s' = decide (y < 0)) (hy : y ≠ 0) (hq : q = x.natAbs / y.natAbs) : ((s != s') && decide (0 < q)) = decide (x.tdiv y < 0) := by
  have hn := Int.natAbs_tdiv x y
  have hn2 : (x.tdiv y).natAbs = q := by rw [hq]; exact hn
  subst h1 h2
  rw [Bool.eq_iff_iff]
  by_cases hq0 : q = 0
  · rw [hq0] at hn2
    have : x.tdiv y = 0 := by omega
    rw [this, hq0]; simp
  · rcases Int.lt_or_le x 0 with hx | hx <;> rcases Int.lt_or_lt_of_ne hy with hy2 | hy2
    · have h3 : 0 ≤ x.tdiv y := by
        have h4 := Int.tdiv_nonneg (a := -x) (b := -y) (by omega) (by omega)
        rw [Int.neg_tdiv_neg] at h4
        exact h4
      simp [hx, hy2]; omega
    · have h3 : x.tdiv y ≤ 0 := by
        have h4 := Int.tdiv_nonneg (a := -x) (b := y) (by omega) (by omega)
        rw [Int.neg_tdiv] at h4
        omega
      have : ¬ y < 0 := by omega
      simp [hx, this]; omega
    · have h3 : x.tdiv y ≤ 0 := by
        have h4 := Int.tdiv_nonneg (a := x) (b := -y) (by omega) (by omega)
        rw [Int.tdiv_neg] at h4
        omega
      have : ¬ x < 0 := by omega
      simp [hy2, this]; omega
    · have h3 : 0 ≤ x.tdiv y := Int.tdiv_nonneg hx (by omega)
      have a1 : ¬ x < 0 := by omega
      have a2 : ¬ y < 0 := by omega
      simp [a1, a2]; omega
theorem rem_sign {x y : Int} {s : Bool} {R : Nat} (h1 : s = decide (x < 0)) (hR : R = x.natAbs % y.natAbs) : (s && decide (0 < R)) = decide (x.tmod y < 0) ∧ R = (x.tmod y).natAbs := by
  have hn : (x.tmod y).natAbs = R := by rw [hR]; exact Int.natAbs_tmod x y
  refine ⟨?_, hn.symm⟩
  subst h1
  rw [Bool.eq_iff_iff]
  rcases Int.lt_or_le x 0 with hx | hx
  · have h3 : x.tmod y ≤ 0 := by
      have := Int.tmod_nonneg (a := -x) y (by omega)
      rw [Int.neg_tmod] at this
      omega
    simp [hx]; omega
  · have h3 := Int.tmod_nonneg (a := x) y hx
    have : ¬ x < 0 := by omega
    simp [this]; omega

set_option maxHeartbeats 16000000 in
theorem ref_quo {w : World} {n m c c' : Nat} {A A' : Option Addr} (x y : Int) (h : Dg w A n (dgs x.natAbs)) (h' : Dg w A' m (dgs y.natAbs)) (hn : n ≤ 400) (hm : m ≤ 400) (hc : n ≤ c) (hc' : m ≤ c') (hy0 : y ≠ 0) :
    Calls Tryd.prog 54 #[.agg #[.bool (decide (x < 0)), .slice A n c], .agg #[.bool (decide (y < 0)), .slice A' m c']] w (QuoPost w x y) := by
  obtain ⟨s, hs⟩ : ∃ s, s = decide (x < 0) := ⟨_, rfl⟩
  obtain ⟨s', hs'⟩ : ∃ s, s = decide (y < 0) := ⟨_, rfl⟩
  rw [← hs, ← hs']
  have HB := NB.add NumT #[.bool false, .slice none 0 0] (NB.add NumT #[.bool false, .slice none 0 0] (NB.add NumT #[.bool s', .slice A' m c'] (NB.add NumT #[.bool s, .slice A n c] (NB.nil w))))
  have HG := hide h
  have HG' := hide h'
  have HS := hide (And.intro hs hs')
  have HY0 := hide hy0
  have hBm : y.natAbs < 10 ^ m := by have h1 := dval_lt (dgs_dok y.natAbs); rw [dgs_val, h'.1] at h1; exact h1
  have HBM := hide hBm
  have hln := h.1
  have hmk := fun W => make_nums n (by omega) W
  have hfl : ∀ (b : Bool) (A : Option Addr) (k c : Nat) (W : World), (Instr.field NumT (.agg #[.bool b, .slice A k c]) 1).run Tryd.prog W = .ok (.slice A k c) W := fun _ _ _ _ _ => by kernel_rfl
  obtain ⟨i0, hi0, hz0, hz1, hz2⟩ := info_parts intInfoD
  clear h h' hs hs' hy0 hBm
  go_enter Tryd.func54, Tryd.ntmps54
  go_upto_region 1 with (fail)
  obtain ⟨W, hW⟩ : ∃ W : World, W = ((((w.alloc (.cells #[.bool s, .slice A n c] NumT)).alloc (.cells #[.bool s', .slice A' m c'] NumT)).alloc (.cells #[.bool false, .slice none 0 0] NumT)).alloc (.cells #[.bool false, .slice none 0 0] NumT)) := ⟨_, rfl⟩
  obtain ⟨g0, hg0⟩ : ∃ g, g = w.heap.size := ⟨_, rfl⟩
  obtain ⟨g1, hg1⟩ : ∃ g, g = (w.alloc (.cells #[.bool s, .slice A n c] NumT)).heap.size := ⟨_, rfl⟩
  obtain ⟨g2, hg2⟩ : ∃ g, g = ((w.alloc (.cells #[.bool s, .slice A n c] NumT)).alloc (.cells #[.bool s', .slice A' m c'] NumT)).heap.size := ⟨_, rfl⟩
  obtain ⟨g3, hg3⟩ : ∃ g, g = (((w.alloc (.cells #[.bool s, .slice A n c] NumT)).alloc (.cells #[.bool s', .slice A' m c'] NumT)).alloc (.cells #[.bool false, .slice none 0 0] NumT)).heap.size := ⟨_, rfl⟩
  have hg1' : w.heap.size + 1 = g1 := by rw [hg1]; simp
  have hg2' : w.heap.size + 1 + 1 = g2 := by rw [hg2]; simp
  have hg3' : w.heap.size + 1 + 1 + 1 = g3 := by rw [hg3]; simp
  have hgW : W.heap.size = g3 + 1 := by rw [hW, World.size_alloc]; omega
  rw [← hW] at HB ⊢
  rw [← hg3, ← hg2, ← hg1, ← hg0] at HB
  try rw [hg3']
  try rw [hg2']
  try rw [hg1']
  try rw [← hg0]
  clear hW
  obtain ⟨g, hg⟩ : ∃ g, g = W.heap.size := ⟨_, rfl⟩
  have HN0 := hide (show Nb w ((W.alloc (.cells (nums (List.replicate n 0)).toArray 3)).alloc (.cells #[] 3)) g n 9 (List.replicate n 0) by
    rw [hg]
    exact ⟨(Blk.new _ _ _).alloc _, by simp, fun i => by rw [dg_rep]; omega, (HB.out.low.alloc HB.out.low.size _).alloc (by have := HB.out.low.size; simp; omega) _, HB.out.low.size⟩)
  have HB1 := NB.next (w := w) (((Below.refl W.heap.size W).alloc (Nat.le_refl _) (.cells (nums (List.replicate n 0)).toArray 3)).alloc (by simp) (.cells #[] 3)) HB
  obtain ⟨c0, c1, e0, e1⟩ := two_cellsN (NB.at_ HB (.tail _ (.tail _ (.tail _ (.head _)))))
  have d1 : (W.alloc (.cells (nums (List.replicate n 0)).toArray 3)).cell? ⟨g0, 1, none⟩ = some (.slice A n c) := by
    rw [World.cell?_alloc_lt W _ ⟨g0, 1, none⟩ (by show g0 < W.heap.size; omega)]; exact c1
  have d2 : ((W.alloc (.cells (nums (List.replicate n 0)).toArray 3)).alloc (.cells #[] 3)).cell? ⟨g0, 1, none⟩ = some (.slice A n c) := by
    rw [World.cell?_alloc_lt _ _ ⟨g0, 1, none⟩ (by simp; omega)]; exact d1
  obtain ⟨gs, hgs⟩ : ∃ gs : List (Nat × TypeId × Array Value), gs = [(g3, NumT, #[.bool false, .slice none 0 0]), (g2, NumT, #[.bool false, .slice none 0 0]), (g1, NumT, #[.bool s', .slice A' m c']), (g0, NumT, #[.bool s, .slice A n c])] := ⟨_, rfl⟩
  rw [← hgs] at HB1
  have HX := hide (show ∀ wr, Hid (NB w gs wr) → wr.cell? ⟨g0, 0, none⟩ = some (.bool s) ∧ wr.cell? ⟨g0, 1, none⟩ = some (.slice A n c) ∧ wr.cell? ⟨g1, 0, none⟩ = some (.bool s') ∧ wr.cell? ⟨g1, 1, none⟩ = some (.slice A' m c') from fun wr hb => by
    rw [hgs] at hb
    exact ⟨(NB.at_ hb (.tail _ (.tail _ (.tail _ (.head _))))).cell 0, (NB.at_ hb (.tail _ (.tail _ (.tail _ (.head _))))).cell 1, (NB.at_ hb (.tail _ (.tail _ (.head _)))).cell 0, (NB.at_ hb (.tail _ (.tail _ (.head _)))).cell 1⟩)
  have HGN := hide (show ∀ p ∈ gs, p.1 ≠ g from fun p hp => by
    rw [hgs] at hp
    simp at hp
    rcases hp with rfl | rfl | rfl | rfl <;> simp <;> omega)
  have HGS := hide hgs
  have HGE := hide (And.intro hg0 (And.intro hg1' (And.intro hg2' (And.intro hg3' (show g = g3 + 1 by omega)))))
  clear hgs hg0 hg1 hg1' hg2 hg2' hg3 hg3' hgW
  go_wp2_with fail
  rw [← hg]
  clear hg
  go_loopw [7, 8] (fun r i wr => QuoRel w gs g n x.natAbs y.natAbs (dgs x.natAbs) r i wr) (fun _ i _ => (intOf i + 1).toNat)
  case atStart => exact ⟨n, 0, 0, 0, _, _, rfl, rfl, Nat.le_refl _, ⟨rfl, rfl, fun h => by omega⟩, Nat.le_refl _, fun b off sp e => by
    simp only [Option.some.injEq, Addr.mk.injEq] at e
    omega, by have := HY0.out; omega, HN0.out, fun j _ => dg_rep _ _, by rw [dval_over _ n (by omega), dval_over _ n (by simp)]; simp, HB1⟩
  case round =>
    obtain ⟨k, R, k1, cp1, A1, qs, rfl, rfl, hk, hR, hk1, hfr, hRB, hnb, hz, hv, HB2⟩ := hrel
    cases k with
    | zero =>
      have HQ := hide (And.intro hR (And.intro hk1 (And.intro hfr (And.intro hRB (And.intro hnb hv)))))
      have HBD := NB.drew HB2
      have hk1m : k1 ≤ 401 := by
        have h1 := dgs_len R m (by have := HBM.out; omega)
        have h2 := hR.1
        omega
      have hqr := quo_is (X := x.natAbs) (q := dval qs) (B := y.natAbs) (R := R) (by rw [List.drop_zero, List.drop_zero, dgs_val] at hv; exact hv) hRB
      have HTQ := hide (trim_at (!(s == s')) hnb.drew.dg (dok_of_dg fun i => by have := hnb.2.2.1 i; omega) (by omega) (Nat.le_refl n))
      have HTR := hide (fun (W : World) (hb : Below wr.drew.heap.size wr.drew W) => trim_at s (Dg.below (w := wr.drew) hR hb) (dgs_dok R) (by omega) hk1)
      rw [dgs_val] at HTR
      have HXF := hide (fun (W : World) (q : Nat) (v v' : Value) (h0 : q ≠ g0) (h1 : q ≠ g1) (h : W.cell? ⟨g0, 0, none⟩ = some (.bool s) ∧ W.cell? ⟨g0, 1, none⟩ = some (.slice A n c) ∧ W.cell? ⟨g1, 0, none⟩ = some (.bool s') ∧ W.cell? ⟨g1, 1, none⟩ = some (.slice A' m c')) =>
        (show ((W.setCell ⟨q, 0, none⟩ v).setCell ⟨q, 1, none⟩ v').cell? ⟨g0, 0, none⟩ = some (.bool s) ∧ ((W.setCell ⟨q, 0, none⟩ v).setCell ⟨q, 1, none⟩ v').cell? ⟨g0, 1, none⟩ = some (.slice A n c) ∧ ((W.setCell ⟨q, 0, none⟩ v).setCell ⟨q, 1, none⟩ v').cell? ⟨g1, 0, none⟩ = some (.bool s') ∧ ((W.setCell ⟨q, 0, none⟩ v).setCell ⟨q, 1, none⟩ v').cell? ⟨g1, 1, none⟩ = some (.slice A' m c') from by
          have k0 := (Below.heap_setCell (W.setCell ⟨q, 0, none⟩ v) ⟨q, 1, none⟩ v' g0 (fun e => h0 e.symm)).trans (Below.heap_setCell W ⟨q, 0, none⟩ v g0 (fun e => h0 e.symm))
          have k1 := (Below.heap_setCell (W.setCell ⟨q, 0, none⟩ v) ⟨q, 1, none⟩ v' g1 (fun e => h1 e.symm)).trans (Below.heap_setCell W ⟨q, 0, none⟩ v g1 (fun e => h1 e.symm))
          exact ⟨(World.cell?_of_block (a := ⟨g0, 0, none⟩) k0).trans h.1, (World.cell?_of_block (a := ⟨g0, 1, none⟩) k0).trans h.2.1, (World.cell?_of_block (a := ⟨g1, 0, none⟩) k1).trans h.2.2.1, (World.cell?_of_block (a := ⟨g1, 1, none⟩) k1).trans h.2.2.2⟩))
      have hne : g2 ≠ g0 ∧ g2 ≠ g1 ∧ g3 ≠ g0 ∧ g3 ≠ g1 ∧ g2 ≠ g3 := by obtain ⟨h0, h1, h2, h3, _⟩ := HGE.out; omega
      obtain ⟨n20, n21, n30, n31, n23⟩ := hne
      have HQR := hide hqr
      have hm2 : (g2, NumT, #[.bool false, .slice none 0 0]) ∈ gs := by rw [HGS.out]; exact .tail _ (.head _)
      have hm3 : (g3, NumT, #[.bool false, .slice none 0 0]) ∈ gs := by rw [HGS.out]; exact .head _
      have HM := hide (And.intro hm2 hm3)
      clear hR hk1 hfr hRB hnb hz hv hqr hm2 hm3 hfl hmk
      go_wp2_with fail
      go_region_held3 (fun w' => w'.cell? ⟨g0, 0, none⟩ = some (.bool s) ∧ w'.cell? ⟨g0, 1, none⟩ = some (.slice A n c) ∧ w'.cell? ⟨g1, 0, none⟩ = some (.bool s') ∧ w'.cell? ⟨g1, 1, none⟩ = some (.slice A' m c'))
        (first
          | exact HX.out _ (by assumption)
          | exact HXF.out _ _ _ _ n20 n21 (HX.out _ (by assumption))
          | exact HXF.out _ _ _ _ n30 n31 (HX.out _ (by assumption))
          | exact HXF.out _ _ _ _ n30 n31 (HXF.out _ _ _ _ n20 n21 (HX.out _ (by assumption)))
          | exact HXF.out _ _ _ _ n20 n21 (HXF.out _ _ _ _ n30 n31 (HX.out _ (by assumption))))
        (first
          | (go_at_call 36; (with_reducible refine HTQ.out.mono ?_); rintro e wa ⟨ka, rfl, hda, hka, hba⟩; have hma := NB.next hba HBD)
          | (go_at_call 36; (with_reducible refine (HTR.out _ hba).mono ?_); rintro e wb ⟨kb, rfl, hdb, hkb, hbb⟩; have hmb := NB.next hbb hma; obtain ⟨z0, z1, y0, y1⟩ := two_cellsN (NB.at_ hmb HM.out.1); obtain ⟨z2, z3, y2, y3⟩ := two_cellsN (NB.at_ hmb HM.out.2)))
      all_goals go_wp2_with fail
      all_goals exact quo_end rfl rfl rfl rfl hmb HM.out.1 HM.out.2 n23 (hda.below hbb) hka hdb hkb (quo_sign HS.out.1 HS.out.2 HY0.out HQR.out.1) (by rw [HQR.out.1]; exact (Int.natAbs_tdiv x y).symm) (rem_sign HS.out.1 HQR.out.2).1 (rem_sign HS.out.1 HQR.out.2).2
    | succ k =>
      obtain ⟨q0, q1, q2, q3⟩ := HX.out _ HB2
      obtain ⟨ba, oa, rfl, ca⟩ := (HG.out.nbelow (w' := w) HB2).at_ (k := k) (by omega)
      have hk1m : k1 ≤ 401 := by
        have h1 := dgs_len R m (by have := HBM.out; omega)
        have h2 := hR.1
        omega
      have bd := (dgs_dok x.natAbs).dg k
      have hgl := hnb.1.lt
      have hdd := dg_drop (dgs x.natAbs) k
      obtain ⟨a, ha⟩ : ∃ a, a = dg (dgs x.natAbs) k := ⟨_, rfl⟩
      rw [← ha] at ca bd hdd
      have HR := hide (And.intro hR (And.intro hk1 (And.intro hfr (And.intro hRB (And.intro hz (And.intro hv hdd))))))
      have HN := hide hnb
      clear hR hk1 hfr hRB hnb hz hv hdd ha
      rw [show (((k + 1 : Nat) : Int) - 1) = (k : Int) by omega]
      go_wp2_with (at_builtin; refine wpList_append_any _ rfl (.tmp 27) (.tmp 28) _ rfl wr.heap.size 3 i0 _ 1 8 Tryd.underlying41 hi0 hz0 hz1 hz2 rfl (by omega) (.slice (some ⟨wr.heap.size, 0, none⟩) 1 1) 1 (nums [a]) rfl (own_one wr a) (wr.alloc (.cells #[.int .i64 (a : Int)] 3)).heap.size A1 k1 cp1 (nums (dgs R)) rfl (HR.out.1.alloc _).2 (nums_one _) (by simp only [maxLen]; omega) (by omega) (by simp) ?_; intro v1 w1 hown1 hg1 hat1; obtain ⟨A2, cp2, rfl⟩ := own_formD hown1; have HO1 := hide hown1; have HL1 := hide (show Below wr.heap.size wr w1 from ((Below.refl _ _).alloc (Nat.le_refl _) _).grown hg1 (by simp) (fun k hk => ((own_one wr a).lt k hk).1)); clear hown1 hg1 hat1)
      have hTR := trim_at false (Dg.own (by simp [HR.out.1.1]; omega) (by rw [nums_cons] at HO1; exact HO1.out)) (dok_cons bd (dgs_dok R)) (by omega) (own_capD HO1.out)
      rw [dgs_cons, Bool.false_and] at hTR
      have HTR := hide hTR
      have HN1 := hide (HN.out.below HL1.out)
      have HB3 := NB.next HL1.out HB2
      have HF1 := hide (fun b off sp e => Nat.lt_of_lt_of_le hgl (own_fresh HO1.out b off sp e))
      clear hTR q0 q1 q2 q3 ca hgl
      refine HTR.out.mono ?_
      rintro e w2 ⟨k2, rfl, hd2, hk2, hb2⟩
      have HN2 := hide (HN1.out.below hb2)
      have HB4 := NB.next hb2 HB3
      have HD2 := hide (And.intro hd2 hk2)
      clear hd2 hk2 hb2
      go_wp2_with fail
      go_loopw [7] (fun r wr => QuoIn w gs g n y.natAbs (a + 10 * R) k (dval (qs.drop (k + 1))) r wr) (fun _ wr => 10 - cellN wr g k)
      case atStart => exact ⟨0, a + 10 * R, k2, cp2, A2, qs, rfl, HD2.out.1, HD2.out.2, HF1.out, by simp, HN2.out, HR.out.2.2.2.2.1 k (by omega), fun j hj => HR.out.2.2.2.2.1 j (by omega), rfl, HB4⟩
      case round =>
        obtain ⟨t, R2, k3, cp3, A3, qs2, rfl, hR2, hk3, hfr, hV, hnb, ht, hz, hq, HB5⟩ := hrel
        obtain ⟨q0, q1, q2, q3⟩ := HX.out _ HB5
        have hk3m : k3 ≤ 402 := by
          have h1 := dgs_len R2 (m + 1) (by have := HBM.out; have := HR.out.2.2.2.1; rw [Nat.pow_succ]; omega)
          have h2 := hR2.1
          omega
        have hMO := more_any hR2 (HG'.out.nbelow (w' := w) HB5) (dgs_dok _) (dgs_dok _) (by omega) (by omega) (c := cp3) (c' := c')
        rw [dgs_val, dgs_val] at hMO
        by_cases hlt : R2 < y.natAbs
        · have ho : ordN R2 y.natAbs = -1 := by unfold ordN; rw [if_pos hlt]
          rw [ho] at hMO
          have HMO := hide hMO
          have HQ := hide (And.intro hR2 (And.intro hk3 (And.intro hfr (And.intro hV (And.intro hnb (And.intro ht (And.intro hz hq)))))))
          clear hMO hR2 hk3 hfr hV hnb ht hz hq ho
          go_wp2_with (refine HMO.out.mono ?_; rintro e w9 ⟨rfl, rfl⟩)
          go_roundw
          case rel => exact ⟨k, R2, k3, cp3, A3, qs2, by go_num, rfl, by omega, HQ.out.1, HQ.out.2.1, HQ.out.2.2.1, hlt, HQ.out.2.2.2.2.1, HQ.out.2.2.2.2.2.2.1, by
            obtain ⟨_, _, _, h4, _, h6, _, h8⟩ := HQ.out
            obtain ⟨_, _, _, _, _, r6, r7⟩ := HR.out
            rw [r7, r6, dg_drop qs2 k, h6, h8, Nat.mul_add, Nat.add_mul, Nat.mul_assoc]
            omega, HB5⟩
          case measure => simp [intOf]
        · have ho : ordN R2 y.natAbs = 0 ∨ ordN R2 y.natAbs = 1 := by unfold ordN; rw [if_neg hlt]; by_cases h : R2 = y.natAbs <;> simp [h]
          have ht9 : t + 1 ≤ 9 := by
            apply Decidable.byContradiction
            intro h
            have h1 : 9 * y.natAbs ≤ t * y.natAbs := Nat.mul_le_mul_right _ (by omega)
            have h2 := HR.out.2.2.2.1
            omega
          have hMI := minus_fresh hR2 (HG'.out.nbelow (w' := w) HB5) (dgs_dok _) (dgs_dok _) (by omega) (by omega) (by rw [dgs_val, dgs_val]; omega) (c := cp3) (c' := c')
          rw [dgs_val, dgs_val] at hMI
          have HMI := hide hMI
          have hgl2 := hnb.1.lt
          have HQ := hide (And.intro hV (And.intro ht (And.intro hz hq)))
          have HNB := hide hnb
          clear hR2 hk3 hfr hV hnb ht hz hq hMI
          rcases ho with ho | ho
          all_goals
            rw [ho] at hMO
            have HMO := hide hMO
            clear hMO
            go_wp2_with (first
              | (go_at_call 56; (with_reducible refine HMO.out.mono ?_); rintro e w9 ⟨rfl, rfl⟩)
              | (go_at_call 42; (with_reducible refine HMI.out.mono ?_); rintro e w3 ⟨A4, k4, cp4, ds4, rfl, hd4, ok4, hk4, hc4, hv4, hb4, hf4⟩))
            have hT4 := trim_at false hd4 ok4 (by omega) hc4
            rw [hv4, Bool.false_and] at hT4
            have HT4 := hide hT4
            have HF4 := hide (fun b off sp e => Nat.lt_of_lt_of_le hgl2 (hf4 b off sp e))
            have HN4 := hide (HNB.out.below hb4)
            have HB6 := NB.next hb4 HB5
            clear hT4 hd4 ok4 hk4 hc4 hv4 hb4 hf4 q0 q1 q2 q3
            refine HT4.out.mono ?_
            rintro e w4 ⟨k5, rfl, hd5, hk5, hb5⟩
            have HN5 := hide (HN4.out.below hb5)
            have HB7 := NB.next hb5 HB6
            have HD5 := hide (And.intro hd5 hk5)
            clear hd5 hk5 hb5
            have x1 := HN5.out.1.cell k
            rw [nums_at (by rw [HN5.out.2.1]; omega), HQ.out.2.1] at x1
            have x2 := HN5.out.1.frozen k
            have e2 : IntKind.i64.wrap ((t : Int) + 1) = (t : Int) + 1 := IntWalk.i64_in _ (by omega)
            have e5 : (k : Int) < (n : Int) := by omega
            go_wp2_with fail
            have HN6 := hide (HN5.out.put (most' := 9) (j := k) (x := t + 1) (by omega) ht9 (Nat.le_refl _))
            go_roundw
            case rel => exact ⟨t + 1, R2 - y.natAbs, k5, cp4, A4, qs2.set k (t + 1), rfl, HD5.out.1.setFar HF4.out _, HD5.out.2, HF4.out, by
              have h1 := HQ.out.1
              rw [Nat.succ_mul]
              omega, HN6.out, by rw [dg_set _ _ _ k (by rw [HN5.out.2.1]; omega), if_pos rfl], fun j hj => by rw [dg_set _ _ _ j (by rw [HN5.out.2.1]; omega), if_neg (by omega)]; exact HQ.out.2.2.1 j hj, by rw [drop_set]; exact HQ.out.2.2.2, NB.far HB7 HGN.out HN5.out.2.2.2.2 _⟩
            case measure =>
              have m1 := nb_cellN HN6.out (k := k) (by omega)
              have m2 := nb_cellN HNB.out (k := k) (by omega)
              rw [dg_set _ _ _ k (by rw [HN5.out.2.1]; omega), if_pos rfl] at m1
              rw [HQ.out.2.1] at m2
              show 10 - cellN _ g k < 10 - cellN _ g k
              rw [m2]
              first
                | (rw [m1]; omega)
                | (have m3 : cellN (w4.setCell ⟨g, k, none⟩ (.int .i64 ((t : Int) + 1))) g k = t + 1 := m1; rw [m3]; omega)
end Go.Proofs.YtgleldpdelhhhaaDoor
