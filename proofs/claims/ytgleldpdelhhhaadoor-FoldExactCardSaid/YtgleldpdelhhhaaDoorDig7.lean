/- The reference's numbers: what Mul and Quo answer; conditions: the digits' cells are in memory. -/
import Derived.Test.YtgleldpdelhhhaaDoorDig6
namespace Go.Proofs.YtgleldpdelhhhaaDoor
open Go.RowKit Go.WideShapes Go.ChangeShapes
set_option linter.unusedVariables false
set_option maxRecDepth 100000

theorem mul_sign {x y : Int} {s s' : Bool} (h1 : s = decide (x < 0)) (h2 : s' = decide (y < 0)) : ((s != s') && decide (0 < dval (dgs x.natAbs) * dval (dgs y.natAbs))) = decide (x * y < 0) := by
  subst h1 h2
  rw [dgs_val, dgs_val, Bool.eq_iff_iff]
  by_cases hx0 : x = 0
  · subst hx0; simp
  by_cases hy0 : y = 0
  · subst hy0; simp
  have hp : 0 < x.natAbs * y.natAbs := Nat.mul_pos (by omega) (by omega)
  rcases Int.lt_or_lt_of_ne hx0 with hx | hx <;> rcases Int.lt_or_lt_of_ne hy0 with hy | hy
  · have := Int.mul_pos_of_neg_of_neg hx hy
    simp [hx, hy, hp]; omega
  · have := Int.mul_neg_of_neg_of_pos hx hy
    have : ¬ y < 0 := by omega
    simp [hx, this, hp]; omega
  · have := Int.mul_neg_of_pos_of_neg hx hy
    have : ¬ x < 0 := by omega
    simp [hy, this, hp]; omega
  · have := Int.mul_pos hx hy
    have a1 : ¬ x < 0 := by omega
    have a2 : ¬ y < 0 := by omega
    simp [a1, a2]; omega

set_option maxHeartbeats 8000000 in
theorem ref_mul {w : World} {n m c c' : Nat} {A A' : Option Addr} (x y : Int) (h : Dg w A n (dgs x.natAbs)) (h' : Dg w A' m (dgs y.natAbs)) (hn : n ≤ 400) (hm : m ≤ 400) (hc : n ≤ c) (hc' : m ≤ c') :
    Calls Tryd.prog 53 #[.agg #[.bool (decide (x < 0)), .slice A n c], .agg #[.bool (decide (y < 0)), .slice A' m c']] w (NumR w (x * y)) := by
  obtain ⟨s, hs⟩ : ∃ s, s = decide (x < 0) := ⟨_, rfl⟩
  obtain ⟨s', hs'⟩ : ∃ s, s = decide (y < 0) := ⟨_, rfl⟩
  rw [← hs, ← hs']
  have HB := NB.add NumT #[.bool false, .slice none 0 0] (NB.add NumT #[.bool s', .slice A' m c'] (NB.add NumT #[.bool s, .slice A n c] (NB.nil w)))
  have HG := hide h
  have HG' := hide h'
  have HS := hide (And.intro hs hs')
  clear h h' hs hs'
  go_enter Tryd.func53, Tryd.ntmps53
  go_upto_region 1 with (fail)
  obtain ⟨W, hW⟩ : ∃ W : World, W = (((w.alloc (.cells #[.bool s, .slice A n c] NumT)).alloc (.cells #[.bool s', .slice A' m c'] NumT)).alloc (.cells #[.bool false, .slice none 0 0] NumT)) := ⟨_, rfl⟩
  obtain ⟨g0, hg0⟩ : ∃ g, g = w.heap.size := ⟨_, rfl⟩
  obtain ⟨g1, hg1⟩ : ∃ g, g = (w.alloc (.cells #[.bool s, .slice A n c] NumT)).heap.size := ⟨_, rfl⟩
  obtain ⟨g2, hg2⟩ : ∃ g, g = ((w.alloc (.cells #[.bool s, .slice A n c] NumT)).alloc (.cells #[.bool s', .slice A' m c'] NumT)).heap.size := ⟨_, rfl⟩
  have hg1' : w.heap.size + 1 = g1 := by rw [hg1]; simp
  have hg2' : w.heap.size + 1 + 1 = g2 := by rw [hg2]; simp
  rw [← hW] at HB ⊢
  rw [← hg2, ← hg1, ← hg0] at HB
  try rw [hg2']
  try rw [hg1']
  try rw [← hg0]
  have HBD := NB.drew HB
  obtain ⟨c0, c1, e0, e1⟩ := two_cellsN (NB.at_ HB (.tail _ (.tail _ (.head _))))
  obtain ⟨c2, c3, e2, e3⟩ := two_cellsN (NB.at_ HB (.tail _ (.head _)))
  have HP := hide (fun (W' : World) (hb : Hid (NB w [(g2, NumT, #[.bool false, .slice none 0 0]), (g1, NumT, #[.bool s', .slice A' m c']), (g0, NumT, #[.bool s, .slice A n c])] W')) => rtimes_any (HG.out.nbelow (w' := w) hb) (HG'.out.nbelow (w' := w) hb) (dgs_dok _) (dgs_dok _) hn hm (c := c) (c' := c'))
  have hn0 : g0 ≠ g2 := by omega
  have hn1 : g1 ≠ g2 := by omega
  clear hW hg0 hg1 hg1' hg2 hg2'
  go_region_held3 (fun w' => w'.cell? ⟨g0, 0, none⟩ = some (.bool s) ∧ w'.cell? ⟨g0, 1, none⟩ = some (.slice A n c) ∧ w'.cell? ⟨g1, 0, none⟩ = some (.bool s') ∧ w'.cell? ⟨g1, 1, none⟩ = some (.slice A' m c'))
    (first | exact add_args (by assumption) | exact add_args2 (by assumption) hn0 hn1)
    (first
      | (go_at_call 71; (with_reducible refine (HP.out _ (by assumption)).mono ?_); rintro e wa ⟨A1, k1, cp1, ds1, rfl, hd1, ok1, hk1, hc1, hv1, hb1⟩; have hma := NB.next hb1 (by assumption))
      | (go_at_call 36; (with_reducible refine (rtrim_any _ hd1 ok1 (by omega) hc1).mono ?_); rintro e wb ⟨A2, k2, cp2, rfl, hd2, hc2, hb2⟩; have hmb := NB.next hb2 hma; obtain ⟨d0, d1, f0, f1⟩ := two_cellsN (NB.at_ hmb (.head _))))
  all_goals go_wp2_with fail
  all_goals exact num_end rfl rfl rfl hmb hd2 hc2 (mul_sign HS.out.1 HS.out.2) (by rw [hv1, dgs_val, dgs_val, Int.natAbs_mul])

theorem results_cell_cell {P : Program} {fn : Func} {p q : Tmp} {ty : TypeId} (h : fn.results = #[.cell p ty, .cell q ty]) (tmps : Array Value) (w : World) (g g' : Nat) (t t' : TypeId) (cs cs' : Array Value) (fr fr' : Nat × Nat) (d : TypeDesc)
    (hp : tmps.getD p undef = .pointer (some ⟨g, 0, none⟩)) (hq : tmps.getD q undef = .pointer (some ⟨g', 0, none⟩)) (hg : w.heap[g]? = some (.cells cs t fr)) (hg' : w.heap[g']? = some (.cells cs' t' fr'))
    (hu : P.underlying ty = some d) (hd : (match d with | .struct _ | .array _ _ => true | _ => false) = true) (hi : (P.info? ty).map (·.size) = some cs.size) (hi' : (P.info? ty).map (·.size) = some cs'.size) :
    (results fn tmps).run P w = .ok (.tuple #[.agg cs, .agg cs']) w := by
  have hp' : tmps[p]?.getD undef = .pointer (some ⟨g, 0, none⟩) := by simpa using hp
  have hq' : tmps[q]?.getD undef = .pointer (some ⟨g', 0, none⟩) := by simpa using hq
  simp [results, h, hp', hq', asAddr, Sem.run_bind, Result.andThen, run_loadVar_row w g t ty cs fr d hg hu hd hi, run_loadVar_row w g' t' ty cs' fr' d hg' hu hd hi']
theorem ret_num2 {fn : Func} {t t' : Tmp} (hf : fn.results = #[.cell t NumT, .cell t' NumT]) {R : Ending → World → Prop} {a : Act} {wf : World} {g g' n n' c c' : Nat} {s s' : Bool} {A A' : Option Addr} (hp : a.tmps.getD t undef = .pointer (some ⟨g, 0, none⟩)) (hp' : a.tmps.getD t' undef = .pointer (some ⟨g', 0, none⟩)) (hd : a.defers = [])
    (hb : Blk wf g NumT #[.bool s, .slice A n c]) (hb' : Blk wf g' NumT #[.bool s', .slice A' n' c']) (h : R (.returned (.tuple #[.agg #[.bool s, .slice A n c], .agg #[.bool s', .slice A' n' c']])) wf) : bodyPost Tryd.prog fn R .ret a wf := by
  have hu := num_und
  cases hq : Tryd.prog.underlying 43 with
  | none => rw [hq] at hu; cases hu
  | some d =>
    rw [hq] at hu
    exact bodyPost_ret (results_cell_cell hf _ _ _ _ _ _ _ _ _ _ d hp hp' hb hb' hq (by cases d <;> simp_all) num_size num_size) hd h
theorem Dg.setFar {w : World} {n g i : Nat} {A : Option Addr} {ds : List Nat} (h : Dg w A n ds) (hA : ∀ b off sp, A = some ⟨b, off, sp⟩ → g < b) (v : Value) : Dg (w.setCell ⟨g, i, none⟩ v) A n ds := by
  refine ⟨h.1, h.2.1, fun hpos => ?_⟩
  obtain ⟨b, off, e, hlt, hc⟩ := plainD h.2 (by omega) (by omega)
  refine ⟨⟨b, off, none⟩, e, by simpa using hlt, fun j u hu => ?_⟩
  have hne : b ≠ g := by have := hA b off none e; omega
  rw [Go.WideShapes.add_plain]
  rw [World.cell?_of_block (w' := w.setCell ⟨g, i, none⟩ v) (w := w) (a := ⟨b, off + j, none⟩) (Below.heap_setCell _ _ _ _ hne)]
  exact hc j u hu
end Go.Proofs.YtgleldpdelhhhaaDoor
