/- The program's Tokens; conditions: the text's size. -/
import Derived.Test.YtgnobpljnahceaaDoorSnL
import Derived.Laws.Rows
namespace Go.Proofs.YtgnobpljnahceaaDoor
open Go.RowKit Go.WideShapes Go.ChangeShapes
set_option linter.unusedVariables false
set_option linter.unusedSimpArgs false
set_option maxRecDepth 100000

/-- A fault, by its cells. -/
abbrev faultA (e f : Int) (l c : Int) : Array Value := #[.int .i64 e, .int .i64 f, .int .i64 l, .int .i64 c]
theorem fault_size : (Tryd.prog.info? 75).map (·.size) = some 4 := by kernel_rfl
theorem fault_und : ((Tryd.prog.underlying 75).map fun d => (match d with | .struct _ | .array _ _ => true | _ => false)) = some true := by kernel_rfl
theorem results_tmp_cell {P : Program} {fn : Func} {p s : Tmp} {ty : TypeId} (h : fn.results = #[.tmp s, .cell p ty]) (tmps : Array Value) (w : World) (g : Nat) (t : TypeId) (cs : Array Value) (fr : Nat × Nat) (d : TypeDesc)
    (hp : tmps.getD p undef = .pointer (some ⟨g, 0, none⟩)) (hg : w.heap[g]? = some (.cells cs t fr))
    (hu : P.underlying ty = some d) (hd : (match d with | .struct _ | .array _ _ => true | _ => false) = true) (hi : (P.info? ty).map (·.size) = some cs.size) :
    (results fn tmps).run P w = .ok (.tuple #[tmps.getD s undef, .agg cs]) w := by
  have hp' : tmps[p]?.getD undef = .pointer (some ⟨g, 0, none⟩) := by simpa using hp
  simp [results, h, hp', asAddr, run_loadVar_row w g t ty cs fr d hg hu hd hi]
theorem ret_tf {fn : Func} {t s : Tmp} (hf : fn.results = #[.tmp s, .cell t 75]) {R : Ending → World → Prop} {a : Act} {wf : World} {g : Nat} {e f l c : Int} {v : Value} (hp : a.tmps.getD t undef = .pointer (some ⟨g, 0, none⟩)) (hs : a.tmps.getD s undef = v) (hd : a.defers = [])
    (hb : Blk wf g 75 (faultA e f l c)) (hr : R (.returned (.tuple #[v, .agg (faultA e f l c)])) wf) : bodyPost Tryd.prog fn R .ret a wf := by
  have hu := fault_und
  cases hq : Tryd.prog.underlying 75 with
  | none => rw [hq] at hu; cases hu
  | some d =>
    rw [hq] at hu
    have h := results_tmp_cell hf a.tmps wf _ _ _ _ d hp hb hq (by cases d <;> simp_all) fault_size
    rw [hs] at h
    exact bodyPost_ret h hd hr
theorem set_fault {w : World} {g : Nat} {t : TypeId} {a b c d : Value} (h : Blk w g t #[a, b, c, d]) (x y z u : Value) : Blk ((((w.setCell ⟨g, 0, none⟩ x).setCell ⟨g, 1, none⟩ y).setCell ⟨g, 2, none⟩ z).setCell ⟨g, 3, none⟩ u) g t #[x, y, z, u] := by
  have h2 := (((h.set_ 0 x).set_ 1 y).set_ 2 z).set_ 3 u
  simpa using h2
theorem below_fault {w w' : World} {B g : Nat} (h : Below B w w') (hg : B ≤ g) (x y z u : Value) : Below B w ((((w'.setCell ⟨g, 0, none⟩ x).setCell ⟨g, 1, none⟩ y).setCell ⟨g, 2, none⟩ z).setCell ⟨g, 3, none⟩ u) :=
  (((h.setCell (p := ⟨g, 0, none⟩) hg x).setCell (p := ⟨g, 1, none⟩) hg y).setCell (p := ⟨g, 2, none⟩) hg z).setCell (p := ⟨g, 3, none⟩) hg u
theorem own_faultT {w : World} {B g e sz n : Nat} {t : TypeId} {cs : Array Value} {v : Value} {xs : List Value} (h : w.ownsRow B e sz v n xs) (hb : Blk w g t cs) (hne : e ≠ t) (x y z u : Value) :
    ((((w.setCell ⟨g, 0, none⟩ x).setCell ⟨g, 1, none⟩ y).setCell ⟨g, 2, none⟩ z).setCell ⟨g, 3, none⟩ u).ownsRow B e sz v n xs := by
  have hn : v.ownBlock ≠ some g := own_blk_ne h hb hne
  exact ownsRow_setCell_other (a := ⟨g, 3, none⟩) (ownsRow_setCell_other (a := ⟨g, 2, none⟩) (ownsRow_setCell_other (a := ⟨g, 1, none⟩) (ownsRow_setCell_other (a := ⟨g, 0, none⟩) h hn _) hn _) hn _) hn _

theorem own_monoT {w : World} {B B' e sz n : Nat} {v : Value} {xs : List Value} (h : w.ownsRow B e sz v n xs) (hb : B' ≤ B) : w.ownsRow B' e sz v n xs := by
  refine ⟨h.1, ?_⟩
  rcases h.2 with h2 | ⟨g, cap, cur, hv, hg, r⟩
  · exact .inl h2
  · exact .inr ⟨g, cap, cur, hv, Nat.le_trans hb hg, r⟩
/-- What Tokens answers. -/
def TokPost (w : World) (f : Int) (r : Except (Nat × Nat) (List Tk)) (e : Ending) (w' : World) : Prop :=
  match r with
  | .error p => e = .returned (.tuple #[.slice none 0 0, .agg (faultA 5 f p.1 p.2)]) ∧ Below w.heap.size w w'
  | .ok ts => ∃ v, e = .returned (.tuple #[v, .agg (faultA 0 0 0 0)]) ∧ w'.ownsRow w.heap.size 80 5 v ts.length (ts.flatMap (Tk.cells f)) ∧ Below w.heap.size w w'

set_option maxHeartbeats 2000000 in
theorem tokens_long (f : Int) (s : ByteArray) (hs : 65536 < s.size) (hs2 : s.size ≤ maxLen) (w : World) :
    Calls Tryd.prog 40 #[.int .i64 f, .string s] w fun e w' => e = .returned (.tuple #[.slice none 0 0, .agg (faultA 3 f 1 1)]) ∧ Below w.heap.size w w' := by
  obtain ⟨fb, hfb⟩ : ∃ n, n = w.heap.size := ⟨_, rfl⟩
  obtain ⟨W0, hW0⟩ : ∃ W : World, W = (w.alloc (.cells #[.int .i64 0, .int .i64 0, .int .i64 0, .int .i64 0] 75)).alloc (.cells #[.string s, .int .i64 0, .int .i64 f, .int .i64 1, .int .i64 1, .slice none 0 0, .bool false, .bool false] 90) := ⟨_, rfl⟩
  have hF : Blk W0 fb 75 (faultA 0 0 0 0) := by rw [hW0, hfb]; exact (Blk.new _ _ _).alloc _
  have hS : Blk W0 (fb + 1) 90 #[.string s, .int .i64 0, .int .i64 f, .int .i64 1, .int .i64 1, .slice none 0 0, .bool false, .bool false] := by
    rw [hW0, hfb]
    have h := Blk.new (w.alloc (.cells #[.int .i64 0, .int .i64 0, .int .i64 0, .int .i64 0] 75)) 90 #[.string s, .int .i64 0, .int .i64 f, .int .i64 1, .int .i64 1, .slice none 0 0, .bool false, .bool false]
    simpa using h
  have hB : Below w.heap.size w W0 := by rw [hW0]; exact ((Below.refl _ _).alloc (Nat.le_refl _) _).alloc (by simp) _
  have HW := hide hW0
  have HF := hide hF
  have HSS := hide hS
  have HB := hide hB
  have HFB := hide hfb
  have i1 : (65536 : Int) < (s.size : Int) := by omega
  clear hW0 hF hS hB hfb
  go_enter Tryd.func40, Tryd.ntmps40
  go_wp2_with fail
  rw [← HW.out, ← HFB.out]
  obtain c0 := HF.out.cell 0
  obtain c1 := HF.out.cell 1
  obtain c2 := HF.out.cell 2
  obtain c3 := HF.out.cell 3
  have d2 : W0.cell? ⟨fb + 1, 2, none⟩ = some (.int .i64 f) := HSS.out.cell 2
  have d3 : W0.cell? ⟨fb + 1, 3, none⟩ = some (.int .i64 1) := HSS.out.cell 3
  have d4 : W0.cell? ⟨fb + 1, 4, none⟩ = some (.int .i64 1) := HSS.out.cell 4
  have z0 := HF.out.frozen 0
  have z1 := HF.out.frozen 1
  have z2 := HF.out.frozen 2
  have z3 := HF.out.frozen 3
  simp at c0 c1 c2 c3
  go_still_tail 6, (by kernel_rfl)
  go_wp2_with fail
  exact ret_tf rfl rfl rfl rfl (set_fault HF.out (.int .i64 3) (.int .i64 f) (.int .i64 1) (.int .i64 1)) ⟨rfl, below_fault HB.out.drew (by rw [HFB.out]; exact Nat.le_refl _) _ _ _ _⟩

/-- How much is left to do. -/
def leftN (b n : Nat) (w : World) : Nat := 2 * ((n : Int) - intOf ((w.cell? ⟨b, 1, none⟩).getD undef)).toNat + (match w.cell? ⟨b, 7, none⟩ with | some (.bool false) => 1 | _ => 0)
/-- Ahead of each round of Tokens' loop. -/
structure TokRel (w : World) (fb : Nat) (s : ByteArray) (f : Int) (wr : World) : Prop where
  fl : Blk wr fb 75 (faultA 0 0 0 0)
  be : Below w.heap.size w wr
  sz : fb + 1 < wr.heap.size
  st : ∃ v x, Sc wr (fb + 1) (fb + 1) s f v x ∧ x.k ≤ s.size ∧ x.p.1 ≤ x.k + 1 ∧ x.p.2 ≤ x.k + 1 ∧ x.acc.length ≤ x.k ∧
    (x.bad = false → lexS s.data.toList (1, 1) false = pre x.acc (lexS (s.data.toList.drop x.k) x.p x.o)) ∧ (x.bad = true → lexS s.data.toList (1, 1) false = .error x.p)

/-- A piece further. -/
theorem act_next {s : ByteArray} {x : SS} (hk : x.k < s.size) (hb : x.bad = false) (h1 : x.p.1 ≤ x.k + 1) (h2 : x.p.2 ≤ x.k + 1) (ha : x.acc.length ≤ x.k) {r : Except (Nat × Nat) (List Tk)} (hr : r = pre x.acc (lexS (s.data.toList.drop x.k) x.p x.o)) {y : SS}
    (hy : y = act (s.data.toList.drop x.k) x (piece (s.data.toList.drop x.k))) :
    y.k ≤ s.size ∧ y.p.1 ≤ y.k + 1 ∧ y.p.2 ≤ y.k + 1 ∧ y.acc.length ≤ y.k ∧ (y.bad = false → r = pre y.acc (lexS (s.data.toList.drop y.k) y.p y.o)) ∧ (y.bad = true → r = .error y.p) ∧
      2 * (s.size - y.k) + (if y.bad then 0 else 1) < 2 * (s.size - x.k) + 1 := by
  obtain ⟨c, l, hcl⟩ : ∃ c l, s.data.toList.drop x.k = c :: l := ⟨_, _, dropS s x.k hk⟩
  have hlen : (c :: l).length = s.size - x.k := by rw [← hcl, List.length_drop, Lib.size_eq]
  rw [hcl] at hr hy
  cases hp : piece (c :: l) with
  | bad =>
    rw [hp] at hy
    subst hy
    rw [lexS_bad _ _ hp] at hr
    exact ⟨by simp only [act]; omega, h1, h2, ha, by simp [act], fun _ => hr, by simp only [act, if_pos]; omega⟩
  | gap n nl =>
    rw [hp] at hy
    have hn := piece_gap hp
    rw [lexS_gap _ _ hp, pre_pre] at hr
    have hd : (c :: l).drop n = s.data.toList.drop (x.k + n) := by rw [← hcl, List.drop_drop]
    have hv := adv_le ((c :: l).take n) x.p (x.k + 1) h1 h2 (by omega)
    rw [List.length_take] at hv
    subst hy
    simp only [act] at *
    refine ⟨by omega, by omega, by omega, ?_, fun _ => ?_, fun e => by simp at e, by simp; omega⟩
    · split
      · rw [List.length_append]; simp; omega
      · omega
    · rw [hr, hd]
      cases nl <;> cases x.o <;> simp
  | tok k t n =>
    rw [hp] at hy
    have hn := piece_tok hp
    rw [lexS_tok _ _ hp, pre_pre] at hr
    have hd : (c :: l).drop n = s.data.toList.drop (x.k + n) := by rw [← hcl, List.drop_drop]
    have hv := adv_le ((c :: l).take n) x.p (x.k + 1) h1 h2 (by omega)
    rw [List.length_take] at hv
    subst hy
    simp only [act] at *
    refine ⟨by omega, by omega, by omega, by rw [List.length_append]; simp; omega, fun _ => by rw [hr, hd], fun e => by simp at e, by simp; omega⟩

theorem left_of {w : World} {B b : Nat} {s : ByteArray} {f : Int} {v : Value} {x : SS} (h : Sc w B b s f v x) : leftN b s.size w = 2 * (s.size - x.k) + (if x.bad then 0 else 1) := by
  obtain ⟨c0, c1, c2, c3, c4, c5, c6, c7⟩ := h.cells
  unfold leftN
  rw [c1, c7]
  simp only [Option.getD_some, intOf]
  cases x.bad <;> simp <;> omega

set_option maxHeartbeats 8000000 in
theorem tokens_any (f : Int) (s : ByteArray) (hs : s.size ≤ 65536) (w : World) (m : Int) (hm : w.cell? ⟨1, 0, none⟩ = some (.int .i64 m)) :
    Calls Tryd.prog 40 #[.int .i64 f, .string s] w fun e w' => TokPost w f (lexS s.data.toList (1, 1) false) e w' := by
  obtain ⟨fb, hfb⟩ : ∃ n, n = w.heap.size := ⟨_, rfl⟩
  have hw0 : 1 < w.heap.size := World.block_lt_of_cell? w _ hm
  obtain ⟨W0, hW0⟩ : ∃ W : World, W = (w.alloc (.cells #[.int .i64 0, .int .i64 0, .int .i64 0, .int .i64 0] 75)).alloc (.cells #[.string s, .int .i64 0, .int .i64 f, .int .i64 1, .int .i64 1, .slice none 0 0, .bool false, .bool false] 90) := ⟨_, rfl⟩
  have hF : Blk W0 fb 75 (faultA 0 0 0 0) := by rw [hW0, hfb]; exact (Blk.new _ _ _).alloc _
  have hS : Blk W0 (fb + 1) 90 #[.string s, .int .i64 0, .int .i64 f, .int .i64 1, .int .i64 1, .slice none 0 0, .bool false, .bool false] := by
    rw [hW0, hfb]
    have h := Blk.new (w.alloc (.cells #[.int .i64 0, .int .i64 0, .int .i64 0, .int .i64 0] 75)) 90 #[.string s, .int .i64 0, .int .i64 f, .int .i64 1, .int .i64 1, .slice none 0 0, .bool false, .bool false]
    simpa using h
  have hB : Below w.heap.size w W0 := by rw [hW0]; exact ((Below.refl _ _).alloc (Nat.le_refl _) _).alloc (by simp) _
  have hs0 : Sc W0 (fb + 1) (fb + 1) s f (.slice none 0 0) ⟨0, (1, 1), [], false, false⟩ := ⟨hS, Nat.le_refl _, World.ownsRow_nil _ _ _ _⟩
  have hrel : TokRel w fb s f W0 := ⟨hF, hB, hS.lt, _, _, hs0, Nat.zero_le _, by simp, by simp, by simp, fun _ => by
    rw [List.drop_zero]
    cases lexS s.data.toList (1, 1) false <;> simp [pre], fun e => by simp at e⟩
  have HW := hide hW0
  have HREL := hide hrel
  have HFB := hide hfb
  have HM := hide (And.intro hm hw0)
  have HSZ := hide hs
  obtain ⟨r, hr⟩ : ∃ r, r = lexS s.data.toList (1, 1) false := ⟨_, rfl⟩
  rw [← hr]
  have HR := hide hr
  have i1 : ¬ (65536 : Int) < (s.size : Int) := by omega
  clear hW0 hF hS hB hfb hs0 hrel hm hs hr hw0
  go_enter Tryd.func40, Tryd.ntmps40
  go_wp2_with fail
  rw [← HW.out, ← HFB.out]
  go_loopw [] (fun wr => TokRel w fb s f wr) (fun wr => leftN (fb + 1) s.size wr)
  case atStart => exact HREL.out
  case round =>
    obtain ⟨hfl, hbe, hszz, v, x, hc, hk, h1, h2, ha, hgo, hbd⟩ := hrel
    have HC := hide hc
    have HFL := hide hfl
    have HBE := hide hbe
    have HG := hide hgo
    have HD := hide hbd
    have HK := hide (And.intro hk (And.intro h1 (And.intro h2 ha)))
    obtain ⟨K, hK⟩ : ∃ K, K = x.k := ⟨_, rfl⟩
    have HKE := hide hK
    obtain ⟨c0, c1, c2, c3, c4, c5, c6, c7⟩ := hc.cells
    rw [← hK] at c1
    obtain ⟨p1, hp1⟩ : ∃ p : Int, p = (x.p.1 : Int) := ⟨_, rfl⟩
    obtain ⟨p2, hp2⟩ : ∃ p : Int, p = (x.p.2 : Int) := ⟨_, rfl⟩
    rw [← hp1] at c3
    rw [← hp2] at c4
    have HP := hide (And.intro hp1 hp2)
    clear hc hfl hbe hgo hbd hk h1 h2 ha hK hszz hp1 hp2
    cases hbd : x.bad with
    | true =>
      rw [hbd] at c7
      have HE := hide (HD.out hbd)
      have HBD := hide hbd
      have f0 := HFL.out.cell 0
      have f1 := HFL.out.cell 1
      have f2 := HFL.out.cell 2
      have f3 := HFL.out.cell 3
      have z0 := HFL.out.frozen 0
      have z1 := HFL.out.frozen 1
      have z2 := HFL.out.frozen 2
      have z3 := HFL.out.frozen 3
      simp at f0 f1 f2 f3
      clear hbd
      by_cases hlt : (K : Int) < (s.size : Int)
      all_goals
        go_wp2_with fail
        go_still_tail 6, (by kernel_rfl)
        go_wp2_with fail
        refine ret_tf rfl rfl rfl rfl (set_fault HFL.out (.int .i64 5) (.int .i64 f) (.int .i64 p1) (.int .i64 p2)) ?_
        unfold TokPost
        rw [HR.out, HE.out]
        exact ⟨by rw [HP.out.1, HP.out.2]; rfl, below_fault HBE.out.drew (by rw [HFB.out]; exact Nat.le_refl _) _ _ _ _⟩
    | false =>
      rw [hbd] at c7
      have HG' := hide (HG.out hbd)
      have HBD := hide hbd
      clear hbd
      by_cases hlt : K < s.size
      · have i2 : (K : Int) < (s.size : Int) := by omega
        have HNX := hide (next_any HC.out (by rw [← HKE.out]; exact hlt) HBD.out (by have := HSZ.out; omega) (by have := HK.out; have := HSZ.out; omega) (by have := HK.out; have := HSZ.out; omega) (by have := HK.out; have := HSZ.out; omega) m ((HBE.out.cell (p := ⟨1, 0, none⟩) HM.out.2).trans HM.out.1))
        have hkx : x.k < s.size := by rw [← HKE.out]; exact hlt
        have HKX := hide hkx
        clear hkx hlt
        go_wp2_with fail
        refine HNX.out.mono ?_
        rintro e w2 ⟨rfl, v2, h2, hb2⟩
        obtain ⟨y, hy⟩ : ∃ y, y = act (s.data.toList.drop x.k) x (piece (s.data.toList.drop x.k)) := ⟨_, rfl⟩
        rw [← hy] at h2
        have hnx := act_next HKX.out HBD.out HK.out.2.1 HK.out.2.2.1 HK.out.2.2.2 HG'.out hy
        have H2 := hide h2
        have HB2 := hide hb2
        have HN := hide hnx
        clear h2 hb2 hnx hy
        go_wp2_with fail
        go_roundw
        case rel =>
          exact ⟨HFL.out.below HB2.out (by omega), HBE.out.trans (HB2.out.mono (by rw [HFB.out]; omega)), H2.out.bl.lt, _, _, H2.out, HN.out.1, HN.out.2.1, HN.out.2.2.1, HN.out.2.2.2.1, HN.out.2.2.2.2.1, HN.out.2.2.2.2.2.1⟩
        case measure =>
          rw [left_of H2.out, left_of HC.out, HBD.out]
          exact HN.out.2.2.2.2.2.2
      · have i2 : ¬ (K : Int) < (s.size : Int) := by omega
        have hkx : x.k = s.size := by have := HK.out.1; rw [← HKE.out] at this ⊢; omega
        have hfin : lexS s.data.toList (1, 1) false = .ok ((endS x).acc ++ [⟨1, [], x.p⟩]) := by
          rw [HG'.out, List.drop_eq_nil_of_le (by rw [hkx, Lib.size_eq]; exact Nat.le_refl _), lexS_nil]
          unfold pre endS
          simp only
          cases x.o <;> simp
        have HFIN := hide hfin
        have hac : (endS x).acc.length ≤ 100000 := by
          have := HK.out; have := HSZ.out
          unfold endS
          simp only
          split <;> simp <;> omega
        have HAC := hide hac
        have HEN := hide (end_any HC.out (by have := HK.out; have := HSZ.out; omega))
        clear hkx hfin hlt hac
        go_wp2_with fail
        refine HEN.out.mono ?_
        rintro e w2 ⟨rfl, v2, h2, hb2⟩
        obtain ⟨y, hy⟩ : ∃ y, y = endS x := ⟨_, rfl⟩
        have hyp : y.p = x.p := by rw [hy]; rfl
        have hac := HAC.out
        have hfn := HFIN.out
        rw [← hy] at h2 hac hfn
        rw [← hyp] at hfn
        obtain ⟨A0, k0, rfl⟩ := own_formT h2.ow
        have HH := hide h2
        have HB2 := hide hb2
        have HN := hide hac
        have HFN := hide hfn
        have HFL2 := hide (HFL.out.below hb2 (by omega))
        obtain ⟨i0, hi0, hz0, hz1, hz2⟩ := info_parts tokInfo
        obtain ⟨e0, e1, e2, e3, e4, e5, e6, e7⟩ := h2.cells
        have OB := hide (h2.alloc (.cells #[.int .i64 1, .string ⟨#[]⟩, .int .i64 f, .int .i64 (y.p.1 : Int), .int .i64 (y.p.2 : Int)] 80)).ow
        have c5b : (w2.alloc (.cells #[.int .i64 1, .string ⟨#[]⟩, .int .i64 f, .int .i64 (y.p.1 : Int), .int .i64 (y.p.2 : Int)] 80)).cell? ⟨fb + 1, 5, none⟩ = some (.slice A0 y.acc.length k0) := (h2.alloc _).bl.cell 5
        have RD := hide (show Reads (w2.alloc (.cells #[.int .i64 1, .string ⟨#[]⟩, .int .i64 f, .int .i64 (y.p.1 : Int), .int .i64 (y.p.2 : Int)] 80)) (w2.heap.size + 1) 5 (some ⟨w2.heap.size, 0, none⟩) 1 ((⟨1, [], y.p⟩ : Tk).cells f) from by
          have h := reads_newT w2 #[.int .i64 1, .string ⟨#[]⟩, .int .i64 f, .int .i64 (y.p.1 : Int), .int .i64 (y.p.2 : Int)] 80 5 1 rfl
          have e : (w2.alloc (.cells #[.int .i64 1, .string ⟨#[]⟩, .int .i64 f, .int .i64 (y.p.1 : Int), .int .i64 (y.p.2 : Int)] 80)).heap.size = w2.heap.size + 1 := by simp
          rw [e] at h
          exact h)
        clear h2 hb2 hac hfn hyp hy c0 c1 c2 c3 c4 c5 c6 c7
        go_wp2_with fail
        go_region_law (first
          | (refine step_append_any _ rfl (.tmp 51) (.tmp 57) _ rfl (fb + 1) 80 i0 _ 5 48 Tryd.underlying71 hi0 hz0 hz1 hz2 rfl (by omega) (.slice A0 y.acc.length k0) y.acc.length (y.acc.flatMap (Tk.cells f)) (by simp [Act.eval]) OB.out (w2.heap.size + 1) (some ⟨w2.heap.size, 0, none⟩) 1 1 ((⟨1, [], y.p⟩ : Tk).cells f) (by simp [Act.eval]) RD.out (tok_one f _) (by have := HN.out; simp only [maxLen]; omega) (by have := HN.out; omega) (by have := HH.out.lt; simp; omega) ?_
             intro v6 w6 hown6 hg6 hat6
             obtain ⟨A6, k6, rfl⟩ := own_formT hown6
             have hbl6 := (HH.out.alloc (.cells #[.int .i64 1, .string ⟨#[]⟩, .int .i64 f, .int .i64 (y.p.1 : Int), .int .i64 (y.p.2 : Int)] 80)).drew.bl.grown hg6 (fun e => own_blk_ne (HH.out.alloc (.cells #[.int .i64 1, .string ⟨#[]⟩, .int .i64 f, .int .i64 (y.p.1 : Int), .int .i64 (y.p.2 : Int)] 80)).drew.ow (HH.out.alloc (.cells #[.int .i64 1, .string ⟨#[]⟩, .int .i64 f, .int .i64 (y.p.1 : Int), .int .i64 (y.p.2 : Int)] 80)).drew.bl (by decide) e.symm)
             have d5 : w6.cell? ⟨fb + 1, 5, none⟩ = some (.slice A0 y.acc.length k0) := hbl6.cell 5
             have f5 := hbl6.frozen 5))
        go_ways
        all_goals
          obtain ⟨e1, e2⟩ := Sc.put_end (t := ⟨1, [], y.p⟩) (HH.out.alloc (.cells #[.int .i64 1, .string ⟨#[]⟩, .int .i64 f, .int .i64 (y.p.1 : Int), .int .i64 (y.p.2 : Int)] 80)).drew hg6 hown6
          obtain ⟨W7, hW7⟩ : ∃ W : World, W = w6.setCell ⟨fb + 1, 5, none⟩ (.slice A6 (y.acc.length + 1) k6) := ⟨_, rfl⟩
          rw [← hW7] at e1 e2 ⊢
          have hB7 := (((Below.refl (fb + 1) w2).alloc HH.out.lt (.cells #[.int .i64 1, .string ⟨#[]⟩, .int .i64 f, .int .i64 (y.p.1 : Int), .int .i64 (y.p.2 : Int)] 80)).drew).trans e2
          have hF7 := HFL2.out.below hB7 (by omega)
          have HB7 := hide (HBE.out.trans ((HB2.out.trans hB7).mono (by rw [HFB.out]; omega)))
          have HF7 := hide hF7
          have HS7 := hide e1
          have f0 := hF7.cell 0
          have f1 := hF7.cell 1
          have f2 := hF7.cell 2
          have f3 := hF7.cell 3
          have z0 := hF7.frozen 0
          have z1 := hF7.frozen 1
          have z2 := hF7.frozen 2
          have z3 := hF7.frozen 3
          simp at f0 f1 f2 f3
          have g5 : W7.cell? ⟨fb + 1, 5, none⟩ = some (.slice A6 (y.acc.length + 1) k6) := e1.bl.cell 5
          clear hW7 e1 e2 hg6 hown6 hbl6 d5 f5 hat6 OB RD c5b hB7 hF7
          go_wp2_with fail
          refine ret_tf rfl rfl rfl rfl (set_fault HF7.out (.int .i64 0) (.int .i64 0) (.int .i64 0) (.int .i64 0)) ?_
          unfold TokPost
          rw [HR.out, HFN.out]
          refine ⟨_, rfl, ?_, below_fault HB7.out (by rw [HFB.out]; exact Nat.le_refl _) _ _ _ _⟩
          have ho := own_faultT HS7.out.ow HF7.out (by decide) (.int .i64 0) (.int .i64 0) (.int .i64 0) (.int .i64 0)
          exact own_monoT ho (by rw [HFB.out]; omega)
end Go.Proofs.YtgnobpljnahceaaDoor
