/- The program's told; conditions: the line's size, the library's variable. -/
import Derived.Test.YtgnobpljnahceaaDoorFcE
import Derived.Test.YtgnobpljnahceaaDoorSnP
import Derived.Test.YtgnobpljnahceaaDoorTail
import Derived.Deep.RegionHeld3
namespace Go.Proofs.YtgnobpljnahceaaDoor
open Go.RowKit Go.WideShapes Go.ChangeShapes Go.Shelf
set_option linter.unusedVariables false
set_option linter.unusedSimpArgs false
set_option maxRecDepth 100000

theorem bldX156 : Builder.Extra Tryd.prog Tryd.lays156_ren where
  sizeBuilder := by kernel_rfl
  liesBuilder := by kernel_rfl
  t5 := Tryd.underlying5
  a5 := Tryd.isAgg5
  z5 := Tryd.sizeOf5
  v5 := Tryd.zeroValue5
  infoByte := by kernel_rfl
  cellsByte := by kernel_rfl
  sizeByte := by kernel_rfl
  neB5 := by decide
theorem told_size : (Tryd.prog.info? 44).map (·.size) = some 3 := by kernel_rfl
theorem told_und : ((Tryd.prog.underlying 44).map fun d => (match d with | .struct _ | .array _ _ => true | _ => false)) = some true := by kernel_rfl
theorem results_cell_tmp {P : Program} {fn : Func} {p s : Tmp} {ty : TypeId} (h : fn.results = #[.cell p ty, .tmp s]) (tmps : Array Value) (w : World) (g : Nat) (t : TypeId) (cs : Array Value) (fr : Nat × Nat) (d : TypeDesc)
    (hp : tmps.getD p undef = .pointer (some ⟨g, 0, none⟩)) (hg : w.heap[g]? = some (.cells cs t fr))
    (hu : P.underlying ty = some d) (hd : (match d with | .struct _ | .array _ _ => true | _ => false) = true) (hi : (P.info? ty).map (·.size) = some cs.size) :
    (results fn tmps).run P w = .ok (.tuple #[.agg cs, tmps.getD s undef]) w := by
  have hp' : tmps[p]?.getD undef = .pointer (some ⟨g, 0, none⟩) := by simpa using hp
  simp [results, h, hp', asAddr, run_loadVar_row w g t ty cs fr d hg hu hd hi]
theorem ret_told {fn : Func} {t s : Tmp} (hf : fn.results = #[.cell t 44, .tmp s]) {R : Ending → World → Prop} {a : Act} {wf : World} {g : Nat} {x y z v : Value} (hp : a.tmps.getD t undef = .pointer (some ⟨g, 0, none⟩)) (hs : a.tmps.getD s undef = v) (hd : a.defers = [])
    (hb : Blk wf g 44 #[x, y, z]) (hr : R (.returned (.tuple #[.agg #[x, y, z], v])) wf) : bodyPost Tryd.prog fn R .ret a wf := by
  have hu := told_und
  cases hq : Tryd.prog.underlying 44 with
  | none => rw [hq] at hu; cases hu
  | some d =>
    rw [hq] at hu
    have h := results_cell_tmp hf a.tmps wf _ _ _ _ d hp hb hq (by cases d <;> simp_all) told_size
    rw [hs] at h
    exact bodyPost_ret h hd hr
theorem set_told {w : World} {g : Nat} {t : TypeId} {a b c : Value} (h : Blk w g t #[a, b, c]) (x y z : Value) : Blk (((w.setCell ⟨g, 0, none⟩ x).setCell ⟨g, 1, none⟩ y).setCell ⟨g, 2, none⟩ z) g t #[x, y, z] := by
  have h2 := ((h.set_ 0 x).set_ 1 y).set_ 2 z
  simpa using h2
theorem below_told {w w' : World} {B g : Nat} (h : Below B w w') (hg : B ≤ g) (x y z : Value) : Below B w (((w'.setCell ⟨g, 0, none⟩ x).setCell ⟨g, 1, none⟩ y).setCell ⟨g, 2, none⟩ z) :=
  ((h.setCell (p := ⟨g, 0, none⟩) hg x).setCell (p := ⟨g, 1, none⟩) hg y).setCell (p := ⟨g, 2, none⟩) hg z
theorem own_at {w : World} {B e sz n : Nat} {v : Value} {xs : List Value} (h : w.ownsRow B e sz v n xs) (hn : 0 < n) : ∃ g cap, v = .slice (some ⟨g, 0, none⟩) n cap ∧ B ≤ g ∧ g < w.heap.size ∧ n ≤ cap ∧ cap ≤ maxLen ∧ ∀ j u, xs[j]? = some u → w.cell? ⟨g, j, none⟩ = some u := by
  obtain ⟨g, cap, hv, hg, hl⟩ := h.form hn
  have hcap : n ≤ cap ∧ cap ≤ maxLen := by
    rcases h.2 with ⟨e, h0⟩ | ⟨g', cap', cur, hv', _, _, h1, h2, _⟩
    · omega
    · rw [hv] at hv'
      injection hv' with _ _ hc
      subst hc
      exact ⟨h1, h2⟩
  refine ⟨g, cap, hv, hg, hl, hcap.1, hcap.2, fun j u hu => ?_⟩
  have hc := h.cells (g := g) (by rw [hv]; rfl) j u hu
  have e : (⟨g, 0, none⟩ : Addr).add j = ⟨g, j, none⟩ := by unfold Addr.add; split <;> simp_all
  rwa [e] at hc
/-- What told answers. -/
def ToldPost (w : World) (r : Option TD) (e : Ending) (w' : World) : Prop :=
  match r with
  | none => e = .returned (.tuple #[.agg #[.string ⟨#[]⟩, .bool false, .slice none 0 0], .bool false]) ∧ Below w.heap.size w w'
  | some t => ∃ bv, e = .returned (.tuple #[.agg #[.string ⟨t.k.toArray⟩, .bool t.n, bv], .bool true]) ∧ w'.ownsRow w.heap.size 4 1 bv t.s.length (t.s.map Value.bool) ∧ Below w.heap.size w w'

def LoopRel (w : World) (rb pb tb Bq : Nat) (xs : List ByteArray) (T : ByteArray) (nb : Bool) (X1 : ByteArray) (i : Value) (wr : World) : Prop :=
  ∃ k : Nat, i = .int .i64 (k : Int) ∧ k ≤ X1.size ∧ ∃ v, Blk wr tb 44 #[.string T, .bool nb, v] ∧ wr.ownsRow Bq 4 1 v k ((X1.data.toList.take k).map fun b => Value.bool (b == 49)) ∧
    Blk wr rb 44 #[.string ⟨#[]⟩, .bool false, .slice none 0 0] ∧ Blk wr pb 9 (xs.map Value.string).toArray ∧ Below w.heap.size w wr ∧ Bq ≤ wr.heap.size
theorem boolInfo : (Tryd.prog.info? 4).map (fun i => (i.zero, i.size, i.bytes)) = some (some (.bool false), 1, 1) := by kernel_rfl
set_option maxHeartbeats 8000000 in
theorem told_any (s : ByteArray) (hs : s.size ≤ 65000) (w : World) (m : Int) (hm : w.cell? ⟨1, 0, none⟩ = some (.int .i64 m)) :
    Calls Tryd.prog 28 #[.string s] w fun e w' => ToldPost w (toldL s.data.toList) e w' := by
  obtain ⟨rb, hrb⟩ : ∃ n, n = w.heap.size := ⟨_, rfl⟩
  obtain ⟨W0, hW0⟩ : ∃ W, W = w.alloc (.cells #[.string ⟨#[]⟩, .bool false, .slice none 0 0] 44) := ⟨_, rfl⟩
  have hb0 : Below w.heap.size w W0 := by rw [hW0]; exact (Below.refl _ _).alloc (Nat.le_refl _) _
  have hr0 : Blk W0 rb 44 #[.string ⟨#[]⟩, .bool false, .slice none 0 0] := by rw [hW0, hrb]; exact Blk.new _ _ _
  have hm0 : W0.cell? ⟨1, 0, none⟩ = some (.int .i64 m) := (hb0.cell (p := ⟨1, 0, none⟩) (World.block_lt_of_cell? w _ hm)).trans hm
  have hsp := Any.strings_Split Tryd.lays146 (by kernel_rfl) s ⟨#[32]⟩ m W0 (by omega) hm0 (by decide)
  have hlen := Lib.splitB_all ⟨#[32]⟩ (by decide) 0 _ s rfl
  have hps := split_same _ s rfl
  obtain ⟨xs, hxs⟩ : ∃ xs, xs = Lib.splitB ⟨#[32]⟩ 0 (Lib.countB s ⟨#[32]⟩) s := ⟨_, rfl⟩
  obtain ⟨n, hn⟩ : ∃ n, n = Lib.countB s ⟨#[32]⟩ + 1 := ⟨_, rfl⟩
  rw [← hn] at hsp hlen
  rw [← hxs] at hsp hlen hps
  have hjs := join_split s.data.toList
  have hcl := Lib.countB_le ⟨#[32]⟩ (by decide) s.size s (Nat.le_refl _)
  obtain ⟨pb, hpb⟩ : ∃ n, n = W0.heap.size := ⟨_, rfl⟩
  obtain ⟨W1, hW1⟩ : ∃ W, W = W0.alloc (.cells (xs.map Value.string).toArray 9) := ⟨_, rfl⟩
  have hp1 : Blk W1 pb 9 (xs.map Value.string).toArray := by rw [hW1, hpb]; exact Blk.new _ _ _
  have hr1 : Blk W1 rb 44 #[.string ⟨#[]⟩, .bool false, .slice none 0 0] := by rw [hW1]; exact hr0.alloc _
  have hb1 : Below w.heap.size w W1 := by rw [hW1]; exact hb0.alloc hb0.size _
  have hsp1 : Calls Tryd.prog 39 #[.string s, .string ⟨#[32]⟩] W0 fun e w' => e = .returned (.slice (some ⟨pb, 0, none⟩) n n) ∧ w' = W1 := by rw [hW1, hpb]; exact hsp
  have hcell : ∀ (i : Nat) (x : ByteArray), xs[i]? = some x → W1.cell? ⟨pb, i, none⟩ = some (.string x) := fun i x hx => by
    rw [hp1.cell i]
    simp [hx]
  have hn65 : n ≤ 65001 := by omega
  have HSP := hide hsp1
  have HP1 := hide hp1
  have HR1 := hide hr1
  have HB1 := hide hb1
  have HCE := hide hcell
  have HPS := hide hps
  have HN := hide (And.intro hlen (And.intro hn65 hjs))
  have HW0 := hide hW0
  have HRB := hide hrb
  have HM1 := hide (show W1.cell? ⟨1, 0, none⟩ = some (.int .i64 m) from (hb1.cell (p := ⟨1, 0, none⟩) (World.block_lt_of_cell? w _ hm)).trans hm)
  have HS := hide hs
  clear hsp hlen hps hn hjs hcl hpb hW1 hp1 hr1 hb1 hsp1 hcell hn65 hW0 hrb hm0 hr0 hb0 hm hxs hs
  by_cases h3 : n < 3
  · have i3 : (n : Int) < 3 := by omega
    have hnone : toldL s.data.toList = none := by
      have hl : (splitS s.data.toList).length < 3 := by rw [← HPS.out, List.length_map, HN.out.1]; exact h3
      unfold toldL
      rw [if_pos hl]
    rw [hnone]
    clear hnone
    have c0 := HR1.out.cell 0
    have c1 := HR1.out.cell 1
    have c2 := HR1.out.cell 2
    have z0 := HR1.out.frozen 0
    have z1 := HR1.out.frozen 1
    have z2 := HR1.out.frozen 2
    simp at c0 c1 c2
    go_enter Tryd.func28, Tryd.ntmps28
    go_wp2_with fail
    rw [← HW0.out, ← HRB.out]
    refine HSP.out.mono ?_
    rintro e w1 ⟨rfl, rfl⟩
    go_wp2_with fail
    refine ret_told rfl rfl rfl rfl (g := rb) (x := .string ⟨#[]⟩) (y := .bool false) (z := .slice none 0 0) ?_ ?_
    · exact set_told HR1.out _ _ _
    · exact ⟨rfl, below_told HB1.out (by rw [HRB.out]; exact Nat.le_refl _) _ _ _⟩
  · obtain ⟨n2, hn2⟩ : ∃ k, n = k + 2 := ⟨n - 2, by omega⟩
    have hn21 : 1 ≤ n2 := by omega
    have q2 : IntKind.i64.wrap ((n : Int) - 2) = (n2 : Int) := by rw [show (n : Int) - 2 = (n2 : Int) by omega]; exact IntWalk.i64_in _ (by have := HN.out.2.1; omega)
    have q1 : IntKind.i64.wrap ((n : Int) - 1) = (n2 : Int) + 1 := by rw [show (n : Int) - 1 = (n2 : Int) + 1 by omega]; exact IntWalk.i64_in _ (by have := HN.out.2.1; omega)
    have i3 : ¬ (n : Int) < 3 := by omega
    have k1 : n2 ≤ n := by omega
    have htl : (xs.take n2).length = n2 := by rw [List.length_take, HN.out.1]; omega
    obtain ⟨J, hJ⟩ : ∃ J : Bs, J = Lib.join ((splitS s.data.toList).take n2) [32] := ⟨_, rfl⟩
    have hJ2 : Lib.join ((xs.take n2).map (·.data.toList)) (⟨#[32]⟩ : ByteArray).data.toList = J := by rw [hJ, ← HPS.out, List.map_take]
    have hJl : J.length ≤ 65000 := by
      have := join_take (splitS s.data.toList) n2
      rw [← hJ, HN.out.2.2, ← Go.Lib.size_eq] at this
      have := HS.out
      omega
    have hjn := Any.strings_Join Tryd.lays156 bldX156 pb 0 n (xs.take n2) ⟨#[32]⟩ W1 (fun j x hx => by
      rw [Nat.zero_add]
      refine HCE.out j x ?_
      rw [List.getElem?_take] at hx
      split at hx
      · exact hx
      · cases hx) HP1.out.lt (by rw [htl]; have := HN.out.2.1; omega) (by rw [htl]; omega) (by rw [hJ2]; omega)
    rw [htl, hJ2] at hjn
    have hjn1 : Calls Tryd.prog 41 #[.slice (some ⟨pb, 0, none⟩) n2 n, .string ⟨#[32]⟩] W1 fun e w' => e = .returned (.string ⟨J.toArray⟩) ∧ Below W1.heap.size W1 w' := hjn
    obtain ⟨JB, hJB⟩ : ∃ B : ByteArray, B = ⟨J.toArray⟩ := ⟨_, rfl⟩
    rw [← hJB] at hjn1
    have htk : ∀ W, Below W1.heap.size W1 W → Calls Tryd.prog 40 #[.int .i64 0, .string JB] W fun e w' => TokPost W 0 (lexS J (1, 1) false) e w' := fun W hW => by
      have h := tokens_any 0 JB (by rw [hJB, ba_size]; omega) W m ((hW.cell (p := ⟨1, 0, none⟩) (World.block_lt_of_cell? W1 _ HM1.out)).trans HM1.out)
      rw [hJB] at h
      rw [hJB]
      exact h
    have hps3 : ¬ (splitS s.data.toList).length < 3 := by rw [← HPS.out, List.length_map, HN.out.1]; exact h3
    have hpsn : (splitS s.data.toList).length = n := by rw [← HPS.out, List.length_map, HN.out.1]
    have htold : toldL s.data.toList = toldR (splitS s.data.toList) n2 (lexS J (1, 1) false) := by
      unfold toldL
      rw [if_neg hps3, hpsn, show n - 2 = n2 by omega, ← hJ]
    rw [htold]
    have hst : ∀ ts, lexS J (1, 1) false = .ok ts → ts ≠ [] := fun ts h => by
      obtain ⟨r, q, e⟩ := (lex_stand _ _ _ _ _ (Nat.le_refl _) h).2.2
      rw [e]
      simp
    have hlen : ∀ ts, lexS J (1, 1) false = .ok ts → ts.length ≤ 100000 := fun ts h => by
      have := lex_len _ _ _ _ _ (Nat.le_refl _) h
      omega
    have hkey : ∀ t ts, lexS J (1, 1) false = .ok (t :: ts) → True := fun _ _ _ => trivial
    generalize lexS J (1, 1) false = lr at htk hst hlen hkey ⊢
    have HST := hide hst
    have HLN := hide hlen
    have HJN := hide hjn1
    have HTK := hide htk
    have HN2 := hide (And.intro hn2 (And.intro hn21 hpsn))
    clear hst hlen hkey hjn htl hJ hJ2 hJl hjn1 hJB htk hps3 htold hn2 hn21 hpsn h3
    go_enter Tryd.func28, Tryd.ntmps28
    go_wp2_with fail
    rw [← HW0.out, ← HRB.out]
    refine HSP.out.mono ?_
    rintro e w1 ⟨rfl, rfl⟩
    go_wp2_with fail
    refine HJN.out.mono ?_
    rintro e w2 ⟨rfl, hb2⟩
    have htk2 := HTK.out w2 hb2
    have HB2 := hide hb2
    have HR2 := hide (HR1.out.below hb2 HR1.out.lt)
    clear hb2
    cases lr with
    | error p =>
      have HT2 := hide htk2
      clear htk2
      go_wp2_with fail
      refine HT2.out.mono ?_
      rintro e w3 ⟨rfl, hb3⟩
      have hr3 := ((HR2.out.below hb3 HR2.out.lt)).alloc (.cells (faultA 5 0 p.1 p.2) 75)
      have hbe3 : Below w.heap.size w (w3.alloc (.cells (faultA 5 0 p.1 p.2) 75)) := (HB1.out.trans ((HB2.out.trans (hb3.mono HB2.out.size)).mono HB1.out.size)).alloc (Nat.le_trans HB1.out.size (Nat.le_trans HB2.out.size hb3.size)) _
      have HR3 := hide hr3
      have HBE3 := hide hbe3
      have c0 := hr3.cell 0
      have c1 := hr3.cell 1
      have c2 := hr3.cell 2
      have z0 := hr3.frozen 0
      have z1 := hr3.frozen 1
      have z2 := hr3.frozen 2
      simp at c0 c1 c2
      clear hr3 hbe3 hb3
      go_wp2_with fail
      refine ret_told rfl rfl rfl rfl (g := rb) (x := .string ⟨#[]⟩) (y := .bool false) (z := .slice none 0 0) ?_ ?_
      · exact set_told HR3.out _ _ _
      · exact ⟨rfl, below_told HBE3.out (by rw [HRB.out]; exact Nat.le_refl _) _ _ _⟩
    | ok ts =>
      have HT2 := hide htk2
      clear htk2
      go_wp2_with fail
      refine HT2.out.mono ?_
      rintro e w3 ⟨v, rfl, hown, hb3⟩
      cases ts with
      | nil => exact absurd rfl (HST.out [] rfl)
      | cons t rest =>
      obtain ⟨g, cap, rfl, hg, hgl, hcap, hcm, hcl⟩ := own_at hown (by simp)
      obtain ⟨N, hN⟩ : ∃ N, N = (t :: rest).length := ⟨_, rfl⟩
      have hN1 : 0 < N := by rw [hN]; simp
      rw [← hN]
      obtain ⟨W3, hW3⟩ : ∃ W, W = w3.alloc (.cells (faultA 0 0 0 0) 75) := ⟨_, rfl⟩
      have hbe3 : Below w2.heap.size w2 W3 := by rw [hW3]; exact hb3.alloc hb3.size _
      have HB23 := hide hbe3
      have HR3 := hide (HR2.out.below hbe3 HR2.out.lt)
      have HP3 := hide ((HP1.out.below HB2.out HP1.out.lt).below hbe3 (HP1.out.below HB2.out HP1.out.lt).lt)
      have HBE3 := hide (HB1.out.trans ((HB2.out.trans (hbe3.mono HB2.out.size)).mono HB1.out.size))
      obtain ⟨tk, htk⟩ : ∃ k, k = t.k := ⟨_, rfl⟩
      obtain ⟨T, hT⟩ : ∃ T : ByteArray, T = ⟨t.t.toArray⟩ := ⟨_, rfl⟩
      have x0 : W3.cell? ⟨g, 0, none⟩ = some (.int .i64 tk) := by rw [hW3, htk]; exact (World.cell?_alloc_lt w3 _ ⟨g, 0, none⟩ hgl).trans (hcl 0 _ rfl)
      have x1 : W3.cell? ⟨g, 1, none⟩ = some (.string T) := by rw [hW3, hT]; exact (World.cell?_alloc_lt w3 _ ⟨g, 1, none⟩ hgl).trans (hcl 1 _ rfl)
      obtain ⟨fb, hfb⟩ : ∃ n, n = w3.heap.size := ⟨_, rfl⟩
      have y0 : W3.cell? ⟨fb, 0, none⟩ = some (.int .i64 0) := by rw [hW3, hfb]; exact (Blk.new w3 75 (faultA 0 0 0 0)).cell 0
      have HX1 := hide x1
      have HGL := hide (show g < W3.heap.size from by rw [hW3]; simp; omega)
      have HW3 := hide hW3
      have HFB := hide hfb
      have HTT := hide (And.intro htk hT)
      have hNz : (N : Int) ≠ 0 := by omega
      have i4 : (0 : Int) < (N : Int) := by omega
      have i5 : 0 < N := hN1
      clear hown hg hgl hcap hcm hcl hN hN1 hW3 hbe3 htk hT hfb hb3 x1
      by_cases h4 : tk = 4
      · have h4b : (tk != 4) = false := by rw [h4]; rfl
        go_upto_region 6 with (fail)
        rw [← HW3.out, ← HFB.out]
        go_upto_region 8 with (fail)
        obtain ⟨X2, hX2⟩ : ∃ x, xs[n2]? = some x := ⟨_, List.getElem?_eq_getElem (by have := HN.out.1; have := HN2.out.1; omega)⟩
        obtain ⟨X1, hX1⟩ : ∃ x, xs[n2 + 1]? = some x := ⟨_, List.getElem?_eq_getElem (by have := HN.out.1; have := HN2.out.1; omega)⟩
        have p2 : ∀ W, Blk W pb 9 (xs.map Value.string).toArray → W.cell? ⟨pb, n2, none⟩ = some (.string X2) := fun W h => by rw [h.cell n2]; simp [hX2]
        have p1 : ∀ W, Blk W pb 9 (xs.map Value.string).toArray → W.cell? ⟨pb, n2 + 1, none⟩ = some (.string X1) := fun W h => by rw [h.cell (n2 + 1)]; simp [hX1]
        have k2 : (n2 : Int) < (n : Int) := by have := HN2.out.1; omega
        have k4 : n2 < n := by have := HN2.out.1; omega
        have k5 : n2 + 1 < n := by have := HN2.out.1; omega
        have k6 : (0 : Int) ≤ (n2 : Int) + 1 := by omega
        have k3 : (n2 : Int) + 1 < (n : Int) := by have := HN2.out.1; omega
        have HP2 := hide p2
        have HP1' := hide p1
        have HXX := hide (And.intro hX2 hX1)
        have c2' : W3.drew.cell? ⟨pb, n2, none⟩ = some (.string X2) := p2 _ HP3.out.drew
        have c1' : W3.drew.cell? ⟨g, 1, none⟩ = some (.string T) := HX1.out
        clear hX2 hX1 p2 p1
        refine wp_region_tail 12 (fun w' => w'.cell? ⟨pb, n2, none⟩ = some (.string X2) ∧ w'.cell? ⟨g, 1, none⟩ = some (.string T)) (by kernel_rfl) ⟨c2', c1'⟩ (fun hHeld => ?_)
        try simp only [Act.put, List.setIfInBounds_toArray, List.set_cons_zero, List.set_cons_succ]
        refine' wpTail_take2 (i := 0) (oi := _) ?hiu1001 ?hsu1001 ?hfu1001 ?hru1001 ?hzu1001 ?hccu1001 ?hQu1001 (v := _) (Or.inl ⟨?hwu1001, ?hyu1001⟩) (⟨c2', c1'⟩) ?_
        case hiu1001 => (simp only [List.getElem?_toArray, List.getElem?_cons_zero]; exact rfl)
        case hsu1001 => kernel_rfl
        case hfu1001 => kernel_rfl
        case hru1001 => kernel_rfl
        case hzu1001 => kernel_rfl
        case hccu1001 => kernel_rfl
        case hQu1001 => exact fun _ _ _ h => h
        case hwu1001 => rfl
        case hyu1001 => (intro w hSw; (try dsimp only at hSw); go_simp; (try with_reducible rfl))
        try simp only [Act.put, List.setIfInBounds_toArray, List.set_cons_zero, List.set_cons_succ]
        refine' wpTail_take2 (i := 1) (oi := _) ?hiu1002 ?hsu1002 ?hfu1002 ?hru1002 ?hzu1002 ?hccu1002 ?hQu1002 (v := _) (Or.inl ⟨?hwu1002, ?hyu1002⟩) (⟨c2', c1'⟩) ?_
        case hiu1002 => (simp only [List.getElem?_toArray, List.getElem?_cons_succ, List.getElem?_cons_zero]; exact rfl)
        case hsu1002 => kernel_rfl
        case hfu1002 => kernel_rfl
        case hru1002 => kernel_rfl
        case hzu1002 => kernel_rfl
        case hccu1002 => kernel_rfl
        case hQu1002 => exact fun _ _ _ h => h
        case hwu1002 => rfl
        case hyu1002 => (intro w hSw; (try dsimp only at hSw); go_simp; (try with_reducible rfl))
        try simp only [Act.put, List.setIfInBounds_toArray, List.set_cons_zero, List.set_cons_succ]
        refine' wpTail_take2 (i := 2) (oi := _) ?hiu1003 ?hsu1003 ?hfu1003 ?hru1003 ?hzu1003 ?hccu1003 ?hQu1003 (v := _) (Or.inl ⟨?hwu1003, ?hyu1003⟩) (⟨c2', c1'⟩) ?_
        case hiu1003 => (simp only [List.getElem?_toArray, List.getElem?_cons_succ, List.getElem?_cons_zero]; exact rfl)
        case hsu1003 => kernel_rfl
        case hfu1003 => kernel_rfl
        case hru1003 => kernel_rfl
        case hzu1003 => kernel_rfl
        case hccu1003 => kernel_rfl
        case hQu1003 => exact fun _ _ _ h => h
        case hwu1003 => rfl
        case hyu1003 => (intro w hSw; (try dsimp only at hSw); go_simp; (try with_reducible rfl))
        try simp only [Act.put, List.setIfInBounds_toArray, List.set_cons_zero, List.set_cons_succ]
        refine' wpTail_take2 (i := 3) (oi := _) ?hiu1004 ?hsu1004 ?hfu1004 ?hru1004 ?hzu1004 ?hccu1004 ?hQu1004 (v := _) (Or.inl ⟨?hwu1004, ?hyu1004⟩) (⟨c2', c1'⟩) ?_
        case hiu1004 => (simp only [List.getElem?_toArray, List.getElem?_cons_succ, List.getElem?_cons_zero]; exact rfl)
        case hsu1004 => kernel_rfl
        case hfu1004 => kernel_rfl
        case hru1004 => kernel_rfl
        case hzu1004 => kernel_rfl
        case hccu1004 => kernel_rfl
        case hQu1004 => exact fun _ _ _ h => h
        case hwu1004 => rfl
        case hyu1004 => (intro w hSw; (try dsimp only at hSw); go_simp; (try with_reducible rfl))
        try simp only [Act.put, List.setIfInBounds_toArray, List.set_cons_zero, List.set_cons_succ]
        refine' wpTail_take2 (i := 4) (oi := _) ?hiu1005 ?hsu1005 ?hfu1005 ?hru1005 ?hzu1005 ?hccu1005 ?hQu1005 (v := _) (Or.inl ⟨?hwu1005, ?hyu1005⟩) (⟨c2', c1'⟩) ?_
        case hiu1005 => (simp only [List.getElem?_toArray, List.getElem?_cons_succ, List.getElem?_cons_zero]; exact rfl)
        case hsu1005 => kernel_rfl
        case hfu1005 => kernel_rfl
        case hru1005 => kernel_rfl
        case hzu1005 => kernel_rfl
        case hccu1005 => kernel_rfl
        case hQu1005 => exact fun _ _ _ h => h
        case hwu1005 => rfl
        case hyu1005 => (intro w hSw; (try dsimp only at hSw); go_simp; (try with_reducible rfl))
        try simp only [Act.put, List.setIfInBounds_toArray, List.set_cons_zero, List.set_cons_succ]
        refine' wpTail_take2 (i := 5) (oi := _) ?hiu1006 ?hsu1006 ?hfu1006 ?hru1006 ?hzu1006 ?hccu1006 ?hQu1006 (v := _) (Or.inl ⟨?hwu1006, ?hyu1006⟩) (⟨c2', c1'⟩) ?_
        case hiu1006 => (simp only [List.getElem?_toArray, List.getElem?_cons_succ, List.getElem?_cons_zero]; exact rfl)
        case hsu1006 => kernel_rfl
        case hfu1006 => kernel_rfl
        case hru1006 => kernel_rfl
        case hzu1006 => kernel_rfl
        case hccu1006 => kernel_rfl
        case hQu1006 => exact fun _ _ _ h => h
        case hwu1006 => rfl
        case hyu1006 => (intro w hSw; (try dsimp only at hSw); go_simp; (try with_reducible rfl))
        try simp only [Act.put, List.setIfInBounds_toArray, List.set_cons_zero, List.set_cons_succ]
        refine' wpTail_take2 (i := 6) (oi := _) ?hiu1007 ?hsu1007 ?hfu1007 ?hru1007 ?hzu1007 ?hccu1007 ?hQu1007 (v := _) (Or.inl ⟨?hwu1007, ?hyu1007⟩) (⟨c2', c1'⟩) ?_
        case hiu1007 => (simp only [List.getElem?_toArray, List.getElem?_cons_succ, List.getElem?_cons_zero]; exact rfl)
        case hsu1007 => kernel_rfl
        case hfu1007 => kernel_rfl
        case hru1007 => kernel_rfl
        case hzu1007 => kernel_rfl
        case hccu1007 => kernel_rfl
        case hQu1007 => exact fun _ _ _ h => h
        case hwu1007 => rfl
        case hyu1007 => (intro w hSw; (try dsimp only at hSw); go_simp; (try with_reducible rfl))
        try simp only [Act.put, List.setIfInBounds_toArray, List.set_cons_zero, List.set_cons_succ]
        refine' wpTail_take2 (i := 7) (oi := _) ?hiu1008 ?hsu1008 ?hfu1008 ?hru1008 ?hzu1008 ?hccu1008 ?hQu1008 (v := _) (Or.inl ⟨?hwu1008, ?hyu1008⟩) (⟨c2', c1'⟩) ?_
        case hiu1008 => (simp only [List.getElem?_toArray, List.getElem?_cons_succ, List.getElem?_cons_zero]; exact rfl)
        case hsu1008 => kernel_rfl
        case hfu1008 => kernel_rfl
        case hru1008 => kernel_rfl
        case hzu1008 => kernel_rfl
        case hccu1008 => kernel_rfl
        case hQu1008 => exact fun _ _ _ h => h
        case hwu1008 => rfl
        case hyu1008 => (intro w hSw; (try dsimp only at hSw); go_simp; (try with_reducible rfl))
        try simp only [Act.put, List.setIfInBounds_toArray, List.set_cons_zero, List.set_cons_succ]
        refine' wpTail_take2 (i := 8) (oi := _) ?hiu1009 ?hsu1009 ?hfu1009 ?hru1009 ?hzu1009 ?hccu1009 ?hQu1009 (v := _) (Or.inl ⟨?hwu1009, ?hyu1009⟩) (⟨c2', c1'⟩) ?_
        case hiu1009 => (simp only [List.getElem?_toArray, List.getElem?_cons_succ, List.getElem?_cons_zero]; exact rfl)
        case hsu1009 => kernel_rfl
        case hfu1009 => kernel_rfl
        case hru1009 => kernel_rfl
        case hzu1009 => kernel_rfl
        case hccu1009 => kernel_rfl
        case hQu1009 => exact fun _ _ _ h => h
        case hwu1009 => rfl
        case hyu1009 => (intro w hSw; (try dsimp only at hSw); go_simp; (try with_reducible rfl))
        try simp only [Act.put, List.setIfInBounds_toArray, List.set_cons_zero, List.set_cons_succ]
        refine' wpTail_take2 (i := 9) (oi := _) ?hiu1010 ?hsu1010 ?hfu1010 ?hru1010 ?hzu1010 ?hccu1010 ?hQu1010 (v := _) (Or.inl ⟨?hwu1010, ?hyu1010⟩) (⟨c2', c1'⟩) ?_
        case hiu1010 => (simp only [List.getElem?_toArray, List.getElem?_cons_succ, List.getElem?_cons_zero]; exact rfl)
        case hsu1010 => kernel_rfl
        case hfu1010 => kernel_rfl
        case hru1010 => kernel_rfl
        case hzu1010 => kernel_rfl
        case hccu1010 => kernel_rfl
        case hQu1010 => exact fun _ _ _ h => h
        case hwu1010 => rfl
        case hyu1010 => (intro w hSw; (try dsimp only at hSw); go_simp; (try with_reducible rfl))
        try simp only [Act.put, List.setIfInBounds_toArray, List.set_cons_zero, List.set_cons_succ]
        refine' wpTail_take2 (i := 10) (oi := _) ?hiu1011 ?hsu1011 ?hfu1011 ?hru1011 ?hzu1011 ?hccu1011 ?hQu1011 (v := _) (Or.inl ⟨?hwu1011, ?hyu1011⟩) (⟨c2', c1'⟩) ?_
        case hiu1011 => (simp only [List.getElem?_toArray, List.getElem?_cons_succ, List.getElem?_cons_zero]; exact rfl)
        case hsu1011 => kernel_rfl
        case hfu1011 => kernel_rfl
        case hru1011 => kernel_rfl
        case hzu1011 => kernel_rfl
        case hccu1011 => kernel_rfl
        case hQu1011 => exact fun _ _ _ h => h
        case hwu1011 => rfl
        case hyu1011 => (intro w hSw; (try dsimp only at hSw); go_simp; (try with_reducible rfl))
        try simp only [Act.put, List.setIfInBounds_toArray, List.set_cons_zero, List.set_cons_succ]
        refine' wpTail_one (i := 11) (o := _) (by kernel_rfl) ?hou1012 ?hwu1012 (fun K hK => ?_)
        case hou1012 => (simp only [List.getElem?_toArray, List.getElem?_cons_succ, List.getElem?_cons_zero]; exact rfl)
        case hwu1012 => rfl
        go_simp
        obtain ⟨tb, htb⟩ : ∃ n, n = W3.heap.size := ⟨_, rfl⟩
        obtain ⟨W4, hW4⟩ : ∃ W, W = (W3.alloc (.cells #[.string ⟨#[]⟩, .bool false, .slice none 0 0] 44)).drew := ⟨_, rfl⟩
        have HT4 := hide (show Blk W4 tb 44 #[.string ⟨#[]⟩, .bool false, .slice none 0 0] from by rw [hW4, htb]; exact (Blk.new _ _ _).drew)
        have hbx4 : Below W3.heap.size W3 W4 := by rw [hW4]; exact ((Below.refl _ _).alloc (Nat.le_refl _) _).drew
        have HP4 := hide (HP3.out.below hbx4 HP3.out.lt)
        have HR4 := hide (HR3.out.below hbx4 HR3.out.lt)
        have HBE4 := hide (HBE3.out.trans (hbx4.mono HBE3.out.size))
        have g1c : W4.cell? ⟨g, 1, none⟩ = some (.string T) := (hbx4.cell (p := ⟨g, 1, none⟩) HGL.out).trans HX1.out
        have HTB := hide (show w.heap.size ≤ tb ∧ rb < tb ∧ pb < tb from by rw [htb]; exact ⟨HBE3.out.size, HR3.out.lt, HP3.out.lt⟩)
        rw [← hW4, ← htb]
        refine hK.out _ _ (fun _ => ⟨HP2.out _ HP4.out, g1c⟩) ?_
        clear hK K hbx4 hW4 htb g1c
        try simp only [Act.put, List.setIfInBounds_toArray, List.set_cons_zero, List.set_cons_succ]
        have y0 := HT4.out.cell 0
        have y1 := HT4.out.cell 1
        have y2 := HT4.out.cell 2
        have z0 := HT4.out.frozen 0
        have z1 := HT4.out.frozen 1
        have z2 := HT4.out.frozen 2
        simp at y0 y1 y2
        generalize hnb : (X2.toList == [110, 101, 118, 101, 114]) = nb
        have HNB := hide hnb
        clear hnb
        refine' wpTail_one (i := 12) (o := _) (by kernel_rfl) ?hou1013 ?hwu1013 (fun K hK => ?_)
        case hou1013 => (simp only [List.getElem?_toArray, List.getElem?_cons_succ, List.getElem?_cons_zero]; exact rfl)
        case hwu1013 => rfl
        go_simp
        have ht5 := set_told HT4.out (.string T) (.bool nb) (.slice none 0 0)
        have hbx5 := below_told (Below.refl tb W4) (Nat.le_refl _) (.string T) (.bool nb) (.slice none 0 0)
        generalize hW5 : ((W4.setCell ⟨tb, 0, none⟩ (.string T)).setCell ⟨tb, 1, none⟩ (.bool nb)).setCell ⟨tb, 2, none⟩ (.slice none 0 0) = W5 at ht5 hbx5 ⊢
        have HT5 := hide ht5
        have HP5 := hide (HP4.out.below hbx5 HTB.out.2.2)
        have HR5 := hide (HR4.out.below hbx5 HTB.out.2.1)
        have HBE5 := hide (HBE4.out.trans (hbx5.mono HTB.out.1))
        refine hK.out _ _ (fun h => absurd rfl h) ?_
        clear hK K hW5 ht5 hbx5 y0 y1 y2 z0 z1 z2 hHeld
        try simp only [Act.put, List.setIfInBounds_toArray, List.set_cons_zero, List.set_cons_succ]
        refine wpTail_done (by kernel_rfl) ?_ _
        have hx1s : X1.size ≤ 65000 := by
          have h1 : X1.data.toList ∈ splitS s.data.toList := by rw [← HPS.out]; exact List.mem_map.2 ⟨X1, List.mem_of_getElem? HXX.out.2, rfl⟩
          have h2 := join_mem h1
          rw [HN.out.2.2, ← Go.Lib.size_eq, ← Go.Lib.size_eq] at h2
          have := HS.out
          omega
        have hg2 : (splitS s.data.toList).getD n2 [] = X2.data.toList := by
          rw [← HPS.out, List.getD_eq_getElem?_getD, List.getElem?_map, HXX.out.1]; rfl
        have hg1 : (splitS s.data.toList).getD (n2 + 1) [] = X1.data.toList := by
          rw [← HPS.out, List.getD_eq_getElem?_getD, List.getElem?_map, HXX.out.2]; rfl
        have htr : toldR (splitS s.data.toList) n2 (.ok (t :: rest)) = some ⟨t.t, nb, if X1.data.toList = [45] then [] else X1.data.toList.map (· == 49)⟩ := by
          have h5 : t.k = 4 := by rw [← HTT.out.1]; exact h4
          have h6 : (X2.data.toList == [110, 101, 118, 101, 114]) = nb := by rw [← ByteArray.toList_eq]; exact HNB.out
          unfold toldR
          rw [hg2, hg1, h6]
          exact if_pos h5
        have HTR := hide htr
        have HX1S := hide hx1s
        have c1'' : W5.cell? ⟨pb, n2 + 1, none⟩ = some (.string X1) := HP1'.out _ HP5.out
        clear hx1s hg2 hg1 htr c1' c2' HSP
        by_cases h45 : X1.toList = [45]
        · have hcmp : (X1.toList == [45]) = true := by rw [h45]; rfl
          have hl45 : X1.data.toList = [45] := by rw [← ByteArray.toList_eq]; exact h45
          have HL45 := hide hl45
          have y0 := HT5.out.cell 0
          have y1 := HT5.out.cell 1
          have y2 := HT5.out.cell 2
          have c0 := HR5.out.cell 0
          have c1 := HR5.out.cell 1
          have c2 := HR5.out.cell 2
          have z0 := HR5.out.frozen 0
          have z1 := HR5.out.frozen 1
          have z2 := HR5.out.frozen 2
          simp at y0 y1 y2 c0 c1 c2
          clear hl45
          go_wp2_with fail
          refine ret_told rfl rfl rfl rfl (g := rb) (x := .string T) (y := .bool nb) (z := .slice none 0 0) ?_ ?_
          · exact set_told HR5.out _ _ _
          · rw [HTR.out, if_pos HL45.out, HTT.out.2]
            exact ⟨_, rfl, World.ownsRow_nil _ _ _ _, below_told HBE5.out (by rw [HRB.out]; exact Nat.le_refl _) _ _ _⟩
        · have hcmp : (X1.toList == [45]) = false := beq_false_of_ne h45
          have hl45 : ¬ X1.data.toList = [45] := by rw [← ByteArray.toList_eq]; exact h45
          have HL45 := hide hl45
          obtain ⟨Bq, hBq⟩ : ∃ n, n = W5.heap.size := ⟨_, rfl⟩
          have h0 : LoopRel w rb pb tb Bq xs T nb X1 (.int .i64 ((0 : Nat) : Int)) W5 := ⟨0, rfl, Nat.zero_le _, .slice none 0 0, HT5.out, World.ownsRow_nil _ _ _ _, HR5.out, HP5.out, HBE5.out, by rw [hBq]; exact Nat.le_refl _⟩
          have H0 := hide h0
          have htb : tb < Bq := by rw [hBq]; exact HT5.out.lt
          have hrb : rb < Bq := by rw [hBq]; exact HR5.out.lt
          have hpb : pb < Bq := by rw [hBq]; exact HP5.out.lt
          have hwb : w.heap.size ≤ Bq := by rw [hBq]; exact HBE5.out.size
          have HQ := hide (And.intro htb (And.intro hrb (And.intro hpb hwb)))
          clear hl45 h0 hBq htb hrb hpb hwb
          go_wp2_with fail
          go_loopw [9, 60] (fun _ i wr => LoopRel w rb pb tb Bq xs T nb X1 i wr) (fun _ i _ => (((X1.size : Int) - intOf i).toNat))
          case atStart => exact H0.out
          case round =>
            obtain ⟨k, rfl, hk, v, htd, hown, hrr, hpp, hbb, hbq⟩ := hrel
            by_cases hlt : k < X1.size
            · have j1 : (k : Int) < (X1.size : Int) := by omega
              have q3 : IntKind.i64.wrap ((k : Int) + 1) = (k : Int) + 1 := IntWalk.i64_in _ (by have := HX1S.out; omega)
              obtain ⟨Av, kv, rfl⟩ := own_formT hown
              have v2 : wr.drew.cell? ⟨tb, 2, none⟩ = some (.slice Av k kv) := htd.cell 2
              have x1c : wr.drew.cell? ⟨pb, n2 + 1, none⟩ = some (.string X1) := HP1'.out _ hpp
              have HOWN := hide hown
              have HTD := hide htd
              have HRR := hide hrr
              have HPP := hide hpp
              have HBB := hide hbb
              have HBQ := hide hbq
              clear hown htd hrr hpp hbb hbq
              go_upto_region 13 with (fail)
              refine wp_region_tail 13 (fun w' => w'.cell? ⟨tb, 2, none⟩ = some (.slice Av k kv) ∧ w'.cell? ⟨pb, n2 + 1, none⟩ = some (.string X1)) (by kernel_rfl) ⟨v2, x1c⟩ (fun hHeld => ?_)
              try simp only [Act.put, List.setIfInBounds_toArray, List.set_cons_zero, List.set_cons_succ]
              refine' wpTail_take2 (i := 0) (oi := _) ?hiu1014 ?hsu1014 ?hfu1014 ?hru1014 ?hzu1014 ?hccu1014 ?hQu1014 (v := _) (Or.inl ⟨?hwu1014, ?hyu1014⟩) (⟨v2, x1c⟩) ?_
              case hiu1014 => (simp only [List.getElem?_toArray, List.getElem?_cons_zero]; exact rfl)
              case hsu1014 => kernel_rfl
              case hfu1014 => kernel_rfl
              case hru1014 => kernel_rfl
              case hzu1014 => kernel_rfl
              case hccu1014 => kernel_rfl
              case hQu1014 => exact fun _ _ _ h => h
              case hwu1014 => rfl
              case hyu1014 => (intro w hSw; (try dsimp only at hSw); go_simp; (try with_reducible rfl))
              try simp only [Act.put, List.setIfInBounds_toArray, List.set_cons_zero, List.set_cons_succ]
              refine' wpTail_take2 (i := 1) (oi := _) ?hiu1015 ?hsu1015 ?hfu1015 ?hru1015 ?hzu1015 ?hccu1015 ?hQu1015 (v := _) (Or.inl ⟨?hwu1015, ?hyu1015⟩) (⟨v2, x1c⟩) ?_
              case hiu1015 => (simp only [List.getElem?_toArray, List.getElem?_cons_succ, List.getElem?_cons_zero]; exact rfl)
              case hsu1015 => kernel_rfl
              case hfu1015 => kernel_rfl
              case hru1015 => kernel_rfl
              case hzu1015 => kernel_rfl
              case hccu1015 => kernel_rfl
              case hQu1015 => exact fun _ _ _ h => h
              case hwu1015 => rfl
              case hyu1015 => (intro w hSw; (try dsimp only at hSw); go_simp; (try with_reducible rfl))
              try simp only [Act.put, List.setIfInBounds_toArray, List.set_cons_zero, List.set_cons_succ]
              refine' wpTail_take2 (i := 2) (oi := _) ?hiu1016 ?hsu1016 ?hfu1016 ?hru1016 ?hzu1016 ?hccu1016 ?hQu1016 (v := _) (Or.inl ⟨?hwu1016, ?hyu1016⟩) (⟨v2, x1c⟩) ?_
              case hiu1016 => (simp only [List.getElem?_toArray, List.getElem?_cons_succ, List.getElem?_cons_zero]; exact rfl)
              case hsu1016 => kernel_rfl
              case hfu1016 => kernel_rfl
              case hru1016 => kernel_rfl
              case hzu1016 => kernel_rfl
              case hccu1016 => kernel_rfl
              case hQu1016 => exact fun _ _ _ h => h
              case hwu1016 => rfl
              case hyu1016 => (intro w hSw; (try dsimp only at hSw); go_simp; (try with_reducible rfl))
              try simp only [Act.put, List.setIfInBounds_toArray, List.set_cons_zero, List.set_cons_succ]
              refine' wpTail_take2 (i := 3) (oi := _) ?hiu1017 ?hsu1017 ?hfu1017 ?hru1017 ?hzu1017 ?hccu1017 ?hQu1017 (v := _) (Or.inl ⟨?hwu1017, ?hyu1017⟩) (⟨v2, x1c⟩) ?_
              case hiu1017 => (simp only [List.getElem?_toArray, List.getElem?_cons_succ, List.getElem?_cons_zero]; exact rfl)
              case hsu1017 => kernel_rfl
              case hfu1017 => kernel_rfl
              case hru1017 => kernel_rfl
              case hzu1017 => kernel_rfl
              case hccu1017 => kernel_rfl
              case hQu1017 => exact fun _ _ _ h => h
              case hwu1017 => rfl
              case hyu1017 => (intro w hSw; (try dsimp only at hSw); go_simp; (try with_reducible rfl))
              try simp only [Act.put, List.setIfInBounds_toArray, List.set_cons_zero, List.set_cons_succ]
              refine' wpTail_take2 (i := 4) (oi := _) ?hiu1018 ?hsu1018 ?hfu1018 ?hru1018 ?hzu1018 ?hccu1018 ?hQu1018 (v := _) (Or.inl ⟨?hwu1018, ?hyu1018⟩) (⟨v2, x1c⟩) ?_
              case hiu1018 => (simp only [List.getElem?_toArray, List.getElem?_cons_succ, List.getElem?_cons_zero]; exact rfl)
              case hsu1018 => kernel_rfl
              case hfu1018 => kernel_rfl
              case hru1018 => kernel_rfl
              case hzu1018 => kernel_rfl
              case hccu1018 => kernel_rfl
              case hQu1018 => exact fun _ _ _ h => h
              case hwu1018 => rfl
              case hyu1018 => (intro w hSw; (try dsimp only at hSw); go_simp; (try with_reducible rfl))
              try simp only [Act.put, List.setIfInBounds_toArray, List.set_cons_zero, List.set_cons_succ]
              refine' wpTail_take2 (i := 5) (oi := _) ?hiu1019 ?hsu1019 ?hfu1019 ?hru1019 ?hzu1019 ?hccu1019 ?hQu1019 (v := _) (Or.inl ⟨?hwu1019, ?hyu1019⟩) (⟨v2, x1c⟩) ?_
              case hiu1019 => (simp only [List.getElem?_toArray, List.getElem?_cons_succ, List.getElem?_cons_zero]; exact rfl)
              case hsu1019 => kernel_rfl
              case hfu1019 => kernel_rfl
              case hru1019 => kernel_rfl
              case hzu1019 => kernel_rfl
              case hccu1019 => kernel_rfl
              case hQu1019 => exact fun _ _ _ h => h
              case hwu1019 => rfl
              case hyu1019 => (intro w hSw; (try dsimp only at hSw); go_simp; (try with_reducible rfl))
              try simp only [Act.put, List.setIfInBounds_toArray, List.set_cons_zero, List.set_cons_succ]
              refine' wpTail_take2 (i := 6) (oi := _) ?hiu1020 ?hsu1020 ?hfu1020 ?hru1020 ?hzu1020 ?hccu1020 ?hQu1020 (v := _) (Or.inl ⟨?hwu1020, ?hyu1020⟩) (⟨v2, x1c⟩) ?_
              case hiu1020 => (simp only [List.getElem?_toArray, List.getElem?_cons_succ, List.getElem?_cons_zero]; exact rfl)
              case hsu1020 => kernel_rfl
              case hfu1020 => kernel_rfl
              case hru1020 => kernel_rfl
              case hzu1020 => kernel_rfl
              case hccu1020 => kernel_rfl
              case hQu1020 => exact fun _ _ _ h => h
              case hwu1020 => rfl
              case hyu1020 => (intro w hSw; (try dsimp only at hSw); go_simp; (try with_reducible rfl))
              try simp only [Act.put, List.setIfInBounds_toArray, List.set_cons_zero, List.set_cons_succ]
              refine' wpTail_take2 (i := 7) (oi := _) ?hiu1021 ?hsu1021 ?hfu1021 ?hru1021 ?hzu1021 ?hccu1021 ?hQu1021 (v := _) (Or.inl ⟨?hwu1021, ?hyu1021⟩) (⟨v2, x1c⟩) ?_
              case hiu1021 => (simp only [List.getElem?_toArray, List.getElem?_cons_succ, List.getElem?_cons_zero]; exact rfl)
              case hsu1021 => kernel_rfl
              case hfu1021 => kernel_rfl
              case hru1021 => kernel_rfl
              case hzu1021 => kernel_rfl
              case hccu1021 => kernel_rfl
              case hQu1021 => exact fun _ _ _ h => h
              case hwu1021 => rfl
              case hyu1021 => (intro w hSw; (try dsimp only at hSw); go_simp; (try with_reducible rfl))
              try simp only [Act.put, List.setIfInBounds_toArray, List.set_cons_zero, List.set_cons_succ]
              refine' wpTail_take2 (i := 8) (oi := _) ?hiu1022 ?hsu1022 ?hfu1022 ?hru1022 ?hzu1022 ?hccu1022 ?hQu1022 (v := _) (Or.inl ⟨?hwu1022, ?hyu1022⟩) (⟨v2, x1c⟩) ?_
              case hiu1022 => (simp only [List.getElem?_toArray, List.getElem?_cons_succ, List.getElem?_cons_zero]; exact rfl)
              case hsu1022 => kernel_rfl
              case hfu1022 => kernel_rfl
              case hru1022 => kernel_rfl
              case hzu1022 => kernel_rfl
              case hccu1022 => kernel_rfl
              case hQu1022 => exact fun _ _ _ h => h
              case hwu1022 => rfl
              case hyu1022 => (intro w hSw; (try dsimp only at hSw); go_simp; (try with_reducible rfl))
              try simp only [Act.put, List.setIfInBounds_toArray, List.set_cons_zero, List.set_cons_succ]
              refine' wpTail_take2 (i := 9) (oi := _) ?hiu1023 ?hsu1023 ?hfu1023 ?hru1023 ?hzu1023 ?hccu1023 ?hQu1023 (v := _) (Or.inl ⟨?hwu1023, ?hyu1023⟩) (⟨v2, x1c⟩) ?_
              case hiu1023 => (simp only [List.getElem?_toArray, List.getElem?_cons_succ, List.getElem?_cons_zero]; exact rfl)
              case hsu1023 => kernel_rfl
              case hfu1023 => kernel_rfl
              case hru1023 => kernel_rfl
              case hzu1023 => kernel_rfl
              case hccu1023 => kernel_rfl
              case hQu1023 => exact fun _ _ _ h => h
              case hwu1023 => rfl
              case hyu1023 => (intro w hSw; (try dsimp only at hSw); go_simp; (try with_reducible rfl))
              try simp only [Act.put, List.setIfInBounds_toArray, List.set_cons_zero, List.set_cons_succ]
              refine' wpTail_one (i := 10) (o := _) (by kernel_rfl) ?hou1024 ?hwu1024 (fun K hK => ?_)
              case hou1024 => (simp only [List.getElem?_toArray, List.getElem?_cons_succ, List.getElem?_cons_zero]; exact rfl)
              case hwu1024 => rfl
              go_simp
              obtain ⟨bq, hbq'⟩ : ∃ b : Bool, b = (((X1[k]'hlt).toNat : Int) == 49) := ⟨_, rfl⟩
              rw [← hbq']
              obtain ⟨eb, heb⟩ : ∃ n, n = wr.heap.size := ⟨_, rfl⟩
              have hRD : Reads (wr.alloc (.cells #[.bool bq] 4)).drew (eb + 1) 1 (some ⟨eb, 0, none⟩) 1 [.bool bq] := by
                have h := reads_newT wr #[.bool bq] 4 1 1 rfl
                have e : (wr.alloc (.cells #[.bool bq] 4)).heap.size = wr.heap.size + 1 := by simp
                rw [e, ← heb] at h
                exact h
              have hbx6 : Below wr.heap.size wr (wr.alloc (.cells #[.bool bq] 4)).drew := ((Below.refl _ _).alloc (Nat.le_refl _) _).drew
              have hsz6 : (wr.alloc (.cells #[.bool bq] 4)).drew.heap.size = eb + 1 := by rw [heb]; exact World.size_alloc _ _
              rw [← heb]
              generalize hW6 : (wr.alloc (.cells #[.bool bq] 4)).drew = W6 at hRD hbx6 hsz6 ⊢
              have ht6 := HTD.out.below hbx6 HTD.out.lt
              have hp6 := HPP.out.below hbx6 HPP.out.lt
              have hr6 := HRR.out.below hbx6 HRR.out.lt
              have ho6 := own_belowT HOWN.out hbx6
              have hb6 := HBB.out.trans (hbx6.mono HBB.out.size)
              refine hK.out _ _ (fun _ => ⟨ht6.cell 2, HP1'.out _ hp6⟩) ?_
              clear hK K
              try simp only [Act.put, List.setIfInBounds_toArray, List.set_cons_zero, List.set_cons_succ]
              obtain ⟨i0, hi0, hz0, hz1, hz2⟩ := info_parts boolInfo
              refine' wpTail_one (i := 11) (o := _) (by kernel_rfl) ?hou1025 ?hwu1025 (fun K hK => ?_)
              case hou1025 => (simp only [List.getElem?_toArray, List.getElem?_cons_succ, List.getElem?_cons_zero]; exact rfl)
              case hwu1025 => rfl
              refine wp_append_any _ (.tmp 64) (.tmp 73) _ rfl Bq 4 i0 _ 1 1 Tryd.underlying42 hi0 hz0 hz1 hz2 rfl (by omega) (.slice Av k kv) k _ (by simp [Act.eval]) ho6 (eb + 1) (some ⟨eb, 0, none⟩) 1 1 [.bool bq] (by simp [Act.eval]) hRD (by intro u hu; simp at hu; subst hu; rfl) (by have := HX1S.out; simp only [maxLen]; omega) (by have := HX1S.out; omega) (by rw [hsz6, heb]; have := HBQ.out; omega) ?_
              intro v7 w7 hown7 hg7 hat7
              obtain ⟨A7, k7, rfl⟩ := own_formT hown7
              have hnt : some tb ≠ (Value.slice Av k kv).ownBlock := fun e => by have := (ho6.lt tb e.symm).1; have := HQ.out.1; omega
              have hnp : some pb ≠ (Value.slice Av k kv).ownBlock := fun e => by have := (ho6.lt pb e.symm).1; have := HQ.out.2.2.1; omega
              have hnr : some rb ≠ (Value.slice Av k kv).ownBlock := fun e => by have := (ho6.lt rb e.symm).1; have := HQ.out.2.1; omega
              have ht7 := ht6.grown hg7 hnt
              have hp7 := hp6.grown hg7 hnp
              have hr7 := hr6.grown hg7 hnr
              have hb7 : Below w.heap.size w w7 := hb6.grown hg7 hb6.size (fun q hq => by have := (ho6.lt q hq).1; have := HQ.out.2.2.2; omega)
              have hs7 : Bq ≤ w7.heap.size := by have h := hg7.size; have := HBQ.out; omega
              refine hK.out _ _ (fun _ => ⟨ht7.cell 2, HP1'.out _ hp7⟩) ?_
              clear hK K
              try simp only [Act.put, List.setIfInBounds_toArray, List.set_cons_zero, List.set_cons_succ]
              have d5 : w7.cell? ⟨tb, 2, none⟩ = some (.slice Av k kv) := ht7.cell 2
              have f5 := ht7.frozen 2
              refine' wpTail_take2 (i := 12) (oi := _) ?hiu1026 ?hsu1026 ?hfu1026 ?hru1026 ?hzu1026 ?hccu1026 ?hQu1026 (v := _) (Or.inl ⟨?hwu1026, ?hyu1026⟩) (⟨ht7.cell 2, HP1'.out _ hp7⟩) ?_
              case hiu1026 => (simp only [List.getElem?_toArray, List.getElem?_cons_succ, List.getElem?_cons_zero]; exact rfl)
              case hsu1026 => kernel_rfl
              case hfu1026 => kernel_rfl
              case hru1026 => kernel_rfl
              case hzu1026 => kernel_rfl
              case hccu1026 => kernel_rfl
              case hQu1026 => exact fun _ _ _ h => h
              case hwu1026 => rfl
              case hyu1026 => (intro w hSw; (try dsimp only at hSw); go_simp; (try with_reducible rfl))
              try simp only [Act.put, List.setIfInBounds_toArray, List.set_cons_zero, List.set_cons_succ]
              refine' wpTail_one (i := 13) (o := _) (by kernel_rfl) ?hou1027 ?hwu1027 (fun K hK => ?_)
              case hou1027 => (simp only [List.getElem?_toArray, List.getElem?_cons_succ, List.getElem?_cons_zero]; exact rfl)
              case hwu1027 => rfl
              go_simp
              have hfin : Blk (w7.setCell ⟨tb, 2, none⟩ (.slice A7 (k + 1) k7)) tb 44 #[.string T, .bool nb, .slice A7 (k + 1) k7] ∧ (w7.setCell ⟨tb, 2, none⟩ (.slice A7 (k + 1) k7)).ownsRow Bq 4 1 (.slice A7 (k + 1) k7) (k + 1) ((X1.data.toList.take (k + 1)).map fun b => Value.bool (b == 49)) ∧
                  Blk (w7.setCell ⟨tb, 2, none⟩ (.slice A7 (k + 1) k7)) rb 44 #[.string ⟨#[]⟩, .bool false, .slice none 0 0] ∧ Blk (w7.setCell ⟨tb, 2, none⟩ (.slice A7 (k + 1) k7)) pb 9 (xs.map Value.string).toArray ∧ Below w.heap.size w (w7.setCell ⟨tb, 2, none⟩ (.slice A7 (k + 1) k7)) ∧ Bq ≤ (w7.setCell ⟨tb, 2, none⟩ (.slice A7 (k + 1) k7)).heap.size := by
                refine ⟨by simpa using ht7.set_ 2 (.slice A7 (k + 1) k7), ?_, hr7.far (p := ⟨tb, 2, none⟩) (by have := HTB.out.2.1; show rb ≠ tb; omega) _, hp7.far (p := ⟨tb, 2, none⟩) (by have := HTB.out.2.2; show pb ≠ tb; omega) _, hb7.setCell (p := ⟨tb, 2, none⟩) HTB.out.1 _, by simpa using hs7⟩
                refine ownsRow_setCell_other (a := ⟨tb, 2, none⟩) ?_ (fun e => by have := (hown7.lt tb e).1; have := HQ.out.1; omega) _
                rw [take_next hlt, List.map_append]
                have e : (bq : Bool) = (X1[k]'hlt == 49) := by
                  rw [hbq']
                  have h49 : (((X1[k]'hlt).toNat : Int) == 49) = ((X1[k]'hlt) == 49) := by
                    by_cases h : X1[k]'hlt = 49
                    · rw [h]; rfl
                    · rw [beq_false_of_ne h, beq_false_of_ne]
                      intro e
                      exact h (u8_int (n := 49) (by omega) e)
                  exact h49
                rw [e] at hown7
                exact hown7
              have HFIN := hide hfin
              refine hK.out _ _ (fun h => absurd rfl h) ?_
              clear hK K hfin hHeld d5 f5 hown7 hg7 hat7 ht7 hp7 hr7 hb7 hs7 hnt hnp hnr ht6 hp6 hr6 ho6 hb6 hRD hbx6 hsz6 hW6 hbq' heb v2 x1c
              try simp only [Act.put, List.setIfInBounds_toArray, List.set_cons_zero, List.set_cons_succ]
              refine wpTail_done (by kernel_rfl) ?_ _
              go_wp2_with fail
              go_roundw
              case rel => exact ⟨k + 1, by simp, by omega, .slice A7 (k + 1) k7, HFIN.out.1, HFIN.out.2.1, HFIN.out.2.2.1, HFIN.out.2.2.2.1, HFIN.out.2.2.2.2.1, HFIN.out.2.2.2.2.2⟩
              case measure => simp [intOf]; omega
            · have j1 : ¬ (k : Int) < (X1.size : Int) := by omega
              have hkk : X1.data.toList.take k = X1.data.toList := List.take_of_length_le (by rw [← Go.Lib.size_eq]; omega)
              rw [hkk] at hown
              have hke : k = X1.size := by omega
              have y0 := htd.cell 0
              have y1 := htd.cell 1
              have y2 := htd.cell 2
              have c0 := hrr.cell 0
              have c1 := hrr.cell 1
              have c2 := hrr.cell 2
              have z0 := hrr.frozen 0
              have z1 := hrr.frozen 1
              have z2 := hrr.frozen 2
              simp at y0 y1 y2 c0 c1 c2
              have hbo : (((wr.setCell ⟨rb, 0, none⟩ (.string T)).setCell ⟨rb, 1, none⟩ (.bool nb)).setCell ⟨rb, 2, none⟩ v).ownsRow w.heap.size 4 1 v (X1.data.toList.map (· == 49)).length ((X1.data.toList.map (· == 49)).map Value.bool) := by
                have hlm : (X1.data.toList.map (· == 49)).length = k := by rw [List.length_map, ← Go.Lib.size_eq, hke]
                rw [hlm, List.map_map]
                have hn : v.ownBlock ≠ some rb := fun e => by have := (hown.lt rb e).1; have := HQ.out.2.1; omega
                exact ownsRow_setCell_other (a := ⟨rb, 2, none⟩) (ownsRow_setCell_other (a := ⟨rb, 1, none⟩) (ownsRow_setCell_other (a := ⟨rb, 0, none⟩) (own_monoT hown HQ.out.2.2.2) hn _) hn _) hn _
              have HBO := hide hbo
              have HRR := hide hrr
              have HBB := hide hbb
              obtain ⟨Av, kv, rfl⟩ := own_formT hown
              clear hbo hrr hbb hown htd hpp hbq hkk hke
              go_wp2_with fail
              refine ret_told rfl rfl rfl rfl (g := rb) (x := .string T) (y := .bool nb) (z := .slice Av k kv) ?_ ?_
              · exact set_told HRR.out _ _ _
              · rw [HTR.out, if_neg HL45.out, HTT.out.2]
                exact ⟨_, rfl, by rw [← HTT.out.2]; exact HBO.out, below_told HBB.out (by rw [HRB.out]; exact Nat.le_refl _) _ _ _⟩
      · have h4b : (tk != 4) = true := bne_iff_ne.2 h4
        have hnone : toldR (splitS s.data.toList) n2 (.ok (t :: rest)) = none := by unfold toldR; exact if_neg (by rw [← HTT.out.1]; exact h4)
        have HNO := hide hnone
        clear hnone
        have c0 := HR3.out.cell 0
        have c1 := HR3.out.cell 1
        have c2 := HR3.out.cell 2
        have z0 := HR3.out.frozen 0
        have z1 := HR3.out.frozen 1
        have z2 := HR3.out.frozen 2
        simp at c0 c1 c2
        go_upto_region 6 with (fail)
        rw [← HW3.out, ← HFB.out]
        go_wp2_with fail
        refine ret_told rfl rfl rfl rfl (g := rb) (x := .string ⟨#[]⟩) (y := .bool false) (z := .slice none 0 0) ?_ ?_
        · exact set_told HR3.out _ _ _
        · rw [HNO.out]
          exact ⟨rfl, below_told HBE3.out (by rw [HRB.out]; exact Nat.le_refl _) _ _ _⟩
end Go.Proofs.YtgnobpljnahceaaDoor
