/- The program's Decode; conditions: the text's size, the library's variable and table. -/
import Derived.Test.YtgnobpljnahceaaDoorFcH
namespace Go.Proofs.YtgnobpljnahceaaDoor
open Go.RowKit Go.WideShapes Go.ChangeShapes Go.Shelf
set_option linter.unusedVariables false
set_option linter.unusedSimpArgs false
set_option maxRecDepth 100000
attribute [local go_sem] Oper.semAt_some

theorem lines_any (s : ByteArray) (w : World) : Calls Tryd.prog 26 #[.string s] w fun e w' => e = .returned (.func (.func 36) #[] #[.pointer (some ⟨w.heap.size, 0, none⟩)]) ∧ w' = w.alloc (.cells #[.string s] 9) := by
  go_enter Tryd.func26, Tryd.ntmps26
  go_wp2_with fail
  go_ret
  exact ⟨rfl, rfl⟩
theorem has_sum (x : Bs) (w : World) : Calls Tryd.prog 27 #[.string ⟨x.toArray⟩, .string ⟨#[115, 117, 109, 32]⟩] w fun e w' => e = .returned (.bool (isSum x)) ∧ w' = w := Any.strings_HasPrefix Tryd.lays99 ⟨x.toArray⟩ ⟨#[115, 117, 109, 32]⟩ w
theorem trim_end (x : Bs) (hx : x.length ≤ 65000) (w : World) : Calls Tryd.prog 29 #[.string ⟨x.toArray⟩, .string ⟨#[10]⟩] w fun e w' => e = .returned (.string ⟨(trimL x).toArray⟩) ∧ w' = w := Any.strings_TrimSuffix Tryd.lays102 ⟨x.toArray⟩ ⟨#[10]⟩ w (by rw [ba_size]; omega)
/-- The library's variable and table. -/
structure Env (w : World) : Prop where
  hm : ∃ m, w.cell? ⟨1, 0, none⟩ = some (.int .i64 m)
  hT : Tz w
theorem Env.below {w w' : World} {B : Nat} (h : Env w) (hb : Below B w w') (hB : w.heap.size ≤ B) : Env w' := by
  obtain ⟨⟨m, hm⟩, hT⟩ := h
  exact ⟨⟨m, (hb.cell (p := ⟨1, 0, none⟩) (Nat.lt_of_lt_of_le (World.block_lt_of_cell? w _ hm) hB)).trans hm⟩, hT.below hb hB⟩
theorem keeps_below {W V : World} (h : Below W.heap.size W V) : KeepsOthers W V := ⟨h.size, fun k o hk _ => (h.block k (Array.getElem?_eq_some_iff.1 hk).1).trans hk⟩
/-- Between two rounds; behind the last one. -/
def DecIn (w : World) (pre : List Ln) (W : World) : Prop := ∃ L : List PR, toldsL (pre.map (·.1)) = some (L.map (·.1)) ∧ DecI w L W
def DecOut (w : World) (c : Code) (pre : List Ln) (W : World) : Prop :=
  (c = .exit 0 ∧ ∃ (p0 : List Ln) (x : Ln) (L : List PR), pre = p0 ++ [x] ∧ isSum x.1 = true ∧ toldsL (p0.map (·.1)) = some (L.map (·.1)) ∧ DecI w L W) ∨
  (c = .ret ∧ ∃ (p0 : List Ln) (x : Ln) (l : List TD), pre = p0 ++ [x] ∧ isSum x.1 = false ∧ toldL (trimL x.1) = none ∧ toldsL (p0.map (·.1)) = some l ∧
    Boxed W w.heap.size 22 (.slice none 0 0) ∧ Boxed W (w.heap.size + 1) 25 (.int .i64 17) ∧ Below w.heap.size w W)
theorem decIn_own (w : World) : BoxOwn (w.heap.size + 3) (w.heap.size + 4) (DecIn w) := fun s A C row hs hg hr => by
  obtain ⟨L, h1, h2⟩ := hs
  exact ⟨L, h1, h2.fit hg hr⟩
theorem decOut_own (w : World) (c : Code) : BoxOwn (w.heap.size + 3) (w.heap.size + 4) (DecOut w c) := fun s A C row hs hg hr => by
  rcases hs with ⟨h1, p0, x, L, h2, h3, h4, h5⟩ | ⟨h1, p0, x, l, h2, h3, h4, h5, h6, h7, h8⟩
  · exact .inl ⟨h1, p0, x, L, h2, h3, h4, h5.fit hg hr⟩
  · exact .inr ⟨h1, p0, x, l, h2, h3, h4, h5, box_fit hg hr (by omega) h6, box_fit hg hr (by omega) h7, below_fit hg hr h8⟩
/-- What Decode answers. -/
def DecPost (w : World) (r : Option (List TD)) (e : Ending) (w' : World) : Prop :=
  match r with
  | none => e = .returned (.tuple #[.slice none 0 0, .int .i64 17]) ∧ Below w.heap.size w w'
  | some l => ∃ v, e = .returned (.tuple #[v, .int .i64 0]) ∧ TDs w' v l ∧ Below w.heap.size w w'

set_option maxHeartbeats 8000000

theorem DecI.later {w W V : World} {L : List PR} (h : DecI w L W) (hb : Below W.heap.size W V) : DecI w L V := by
  obtain ⟨v, hv, ho⟩ := h.ls
  exact ⟨⟨v, (hb.block _ hv.lt).trans hv, own_belowT ho hb⟩, fun p hp => own_belowT (h.bs p hp) hb, (hb.block _ h.r0.lt).trans h.r0, (hb.block _ h.r1.lt).trans h.r1, h.be.trans (hb.mono h.be.size), Nat.le_trans h.sz hb.size⟩
theorem toldInfo : (Tryd.prog.info? 44).map (fun i => (i.zero, i.size, i.bytes)) = some (some (.agg #[.string ByteArray.empty, .bool false, .slice none 0 0]), 3, 48) := by kernel_rfl
theorem rows_ne {W : World} {B B' e e' sz sz' n n' : Nat} {v v' : Value} {xs xs' : List Value} (h : W.ownsRow B e sz v n xs) (h' : W.ownsRow B' e' sz' v' n' xs') (hne : e ≠ e') : v.ownBlock = none ∨ v.ownBlock ≠ v'.ownBlock := by
  rcases h.2 with ⟨rfl, _⟩ | ⟨g, cap, cur, rfl, _, hgb, _⟩
  · exact .inl rfl
  · refine .inr fun e1 => ?_
    rcases h'.2 with ⟨rfl, _⟩ | ⟨g', cap', cur', rfl, _, hgb', _⟩
    · cases e1
    · obtain rfl : g = g' := by simpa [Value.ownBlock] using e1
      rw [hgb] at hgb'
      injection hgb' with h2
      injection h2 with _ h3
      exact hne h3
theorem own_block_cells {W : World} {B e sz n : Nat} {v : Value} {xs : List Value} (h : W.ownsRow B e sz v n xs) {j : Nat} {o : Obj} (hj : v.ownBlock = some j) (ho : W.heap[j]? = some o) : o.isCells = true := by
  rcases h.2 with ⟨rfl, _⟩ | ⟨g, cap, cur, rfl, _, hgb, _⟩
  · cases hj
  · obtain rfl : g = j := by simpa [Value.ownBlock] using hj
    rw [hgb] at ho
    cases ho
    rfl
theorem DecI.push {w W w' V w6 : World} {L : List PR} {t : TD} {bv v v6 : Value} (hD : DecI w L W) (hbt : Below W.heap.size W w') (hob : w'.ownsRow W.heap.size 4 1 bv t.s.length (t.s.map Value.bool)) (hbV : Below w'.heap.size w' V)
    (hv : Boxed V (w.heap.size + 2) 22 v) (hown : V.ownsRow (w.heap.size + 4) 44 3 v L.length (L.flatMap cellsP))
    (hown6 : w6.ownsRow (w.heap.size + 4) 44 3 v6 (L.length + 1) (L.flatMap cellsP ++ cellsP (t, bv))) (hg6 : V.grownBy w6 v.ownBlock) :
    Boxed w6 (w.heap.size + 2) 22 v ∧ KeepsOthers W (w6.setCell ⟨w.heap.size + 2, 0, none⟩ v6) ∧ (w6.setCell ⟨w.heap.size + 2, 0, none⟩ v6).heap[w.heap.size + 3]? = W.heap[w.heap.size + 3]? ∧
      DecI w (L ++ [(t, bv)]) (w6.setCell ⟨w.heap.size + 2, 0, none⟩ v6) := by
  have hdV : DecI w L V := (hD.later hbt).later hbV
  have hne : ∀ b, b < w.heap.size + 4 → some b ≠ v.ownBlock := fun b hb e => by have := (hown.lt b e.symm).1; omega
  have hlb : Boxed w6 (w.heap.size + 2) 22 v := hv.kept hg6 (hne _ (by omega))
  have hW : Below W.heap.size W V := hbt.trans (hbV.mono hbt.size)
  have rk : ∀ {b : Value} {n : Nat} {xs : List Value}, V.ownsRow (w.heap.size + 4) 4 1 b n xs → (w6.setCell ⟨w.heap.size + 2, 0, none⟩ v6).ownsRow (w.heap.size + 4) 4 1 b n xs := fun h =>
    ownsRow_setCell_other (a := ⟨w.heap.size + 2, 0, none⟩) (h.kept hg6 (rows_ne h hown (by decide))) (fun e => by have h1 : w.heap.size + 4 ≤ w.heap.size + 2 := (h.lt _ e).1; omega) _
  refine ⟨hlb, ?_, ?_, ⟨_, hlb.set v6, ?_⟩, fun p hp => ?_, (hdV.r0.kept hg6 (hne _ (by omega))).other (by omega) _, (hdV.r1.kept hg6 (hne _ (by omega))).other (by omega) _, ?_, ?_⟩
  · exact ((keeps_below hW).trans (KeepsOthers.of_grownBy hg6 (fun j o hj ho => own_block_cells hown hj ho))).trans (KeepsOthers.setCell _ _ _)
  · have h1 : w.heap.size + 3 < W.heap.size := by have := hD.sz; omega
    rw [Below.heap_setCell _ _ _ _ (by show w.heap.size + 3 ≠ w.heap.size + 2; omega)]
    exact (hg6.block _ (Nat.lt_of_lt_of_le h1 hW.size) (hne _ (by omega))).trans (hW.block _ h1)
  · rw [List.length_append, List.flatMap_append]
    have e : List.flatMap cellsP [(t, bv)] = cellsP (t, bv) := by simp
    rw [e]
    exact ownsRow_setCell_other (a := ⟨w.heap.size + 2, 0, none⟩) hown6 (fun e => by have h1 : w.heap.size + 4 ≤ w.heap.size + 2 := (hown6.lt _ e).1; omega) _
  · rcases List.mem_append.1 hp with hp | hp
    · exact rk (hdV.bs p hp)
    · simp at hp
      subst hp
      exact rk (own_monoT (own_belowT hob hbV) hD.sz)
  · exact ((hdV.be.grown hg6 hdV.be.size (fun k e => by have := (hown.lt k e).1; omega))).setCell (p := ⟨w.heap.size + 2, 0, none⟩) (by show w.heap.size ≤ w.heap.size + 2; omega) _
  · have := hg6.size
    have := hdV.sz
    simp
    omega
/-- At Decode's return. -/
structure DecRet (w : World) (D : Nat) (v : Value) (k : Int) (V : World) : Prop where
  c0 : (V.putObj D (.deferred none)).cell? ⟨w.heap.size, 0, none⟩ = some v
  c1 : (V.putObj D (.deferred none)).cell? ⟨w.heap.size + 1, 0, none⟩ = some (.int .i64 k)
  hK : V.heap[D]? = some (.deferred (some []))
  be : Below w.heap.size w (V.putObj D (.deferred none))
theorem dec_ret {w V : World} {D : Nat} {v : Value} {k : Int} (hD : w.heap.size + 4 ≤ D) (hK : V.heap[D]? = some (.deferred (some []))) (h0 : Boxed V w.heap.size 22 v) (h1 : Boxed V (w.heap.size + 1) 25 (.int .i64 k)) (hb : Below w.heap.size w V) : DecRet w D v k V :=
  ⟨(h0.kept (grownBy_putObj' V D _) (fun e => by injection e with e; omega)).cell, (h1.kept (grownBy_putObj' V D _) (fun e => by injection e with e; omega)).cell, hK, hb.grown (grownBy_putObj' V D _) hb.size (fun k e => by injection e with e; omega)⟩
theorem dec_store {w W V : World} {D : Nat} {L : List PR} (h : DecI w L W) (hb : Below W.heap.size W V) (hD : w.heap.size + 4 ≤ D) (hK : W.heap[D]? = some (.deferred (some []))) (v : Value) (k : Int) : DecRet w D v k ((V.setCell ⟨w.heap.size, 0, none⟩ v).setCell ⟨w.heap.size + 1, 0, none⟩ (.int .i64 k)) := by
  have hl := h.later hb
  have hk1 : V.heap[D]? = some (.deferred (some [])) := (hb.block D (Array.getElem?_eq_some_iff.1 hK).1).trans hK
  refine dec_ret hD ((KeepsOthers.setCell _ _ _).same D _ ((KeepsOthers.setCell _ _ _).same D _ hk1 rfl) rfl) ((hl.r0.set v).other (by omega) _) ((hl.r1.other (by omega) _).set _) ?_
  exact (hl.be.setCell (p := ⟨w.heap.size, 0, none⟩) (Nat.le_refl _) _).setCell (p := ⟨w.heap.size + 1, 0, none⟩) (by show w.heap.size ≤ w.heap.size + 1; omega) _
theorem tds_rows {W : World} {base : Nat} {L : List PR} {v : Value} (ho : W.ownsRow base 44 3 v L.length (L.flatMap cellsP)) (hbs : ∀ p ∈ L, W.ownsRow base 4 1 p.2 p.1.s.length (p.1.s.map Value.bool)) : TDs W v (L.map (·.1)) := by
  rcases Nat.eq_zero_or_pos L.length with h0 | h0
  · have hn : L = [] := List.eq_nil_of_length_eq_zero h0
    subst hn
    obtain ⟨A, c, rfl⟩ := own_formT ho
    exact ⟨A, c, rfl, fun i t hi => by simp at hi⟩
  · obtain ⟨g, cap, rfl, hg, hgl, _, _, hcl⟩ := own_at ho h0
    refine ⟨_, cap, by rw [List.length_map], fun i t hi => ?_⟩
    rw [List.getElem?_map] at hi
    cases hp : L[i]? with
    | none => rw [hp] at hi; cases hi
    | some p =>
      rw [hp] at hi
      injection hi with hi
      subst hi
      have hb := hbs p (List.mem_of_getElem? hp)
      refine ⟨g, 0, p.2, rfl, hgl, ?_, ?_, ?_, ?_⟩
      · rw [Nat.zero_add]; exact hcl _ _ (flat_at hp 0 _ rfl)
      · rw [Nat.zero_add]; exact hcl _ _ (flat_at hp 1 _ rfl)
      · rw [Nat.zero_add]; exact hcl _ _ (flat_at hp 2 _ rfl)
      · rcases Nat.eq_zero_or_pos p.1.s.length with h1 | h1
        · obtain ⟨A2, c2, h2⟩ := own_formT hb
          exact ⟨A2, c2, h2, fun j b hj => absurd (List.getElem?_eq_some_iff.1 hj).1 (by simp only; omega)⟩
        · obtain ⟨g2, cap2, h2, hg2, hgl2, _, _, hcl2⟩ := own_at hb h1
          exact ⟨_, cap2, h2, fun j b hj => ⟨g2, 0, rfl, hgl2, by rw [Nat.zero_add]; exact hcl2 j _ (by rw [List.getElem?_map, hj]; rfl)⟩⟩
theorem dec_tds {w W V : World} {D : Nat} {L : List PR} {v0 : Value} (h : DecI w L W) (hb : Below W.heap.size W V) (hK : W.heap[D]? = some (.deferred (some []))) (ho : W.ownsRow (w.heap.size + 4) 44 3 v0 L.length (L.flatMap cellsP)) (v : Value) (k : Int) :
    TDs (((V.setCell ⟨w.heap.size, 0, none⟩ v).setCell ⟨w.heap.size + 1, 0, none⟩ (.int .i64 k)).putObj D (.deferred none)) v0 (L.map (·.1)) := by
  have hk1 : V.heap[D]? = some (.deferred (some [])) := (hb.block D (Array.getElem?_eq_some_iff.1 hK).1).trans hK
  have hk2 := (KeepsOthers.setCell (V.setCell ⟨w.heap.size, 0, none⟩ v) ⟨w.heap.size + 1, 0, none⟩ (.int .i64 k)).same D _ ((KeepsOthers.setCell V ⟨w.heap.size, 0, none⟩ v).same D _ hk1 rfl) rfl
  have mv : ∀ {e sz n : Nat} {u : Value} {xs : List Value}, W.ownsRow (w.heap.size + 4) e sz u n xs → (((V.setCell ⟨w.heap.size, 0, none⟩ v).setCell ⟨w.heap.size + 1, 0, none⟩ (.int .i64 k)).putObj D (.deferred none)).ownsRow (w.heap.size + 4) e sz u n xs := fun h =>
    ownsRow_putObj (ownsRow_setCell_other (a := ⟨w.heap.size + 1, 0, none⟩) (ownsRow_setCell_other (a := ⟨w.heap.size, 0, none⟩) (own_belowT h hb) (fun e => by have h1 : w.heap.size + 4 ≤ w.heap.size := (h.lt _ e).1; omega) _) (fun e => by have h1 : w.heap.size + 4 ≤ w.heap.size + 1 := (h.lt _ e).1; omega) _) _ hk2 rfl
  exact tds_rows (mv ho) (fun p hp => mv (h.bs p hp))
theorem decode_any (s : ByteArray) (hs : s.size ≤ 60000) (w : World) (hE : Env w) :
    Calls Tryd.prog 12 #[.string s] w fun e w' => DecPost w (decL s.data.toList) e w' := by
  refine (callsIn_wide (n := 3)).1 ?_
  refine callsIn_of_wp_marks Tryd.func12 rfl trivial ?_ rfl
  simp only [Tryd.ntmps12, List.size_toArray, List.length_cons, List.length_nil, Nat.reduceAdd, Nat.reduceSub, Array.replicate_succ, Array.replicate_zero, List.push_toArray, List.append_toArray, List.nil_append, List.cons_append]
  have HL := hide (fun W => lines_any s W)
  gi_wp2_with (refine ⟨trivial, ?_⟩; gi_at_call 26; refine (callsIn_wide.2 (HL.out _)).mono ?_; rintro e w' ⟨rfl, rfl⟩)
  obtain ⟨W0, hW0⟩ : ∃ W, W = (((w.alloc (.cells #[.slice none 0 0] 22)).alloc (.cells #[.int .i64 0] 25)).alloc (.cells #[.slice none 0 0] 22)).alloc (.cells #[.string s] 9) := ⟨_, rfl⟩
  have hsz : W0.heap.size = w.heap.size + 4 := by rw [hW0]; simp
  have hb0 : Boxed W0 w.heap.size 22 (.slice none 0 0) := by rw [hW0]; exact (((Boxed.new _ _ _).alloc _).alloc _).alloc _
  have hb1 : Boxed W0 (w.heap.size + 1) 25 (.int .i64 0) := by
    have h := (((Boxed.new (w.alloc (.cells #[.slice none 0 0] 22)) 25 (.int .i64 0)).alloc (.cells #[.slice none 0 0] 22)).alloc (.cells #[.string s] 9))
    rw [World.size_alloc, ← hW0] at h
    exact h
  have hb2 : Boxed W0 (w.heap.size + 2) 22 (.slice none 0 0) := by
    have h := ((Boxed.new ((w.alloc (.cells #[.slice none 0 0] 22)).alloc (.cells #[.int .i64 0] 25)) 22 (.slice none 0 0)).alloc (.cells #[.string s] 9))
    rw [World.size_alloc, World.size_alloc, ← hW0] at h
    exact h
  have hb3 : Boxed W0 (w.heap.size + 3) 9 (.string ⟨s.data.toList.toArray⟩) := by
    have h := (Boxed.new (((w.alloc (.cells #[.slice none 0 0] 22)).alloc (.cells #[.int .i64 0] 25)).alloc (.cells #[.slice none 0 0] 22)) 9 (.string s))
    rw [World.size_alloc, World.size_alloc, World.size_alloc, ← hW0] at h
    rw [Lib.mk_data]
    exact h
  have hbe : Below w.heap.size w W0 := by rw [hW0]; exact ((((Below.refl _ _).alloc (Nat.le_refl _) _).alloc (by simp) _).alloc (by simp; omega) _).alloc (by simp; omega) _
  have hdi : DecI w [] W0 := ⟨⟨_, hb2, World.ownsRow_nil _ _ _ _⟩, fun p hp => (by cases hp), hb0, hb1, hbe, by omega⟩
  have hsl : s.data.toList.length ≤ 60000 := by rw [← Go.Lib.size_eq]; exact hs
  have HE := hide hE
  have HSL := hide (And.intro hs hsl)
  rw [← hW0]
  clear hW0 hb0 hb1 hb2 hbe hE hs hsl
  refine range_box (n := 1) (gf := 36) (lb := #[.pointer (some ⟨w.heap.size + 3, 0, none⟩)]) rfl (enters_of Tryd.func36 (by kernel_rfl) rfl) (Bx := w.heap.size + 3) (by omega)
    (lines_seq 1 (w.heap.size + 3) s.data.toList (by have := HSL.out.2; omega) W0 hb3) (fun _ => rfl) (DecIn w) (DecOut w) (by rw [hsz]; exact decIn_own w) (fun c => by rw [hsz]; exact decOut_own w c) ⟨[], rfl, hdi⟩
    (fun x => { tmps := #[.string s, undef, .pointer (some ⟨w.heap.size, 0, none⟩), .pointer (some ⟨w.heap.size + 1, 0, none⟩), .pointer (some ⟨w.heap.size + 1 + 1, 0, none⟩), .string ⟨x.1.toArray⟩, undef, undef, undef, undef, .string s, .func (.func 36) #[] #[.pointer (some ⟨w.heap.size + 1 + 1 + 1, 0, none⟩)], .string ⟨x.1.toArray⟩, undef, undef, undef, undef, undef, undef, undef, undef, undef, undef, undef, undef, undef, undef, undef, undef, undef, undef, undef, undef, undef, undef, undef, undef, undef, undef, undef, undef, undef, undef, undef, undef], defers := [] }) ?assign ?body ?done ?stop
  case assign =>
    intro l x W K hK
    gi_wp2
    exact hK
  case body =>
    clear hsz hb3 hdi
    rintro l pre x W ⟨L, hL, hD⟩ hlen
    have HHS := hide (fun W => has_sum x.1 W)
    have HD := hide hD
    have HLL := hide hL
    cases hsum : isSum x.1 with
    | true =>
      rw [hsum] at HHS
      have HX := hide hsum
      clear hsum hD hL
      gi_wp2_with (refine ⟨trivial, ?_⟩; gi_at_call 27; refine (CallsIn.inRound l (callsIn_wide.2 (HHS.out _))).mono ?_; rintro e w' ⟨rfl, rfl⟩)
      exact ⟨KeepsOthers.refl _, .inl ⟨rfl, pre, x, L, rfl, HX.out, HLL.out, HD.out⟩⟩
    | false =>
      rw [hsum] at HHS
      have HX := hide hsum
      have HTR := hide (fun W => trim_end x.1 x.2 W)
      obtain ⟨m, hm⟩ := (HE.out.below hD.be (Nat.le_refl _)).hm
      have htl : (trimL x.1).length ≤ 65000 := by
        have h := x.2
        unfold trimL Lib.trimSuffix
        split
        · rw [List.length_take]; omega
        · exact h
      have hto := told_any ⟨(trimL x.1).toArray⟩ (by rw [ba_size]; exact htl) W m hm
      have htd : (⟨(trimL x.1).toArray⟩ : ByteArray).data.toList = trimL x.1 := rfl
      rw [htd] at hto
      cases hr : toldL (trimL x.1) with
      | none =>
        rw [hr] at hto
        have HTO := hide hto
        have HR := hide hr
        clear hsum hD hL hto hr hm htl htd
        gi_wp2_with (refine ⟨trivial, ?_⟩; first
          | (gi_at_call 27; refine (CallsIn.inRound l (callsIn_wide.2 (HHS.out _))).mono ?_; rintro e w' ⟨rfl, rfl⟩)
          | (gi_at_call 29; refine (CallsIn.inRound l (callsIn_wide.2 (HTR.out _))).mono ?_; rintro e w' ⟨rfl, rfl⟩)
          | (gi_at_call 28; refine (CallsIn.inRound l (callsIn_wide.2 HTO.out)).mono ?_; rintro e w' ⟨rfl, hbt⟩
             have hd2 := HD.out.later hbt
             have hd3 := hd2.later ((Below.refl w'.heap.size w').alloc (Nat.le_refl _) (.cells #[.string ⟨#[]⟩, .bool false, .slice none 0 0] 44))
             have c0 := hd3.r0.cell
             have c1 := hd3.r1.cell
             have z0 := hd3.r0.frozen
             have z1 := hd3.r1.frozen))
        have HF := hide (show Boxed (((w'.alloc (.cells #[.string ⟨#[]⟩, .bool false, .slice none 0 0] 44)).setCell ⟨w.heap.size, 0, none⟩ (.slice none 0 0)).setCell ⟨w.heap.size + 1, 0, none⟩ (.int .i64 17)) w.heap.size 22 (.slice none 0 0) from (hd3.r0.set _).other (by omega) _)
        exact ⟨(((keeps_below hbt).trans (KeepsOthers.alloc _ _)).trans (KeepsOthers.setCell _ _ _)).trans (KeepsOthers.setCell _ _ _), .inr ⟨rfl, pre, x, _, rfl, HX.out, HR.out, HLL.out, HF.out, (hd3.r1.other (by omega) _).set _,
          ((hd3.be.setCell (p := ⟨w.heap.size, 0, none⟩) (Nat.le_refl _) _).setCell (p := ⟨w.heap.size + 1, 0, none⟩) (by show w.heap.size ≤ w.heap.size + 1; omega) _)⟩⟩
      | some t =>
        rw [hr] at hto
        have HTO := hide hto
        have HR := hide hr
        have hll : L.length ≤ 60000 := by
          have h1 := tolds_len hL
          rw [List.length_map, List.length_map] at h1
          have h2 := lines_count s.data.toList
          have h3 := HSL.out.2
          omega
        have hn65 : ((L.length : Int) == 65536) = false := beq_false_of_ne (by omega)
        have hn65' : ¬ (L.length : Int) = 65536 := by omega
        have HLN := hide hll
        obtain ⟨v0, hv0, hv1⟩ := hD.ls
        have HV0 := hide hv0
        have HV1 := hide hv1
        obtain ⟨Av, kv, rfl⟩ := own_formT hv1
        obtain ⟨i0, hi0, hz0, hz1, hz2⟩ := info_parts toldInfo
        have htlen := told_len hr
        have hbits : t.s.length ≤ 65000 := by omega
        clear hsum hD hL hto hr hm htl htd hll hv0 hv1 htlen
        gi_wp2_with (first
          | (gi_at_builtin
             refine wpListIn_append_own _ rfl (.tmp 28) (.tmp 30) _ rfl (w.heap.size + 4) 44 i0 _ 3 48 Tryd.underlying22 hi0 hz0 hz1 hz2 rfl (by omega) (.slice Av L.length kv) L.length (L.flatMap cellsP) rfl (own_belowT HO3.out hbx3) ⟨wtold.heap.size + 1, 0, none⟩ 1 1 (cellsP (t, .slice Ab t.s.length kb)) rfl rfl (fun j u hu => ?hcells) (fun u hu => by simp [cellsP] at hu; rcases hu with rfl | rfl | rfl <;> rfl) (by have := HLN.out; simp only [maxLen]; omega) (by have := HLN.out; omega) (by have := HSZ.out; simp; omega) ?_
             case hcells => exact hcl3 j u hu
             intro v6 w6 hown6 hg6 _
             obtain ⟨Av6, kv6, rfl⟩ := own_formT hown6
             obtain ⟨f1, f2, f3, f4⟩ := DecI.push HD.out HBT.out HOB.out hbx3 hbv3 (own_belowT HO3.out hbx3) hown6 hg6
             have g1 : w6.cell? ⟨w.heap.size + 1 + 1, 0, none⟩ = some (.slice Av L.length kv) := f1.cell
             have g2 : w6.frozen? ⟨w.heap.size + 1 + 1, 0, none⟩ = false := f1.frozen)
          | (refine ⟨trivial, ?_⟩; first
            | (gi_at_call 27; refine (CallsIn.inRound l (callsIn_wide.2 (HHS.out _))).mono ?_; rintro e w' ⟨rfl, rfl⟩)
            | (gi_at_call 29; refine (CallsIn.inRound l (callsIn_wide.2 (HTR.out _))).mono ?_; rintro e w' ⟨rfl, rfl⟩)
            | (gi_at_call 28; refine (CallsIn.inRound l (callsIn_wide.2 HTO.out)).mono ?_; rintro e wtold ⟨bv, rfl, hob, hbt⟩
               obtain ⟨Ab, kb, rfl⟩ := own_formT hob
               have HOB := hide hob
               have HBT := hide hbt
               have HO3 := hide (own_belowT HV1.out hbt)
               have HSZ := hide (show w.heap.size + 4 ≤ wtold.heap.size from (HD.out.later hbt).sz)
               have hbx3 : Below wtold.heap.size wtold ((wtold.alloc (.cells #[.string ⟨t.k.toArray⟩, .bool t.n, .slice Ab t.s.length kb] 44)).alloc (.cells #[.string ⟨t.k.toArray⟩, .bool t.n, .slice Ab t.s.length kb] 44)) := ((Below.refl _ _).alloc (Nat.le_refl _) _).alloc (by simp) _
               have hbv3 : Boxed ((wtold.alloc (.cells #[.string ⟨t.k.toArray⟩, .bool t.n, .slice Ab t.s.length kb] 44)).alloc (.cells #[.string ⟨t.k.toArray⟩, .bool t.n, .slice Ab t.s.length kb] 44)) (w.heap.size + 2) 22 (.slice Av L.length kv) := Boxed.alloc (Boxed.alloc (show Boxed wtold (w.heap.size + 2) _ _ from (hbt.block _ HV0.out.lt).trans HV0.out) _) _
               have hcl3 : ∀ (j : Nat) (u : Value), (cellsP (t, .slice Ab t.s.length kb))[j]? = some u → ((wtold.alloc (.cells #[.string ⟨t.k.toArray⟩, .bool t.n, .slice Ab t.s.length kb] 44)).alloc (.cells #[.string ⟨t.k.toArray⟩, .bool t.n, .slice Ab t.s.length kb] 44)).cell? ((⟨wtold.heap.size + 1, 0, none⟩ : Addr).add j) = some u := fun j u hu => by
                 have h := (Blk.new (wtold.alloc (.cells #[.string ⟨t.k.toArray⟩, .bool t.n, .slice Ab t.s.length kb] 44)) 44 #[.string ⟨t.k.toArray⟩, .bool t.n, .slice Ab t.s.length kb]).cell j
                 rw [World.size_alloc] at h
                 have e : (⟨wtold.heap.size + 1, 0, none⟩ : Addr).add j = ⟨wtold.heap.size + 1, j, none⟩ := by unfold Addr.add; split <;> simp_all
                 rw [e, h]
                 simpa [cellsP] using hu
               have hc2 : (wtold.alloc (.cells #[.string ⟨t.k.toArray⟩, .bool t.n, .slice Ab t.s.length kb] 44)).cell? ⟨w.heap.size + 1 + 1, 0, none⟩ = some (.slice Av L.length kv) := (Boxed.alloc (show Boxed wtold (w.heap.size + 2) _ _ from (hbt.block _ HV0.out.lt).trans HV0.out) _).cell)))
        exact ⟨f2, f3, L ++ [(t, .slice Ab t.s.length kb)], by rw [List.map_append, List.map_append]; exact tolds_snoc HLL.out HX.out HR.out, f4⟩
  case done =>
    rintro D xs W hD hS ⟨L, hL, hDI⟩ hK
    have hdec : decList (linesS s.data.toList) = some (L.map (·.1)) := by
      have h := dec_app [] hL
      rw [hS, List.append_nil] at h
      rw [h]
      simp [decList]
    obtain ⟨v, hv, ho, htd⟩ := hDI.tds
    have hle := decs_le hdec
    rw [lines_sum] at hle
    have hcn := decs_count hdec
    have hlc := lines_count s.data.toList
    have hen := encode_any v (L.map (·.1)) W htd (HE.out.below hDI.be (Nat.le_refl _)).hT (by have := HSL.out; omega) (fun t ht => by have := hle.2 t ht; have := HSL.out; omega) (by have := hle.1; have := HSL.out; omega)
    have hdl : decL s.data.toList = if okS none (L.map (·.1)) && encL (L.map (·.1)) == s.data.toList then some (L.map (·.1)) else none := by unfold decL; rw [hdec]
    obtain ⟨Av, kv, rfl⟩ := own_formT ho
    have c2 : W.cell? ⟨w.heap.size + 1 + 1, 0, none⟩ = some (.slice Av L.length kv) := hv.cell
    have HDI := hide hDI
    have HTD := hide htd
    have HOW := hide ho
    have HV := hide hv
    have HKD := hide (And.intro hD hK)
    have HDL := hide hdl
    cases hok : okS none (L.map (·.1)) with
    | false =>
      rw [hok] at hen
      have HEN := hide hen
      have HNO := hide (show decL s.data.toList = none from by rw [HDL.out, hok]; rfl)
      clear hen hle hcn hlc hdl hDI htd hv ho hD hK hdec hok
      gi_wp2_with (refine ⟨trivial, ?_⟩; gi_at_call 9; refine (callsIn_wide.2 HEN.out).mono ?_; rintro e wenc ⟨rfl, hbn⟩
                   have hde := HDI.out.later hbn
                   have c0 := hde.r0.cell
                   have c1 := hde.r1.cell
                   have z0 := hde.r0.frozen
                   have z1 := hde.r1.frozen)
      have hdr := dec_store HDI.out hbn (by have := HKD.out.1; omega) HKD.out.2 (.slice none 0 0) 17
      refine ⟨by simp, .inl ⟨_, _, rfl, run_takeDeferred hdr.hK, ?_⟩⟩
      have k0 := hdr.c0
      have k1 := hdr.c1
      refine ⟨.tuple #[.slice none 0 0, .int .i64 17], ?_, ?_⟩
      · simp [results, Tryd.f12, go_sem, k0, k1]
      · rw [HNO.out]
        exact ⟨rfl, hdr.be⟩
    | true =>
      rw [hok] at hen
      obtain ⟨EB, hEB⟩ : ∃ B : ByteArray, B = ⟨(encL (L.map (·.1))).toArray⟩ := ⟨_, rfl⟩
      rw [← hEB] at hen
      have HEN := hide hen
      have hEd : EB.data.toList = encL (L.map (·.1)) := by rw [hEB]
      by_cases heq : encL (L.map (·.1)) = s.data.toList
      · have hbq : (EB.toList == s.toList) = true := by rw [ByteArray.toList_eq, ByteArray.toList_eq, hEd, heq]; simp
        have HYE := hide (show decL s.data.toList = some (L.map (·.1)) from by rw [HDL.out, hok, heq]; simp)
        clear hen hle hcn hlc hdl hDI htd hv ho hD hK hdec hok heq hEB hEd
        gi_wp2_with (refine ⟨trivial, ?_⟩; gi_at_call 9; refine (callsIn_wide.2 HEN.out).mono ?_; rintro e wenc ⟨rfl, hbn⟩
                     have hde := HDI.out.later hbn
                     have c0 := hde.r0.cell
                     have c1 := hde.r1.cell
                     have z0 := hde.r0.frozen
                     have z1 := hde.r1.frozen
                     have c3 : wenc.cell? ⟨w.heap.size + 1 + 1, 0, none⟩ = some (.slice Av L.length kv) := (show Boxed wenc (w.heap.size + 2) _ _ from (hbn.block _ HV.out.lt).trans HV.out).cell)
        have hdr := dec_store HDI.out hbn (by have := HKD.out.1; omega) HKD.out.2 (.slice Av L.length kv) 0
        have hdt := dec_tds HDI.out hbn HKD.out.2 HOW.out (.slice Av L.length kv) 0
        refine ⟨by simp, .inl ⟨_, _, rfl, run_takeDeferred hdr.hK, ?_⟩⟩
        have k0 := hdr.c0
        have k1 := hdr.c1
        refine ⟨.tuple #[.slice Av L.length kv, .int .i64 0], ?_, ?_⟩
        · simp [results, Tryd.f12, go_sem, k0, k1]
        · rw [HYE.out]
          exact ⟨_, rfl, hdt, hdr.be⟩
      · have hbq : (EB.toList == s.toList) = false := by rw [ByteArray.toList_eq, ByteArray.toList_eq, hEd]; exact beq_false_of_ne heq
        have HNO := hide (show decL s.data.toList = none from by rw [HDL.out, hok]; simp [heq])
        clear hen hle hcn hlc hdl hDI htd hv ho hD hK hdec hok heq hEB hEd
        gi_wp2_with (refine ⟨trivial, ?_⟩; gi_at_call 9; refine (callsIn_wide.2 HEN.out).mono ?_; rintro e wenc ⟨rfl, hbn⟩
                     have hde := HDI.out.later hbn
                     have c0 := hde.r0.cell
                     have c1 := hde.r1.cell
                     have z0 := hde.r0.frozen
                     have z1 := hde.r1.frozen)
        have hdr := dec_store HDI.out hbn (by have := HKD.out.1; omega) HKD.out.2 (.slice none 0 0) 17
        refine ⟨by simp, .inl ⟨_, _, rfl, run_takeDeferred hdr.hK, ?_⟩⟩
        have k0 := hdr.c0
        have k1 := hdr.c1
        refine ⟨.tuple #[.slice none 0 0, .int .i64 17], ?_, ?_⟩
        · simp [results, Tryd.f12, go_sem, k0, k1]
        · rw [HNO.out]
          exact ⟨rfl, hdr.be⟩
  case stop =>
    rintro D c pre W hD hSp hout hK
    rcases hout with ⟨rfl, p0, x, L, rfl, hx, hL, hDI⟩ | ⟨rfl, p0, x, l, rfl, hx, hr, hL, h0, h1, hb⟩
    · have hdec : decList (linesS s.data.toList) = some (L.map (·.1)) := by
        obtain ⟨r, hr⟩ := hSp
        have h := dec_app (x.1 :: r) hL
        have e : (p0 ++ [x]).map (·.1) ++ r = p0.map (·.1) ++ x.1 :: r := by simp
        rw [← hr, e, h]
        unfold decList
        rw [if_pos hx]
        simp
      obtain ⟨v, hv, ho, htd⟩ := hDI.tds
      have hle := decs_le hdec
      rw [lines_sum] at hle
      have hcn := decs_count hdec
      have hlc := lines_count s.data.toList
      have hen := encode_any v (L.map (·.1)) W htd (HE.out.below hDI.be (Nat.le_refl _)).hT (by have := HSL.out; omega) (fun t ht => by have := hle.2 t ht; have := HSL.out; omega) (by have := hle.1; have := HSL.out; omega)
      have hdl : decL s.data.toList = if okS none (L.map (·.1)) && encL (L.map (·.1)) == s.data.toList then some (L.map (·.1)) else none := by unfold decL; rw [hdec]
      obtain ⟨Av, kv, rfl⟩ := own_formT ho
      have c2 : W.cell? ⟨w.heap.size + 1 + 1, 0, none⟩ = some (.slice Av L.length kv) := hv.cell
      have HDI := hide hDI
      have HTD := hide htd
      have HOW := hide ho
      have HV := hide hv
      have HKD := hide (And.intro hD hK)
      have HDL := hide hdl
      cases hok : okS none (L.map (·.1)) with
      | false =>
        rw [hok] at hen
        have HEN := hide hen
        have HNO := hide (show decL s.data.toList = none from by rw [HDL.out, hok]; rfl)
        clear hen hle hcn hlc hdl hDI htd hv ho hD hK hdec hok
        gi_wp2_with (refine ⟨trivial, ?_⟩; gi_at_call 9; refine (callsIn_wide.2 HEN.out).mono ?_; rintro e wenc ⟨rfl, hbn⟩
                     have hde := HDI.out.later hbn
                     have c0 := hde.r0.cell
                     have c1 := hde.r1.cell
                     have z0 := hde.r0.frozen
                     have z1 := hde.r1.frozen)
        have hdr := dec_store HDI.out hbn (by have := HKD.out.1; omega) HKD.out.2 (.slice none 0 0) 17
        refine ⟨by simp, .inl ⟨_, _, rfl, run_takeDeferred hdr.hK, ?_⟩⟩
        have k0 := hdr.c0
        have k1 := hdr.c1
        refine ⟨.tuple #[.slice none 0 0, .int .i64 17], ?_, ?_⟩
        · simp [results, Tryd.f12, go_sem, k0, k1]
        · rw [HNO.out]
          exact ⟨rfl, hdr.be⟩
      | true =>
        rw [hok] at hen
        obtain ⟨EB, hEB⟩ : ∃ B : ByteArray, B = ⟨(encL (L.map (·.1))).toArray⟩ := ⟨_, rfl⟩
        rw [← hEB] at hen
        have HEN := hide hen
        have hEd : EB.data.toList = encL (L.map (·.1)) := by rw [hEB]
        by_cases heq : encL (L.map (·.1)) = s.data.toList
        · have hbq : (EB.toList == s.toList) = true := by rw [ByteArray.toList_eq, ByteArray.toList_eq, hEd, heq]; simp
          have HYE := hide (show decL s.data.toList = some (L.map (·.1)) from by rw [HDL.out, hok, heq]; simp)
          clear hen hle hcn hlc hdl hDI htd hv ho hD hK hdec hok heq hEB hEd
          gi_wp2_with (refine ⟨trivial, ?_⟩; gi_at_call 9; refine (callsIn_wide.2 HEN.out).mono ?_; rintro e wenc ⟨rfl, hbn⟩
                       have hde := HDI.out.later hbn
                       have c0 := hde.r0.cell
                       have c1 := hde.r1.cell
                       have z0 := hde.r0.frozen
                       have z1 := hde.r1.frozen
                       have c3 : wenc.cell? ⟨w.heap.size + 1 + 1, 0, none⟩ = some (.slice Av L.length kv) := (show Boxed wenc (w.heap.size + 2) _ _ from (hbn.block _ HV.out.lt).trans HV.out).cell)
          have hdr := dec_store HDI.out hbn (by have := HKD.out.1; omega) HKD.out.2 (.slice Av L.length kv) 0
          have hdt := dec_tds HDI.out hbn HKD.out.2 HOW.out (.slice Av L.length kv) 0
          refine ⟨by simp, .inl ⟨_, _, rfl, run_takeDeferred hdr.hK, ?_⟩⟩
          have k0 := hdr.c0
          have k1 := hdr.c1
          refine ⟨.tuple #[.slice Av L.length kv, .int .i64 0], ?_, ?_⟩
          · simp [results, Tryd.f12, go_sem, k0, k1]
          · rw [HYE.out]
            exact ⟨_, rfl, hdt, hdr.be⟩
        · have hbq : (EB.toList == s.toList) = false := by rw [ByteArray.toList_eq, ByteArray.toList_eq, hEd]; exact beq_false_of_ne heq
          have HNO := hide (show decL s.data.toList = none from by rw [HDL.out, hok]; simp [heq])
          clear hen hle hcn hlc hdl hDI htd hv ho hD hK hdec hok heq hEB hEd
          gi_wp2_with (refine ⟨trivial, ?_⟩; gi_at_call 9; refine (callsIn_wide.2 HEN.out).mono ?_; rintro e wenc ⟨rfl, hbn⟩
                       have hde := HDI.out.later hbn
                       have c0 := hde.r0.cell
                       have c1 := hde.r1.cell
                       have z0 := hde.r0.frozen
                       have z1 := hde.r1.frozen)
          have hdr := dec_store HDI.out hbn (by have := HKD.out.1; omega) HKD.out.2 (.slice none 0 0) 17
          refine ⟨by simp, .inl ⟨_, _, rfl, run_takeDeferred hdr.hK, ?_⟩⟩
          have k0 := hdr.c0
          have k1 := hdr.c1
          refine ⟨.tuple #[.slice none 0 0, .int .i64 17], ?_, ?_⟩
          · simp [results, Tryd.f12, go_sem, k0, k1]
          · rw [HNO.out]
            exact ⟨rfl, hdr.be⟩
    · have hdec : decList (linesS s.data.toList) = none := by
        obtain ⟨r, hr'⟩ := hSp
        have h := dec_app (x.1 :: r) hL
        have e : (p0 ++ [x]).map (·.1) ++ r = p0.map (·.1) ++ x.1 :: r := by simp
        rw [← hr', e, h]
        unfold decList
        rw [if_neg (by rw [hx]; simp), hr]
        rfl
      have hno : decL s.data.toList = none := by unfold decL; rw [hdec]
      have hdr := dec_ret (by omega) hK h0 h1 hb
      gi_wp2
      refine ⟨by simp, .inl ⟨_, _, rfl, run_takeDeferred hdr.hK, ?_⟩⟩
      have k0 := hdr.c0
      have k1 := hdr.c1
      refine ⟨.tuple #[.slice none 0 0, .int .i64 17], ?_, ?_⟩
      · simp [results, Tryd.f12, go_sem, k0, k1]
      · rw [hno]
        exact ⟨rfl, hdr.be⟩
end Go.Proofs.YtgnobpljnahceaaDoor
