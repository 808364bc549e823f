/- Walk of package tree; conditions: the tree is in memory. -/
import Derived.Test.YtnphfogepdkpbaaDoorTrI
import Derived.Maps.OwnIn
namespace Go.Proofs.YtnphfogepdkpbaaDoor
open Go Go.RowKit Go.WideShapes Go.ChangeShapes
set_option linter.unusedVariables false
set_option linter.unusedSimpArgs false
set_option maxRecDepth 100000
attribute [local go_sem] Oper.semAt_some

def natI (k : Nat) : Value := .int .i64 (k : Int)
/-- What a walk is; nothing, if that is too much. -/
def walkOf (L : List Nd) (i : Int) : List Nat := if hasB L i = true ∧ (W L i.toNat).length ≤ 65536 then W L i.toNat else []
def WalkP (w : World) (l : List Nat) (e : Ending) (w' : World) : Prop := ∃ v', e = .returned v' ∧ w'.ownsRow w.heap.size 3 1 v' l.length (l.map natI) ∧ Below w.heap.size w w'
theorem walk_nil (i : Int) (w : World) : Calls Tryd.prog 14 #[.pointer none, .int .i64 i] w (WalkP w []) := by
  have HH := hide (has_nil i w)
  go_enter Tryd.func14, Tryd.ntmps14
  go_wp2_with fail
  refine HH.out.mono ?_
  rintro e w' ⟨rfl, rfl⟩
  go_wp2_with fail
  go_ret
  exact ⟨_, rfl, World.ownsRow_nil _ _ _ _, Below.refl _ _⟩

def mkD (D : Nat) : Deferred := { target := .collected D, args := #[] }
abbrev iI (x : Int) : Value := .int .i64 x
/-- What stands while a walk goes on: what is left, what has come, the marks. -/
structure WkS (w W : World) (lb : Nat) (ds : List Nat) (lv ov : Value) (left out : List Int) : Prop where
  be : Below w.heap.size w W
  bx : Boxed W lb 32 lv
  lo : W.ownsRow w.heap.size 3 1 lv left.length (left.map iI)
  oo : W.ownsRow w.heap.size 3 1 ov out.length (out.map iI)
  ne : ∀ k, ov.ownBlock = some k → lv.ownBlock ≠ some k
  mks : ∀ D ∈ ds, w.heap.size ≤ D ∧ W.heap[D]? = some (.deferred (some []))
  nd : ds.Nodup
  lB : w.heap.size ≤ lb
theorem own_cellsT {W : World} {B e sz n : Nat} {v : Value} {xs : List Value} (h : W.ownsRow B e sz v n xs) {j : Nat} {o : Obj} (hj : v.ownBlock = some j) (ho : W.heap[j]? = some o) : o.isCells = true := by
  rcases h.2 with ⟨rfl, _⟩ | ⟨g, cap, cur, rfl, _, hgb, _⟩
  · cases hj
  · obtain rfl : g = j := by simpa [Value.ownBlock] using hj
    rw [hgb] at ho
    cases ho
    rfl
section
variable {w W V : World} {lb : Nat} {ds : List Nat} {lv ov : Value} {left out : List Int}
theorem WkS.fit (h : WkS w W lb ds lv ov left out) {row : Option Nat} (hg : W.grownBy V row) (hr : ∀ r, row = some r → (w.heap.size ≤ r ∧ r ∉ ds) ∧ ∃ o : Obj, W.heap[r]? = some o ∧ o.isCells = false) : WkS w V lb ds lv ov left out := by
  have ok : ∀ {v : Value} {n : Nat} {xs : List Value}, W.ownsRow w.heap.size 3 1 v n xs → V.ownsRow w.heap.size 3 1 v n xs := fun hv => own_grT hv hg fun k hk e => by
    obtain ⟨_, o, ho, hc⟩ := hr k e.symm
    rw [own_cellsT hv hk ho] at hc
    cases hc
  refine ⟨h.be.grown hg h.be.size (fun k hk => (hr k hk).1.1), h.bx.kept hg (fun e => ?_), ok h.lo, ok h.oo, h.ne, fun D hD => ⟨(h.mks D hD).1, (hg.block D (Array.getElem?_eq_some_iff.1 (h.mks D hD).2).1 (fun e => (hr D e.symm).1.2 hD)).trans (h.mks D hD).2⟩, h.nd, h.lB⟩
  obtain ⟨_, o, ho, hc⟩ := hr lb e.symm
  rw [show W.heap[lb]? = _ from h.bx] at ho
  cases ho
  cases hc
theorem WkS.later (h : WkS w W lb ds lv ov left out) (hb : Below W.heap.size W V) : WkS w V lb ds lv ov left out :=
  ⟨h.be.trans (hb.mono h.be.size), (hb.block _ h.bx.lt).trans h.bx, own_belowT h.lo hb, own_belowT h.oo hb, h.ne, fun D hD => ⟨(h.mks D hD).1, (hb.block D (Array.getElem?_eq_some_iff.1 (h.mks D hD).2).1).trans (h.mks D hD).2⟩, h.nd, h.lB⟩
theorem WkS.alloc (h : WkS w W lb ds lv ov left out) (o : Obj) : WkS w (W.alloc o) lb ds lv ov left out := h.later ((Below.refl _ _).alloc (Nat.le_refl _) o)
theorem WkS.not_mk (h : WkS w W lb ds lv ov left out) {k : Nat} {o : Obj} (hk : W.heap[k]? = some o) (ho : o.isCells = true) : k ∉ ds := fun hm => by
  rw [(h.mks k hm).2] at hk
  cases hk
  cases ho
/-- The box is written. -/
theorem WkS.box (h : WkS w W lb ds lv ov left out) (lv' : Value) (left' : List Int) (hl : W.ownsRow w.heap.size 3 1 lv' left'.length (left'.map iI)) (hn : ∀ k, ov.ownBlock = some k → lv'.ownBlock ≠ some k) : WkS w (W.setCell ⟨lb, 0, none⟩ lv') lb ds lv' ov left' out := by
  have hne : ∀ {v : Value} {n : Nat} {xs : List Value}, W.ownsRow w.heap.size 3 1 v n xs → v.ownBlock ≠ some lb := fun hv e => (h.bx.not_row (by decide) hv) e.symm
  refine ⟨h.be.setCell (p := ⟨lb, 0, none⟩) h.lB lv', h.bx.set lv', ownsRow_setCell_other (a := ⟨lb, 0, none⟩) hl (hne hl) lv', ownsRow_setCell_other (a := ⟨lb, 0, none⟩) h.oo (hne h.oo) lv', hn, fun D hD => ⟨(h.mks D hD).1, (Below.heap_setCell W ⟨lb, 0, none⟩ lv' D (fun e => h.not_mk h.bx rfl (by rw [← show D = lb from e]; exact hD))).trans (h.mks D hD).2⟩, h.nd, h.lB⟩
theorem WkS.pop {A : Option Addr} {c : Nat} {ls : List Int} {k : Int} (h : WkS w W lb ds (.slice A (ls ++ [k]).length c) ov (ls ++ [k]) out) : WkS w (W.setCell ⟨lb, 0, none⟩ (.slice A ls.length c)) lb ds (.slice A ls.length c) ov ls out := by
  refine h.box _ ls ?_ ?_
  · rcases h.lo.2 with ⟨_, h0⟩ | ⟨g, cap, cur, hv, hB, hg, hc, hm, hs, htk⟩
    · simp at h0
    · injection hv with h1 h2 h3
      subst h1 h3
      refine ⟨by simp, .inr ⟨g, c, cur, rfl, hB, hg, by simp at hc; omega, hm, hs, ?_⟩⟩
      have h4 := congrArg (List.take ls.length) htk
      rw [List.take_take, List.map_append] at h4
      simp at h4
      simpa using h4
  · intro j hj
    have := h.ne j hj
    cases A with
    | none => simp [Value.ownBlock]
    | some a => simpa [Value.ownBlock] using this
/-- A number is put behind what has come. -/
theorem WkS.out_ (h : WkS w W lb ds lv ov left out) {v6 : Value} {w6 : World} {x : Int} (ho : w6.ownsRow w.heap.size 3 1 v6 (out.length + 1) (out.map iI ++ [iI x])) (hg : W.grownBy w6 ov.ownBlock) (hat : v6.ownBlock = ov.ownBlock ∨ v6.ownBlock = some W.heap.size) : WkS w w6 lb ds lv v6 left (out ++ [x]) := by
  refine ⟨h.be.grown hg h.be.size (fun k hk => (h.oo.lt k hk).1), h.bx.kept hg (h.bx.not_row (by decide) h.oo), own_grT h.lo hg (fun k hk e => h.ne k e.symm hk), by simpa using ho, ?_, fun D hD => ⟨(h.mks D hD).1, (hg.block D (Array.getElem?_eq_some_iff.1 (h.mks D hD).2).1 (fun e => ?_)).trans (h.mks D hD).2⟩, h.nd, h.lB⟩
  · intro k hk
    rcases hat with a | a
    · exact h.ne k (a.symm.trans hk)
    · rw [a] at hk
      injection hk with hk
      intro e
      have := (h.lo.lt k e).2
      omega
  · have h1 := own_cellsT h.oo e.symm (h.mks D hD).2
    cases h1
theorem WkS.left_ (h : WkS w W lb ds lv ov left out) {v6 : Value} {w6 : World} {x : Int} (ho : w6.ownsRow w.heap.size 3 1 v6 (left.length + 1) (left.map iI ++ [iI x])) (hg : W.grownBy w6 lv.ownBlock) (hat : v6.ownBlock = lv.ownBlock ∨ v6.ownBlock = some W.heap.size) : WkS w (w6.setCell ⟨lb, 0, none⟩ v6) lb ds v6 ov (left ++ [x]) out ∧ Boxed w6 lb 32 lv := by
  have hbx : Boxed w6 lb 32 lv := h.bx.kept hg (h.bx.not_row (by decide) h.lo)
  have hoo : w6.ownsRow w.heap.size 3 1 ov out.length (out.map iI) := own_grT h.oo hg (fun k hk e => h.ne k hk e.symm)
  have hmk : ∀ D ∈ ds, w.heap.size ≤ D ∧ w6.heap[D]? = some (.deferred (some [])) := fun D hD => ⟨(h.mks D hD).1, (hg.block D (Array.getElem?_eq_some_iff.1 (h.mks D hD).2).1 (fun e => by have h1 := own_cellsT h.lo e.symm (h.mks D hD).2; cases h1)).trans (h.mks D hD).2⟩
  have hne : ∀ k, ov.ownBlock = some k → v6.ownBlock ≠ some k := by
    intro k hk
    rcases hat with a | a
    · rw [a]; exact h.ne k hk
    · rw [a]
      intro e
      injection e with e
      have := (h.oo.lt k hk).2
      omega
  have hnb : ∀ {v : Value} {n : Nat} {xs : List Value}, w6.ownsRow w.heap.size 3 1 v n xs → v.ownBlock ≠ some lb := fun hv e => (hbx.not_row (by decide) hv) e.symm
  refine ⟨⟨(h.be.grown hg h.be.size (fun k hk => (h.lo.lt k hk).1)).setCell (p := ⟨lb, 0, none⟩) h.lB v6, hbx.set v6, ?_, ownsRow_setCell_other (a := ⟨lb, 0, none⟩) hoo (hnb hoo) v6, hne, fun D hD => ⟨(hmk D hD).1, (Below.heap_setCell w6 ⟨lb, 0, none⟩ v6 D (fun e => ?_)).trans (hmk D hD).2⟩, h.nd, h.lB⟩, hbx⟩
  · have h7 := ownsRow_setCell_other (a := ⟨lb, 0, none⟩) ho (hnb ho) v6
    simpa using h7
  · have h1 := (hmk D hD).2
    rw [show D = lb from e, show w6.heap[lb]? = _ from hbx] at h1
    cases h1
/-- One mark more. -/
theorem WkS.mark (h : WkS w W lb ds lv ov left out) {D : Nat} (hD : w.heap.size ≤ D) (hn : D ∉ ds) (hk : W.heap[D]? = some (.deferred (some []))) : WkS w W lb (D :: ds) lv ov left out :=
  ⟨h.be, h.bx, h.lo, h.oo, h.ne, fun X hX => by rcases List.mem_cons.1 hX with rfl | hX; exact ⟨hD, hk⟩; exact h.mks X hX, List.nodup_cons.2 ⟨hn, h.nd⟩, h.lB⟩
theorem WkS.own (w0 : World) (lb : Nat) (ds : List Nat) (ov : Value) (out : List Int) {α : Type} (f : α → List Int) (hds : ∀ D ∈ ds, D < w0.heap.size) (hw : w.heap.size ≤ w0.heap.size) : OwnFrom w0.heap.size (fun (s : α) (X : World) => ∃ lv, WkS w X lb ds lv ov (f s) out) := fun s A C row hs hg hr => by
  obtain ⟨lv, hs⟩ := hs
  refine ⟨lv, hs.fit hg fun r e => ⟨⟨by have := (hr r e).1; omega, fun hm => by have := (hr r e).1; have := hds r hm; omega⟩, (hr r e).2⟩⟩
end
/-- The marks are taken up when the func is left. -/
theorem leaves_marks {P : Program} {fn : Func} {tmps : Array Value} {R : Ending → World → Prop} : ∀ (ds : List Nat) (W : World), ds.Nodup → (∀ D ∈ ds, W.heap[D]? = some (.deferred (some []))) →
    (∀ V : World, V.os = W.os → V.tape = W.tape → V.output = W.output → V.heap.size = W.heap.size → (∀ k, k ∉ ds → V.heap[k]? = W.heap[k]?) → LeavesIn Fence.wide 3 P fn tmps R [] .returning V) → LeavesInM Fence.wide 3 P fn tmps R (ds.map mkD) .returning W
  | [], W, _, _, h => h W rfl rfl rfl rfl (fun _ _ => rfl)
  | D :: ds, W, hn, hd, h => by
    obtain ⟨h1, h2⟩ := List.nodup_cons.1 hn
    have hK := hd D (by simp)
    have hlt := (Array.getElem?_eq_some_iff.1 hK).1
    refine ⟨by simp, .inl ⟨D, _, rfl, run_takeDeferred hK, ?_⟩⟩
    refine leaves_marks ds _ h2 (fun X hX => (World.putObj_heap_other (fun e => h1 (by rw [← e]; exact hX))).trans (hd X (by simp [hX]))) fun V v1 v2 v3 v4 v5 => h V v1 v2 v3 (by rw [v4]; simp [World.putObj]) fun k hk => (v5 k (fun hm => hk (by simp [hm]))).trans (World.putObj_heap_other (fun e => hk (by rw [e]; simp)))

theorem natI_map (l : List Nat) : l.map natI = (l.map (fun k : Nat => (k : Int))).map iI := by rw [List.map_map]; rfl
def topInv (L : List Nd) (tot : List Nat) (left out : List Int) : Prop :=
  ∃ a b : List Nat, left = a.map (fun k : Nat => (k : Int)) ∧ out = b.map (fun k : Nat => (k : Int)) ∧ (∀ k ∈ a, 1 ≤ k ∧ k ≤ L.length) ∧ b ++ a.reverse.flatMap (W L) = tot
theorem topInv_round {L : List Nd} {tot : List Nat} {ls out : List Int} {x : Int} (hL : OkL L) (h : topInv L tot (ls ++ [x]) out) :
    ∃ (k : Nat) (n : Nd), x = ((k + 1 : Nat) : Int) ∧ k < L.length ∧ L[k]? = some n ∧ out.length < tot.length ∧ ls.length < tot.length ∧ (ls.length + (thrI n.kids).length < tot.length) ∧ topInv L tot (ls ++ (thrI n.kids).reverse) (out ++ [x]) := by
  obtain ⟨a, b, ha, hb, hr, ht⟩ := h
  obtain ⟨a', y, rfl⟩ : ∃ a' y, a = a' ++ [y] := by
    rcases List.eq_nil_or_concat a with rfl | ⟨a', y, rfl⟩
    · simp at ha
    · exact ⟨a', y, by simp⟩
  rw [List.map_append] at ha
  obtain ⟨h1, h2⟩ := List.append_inj' ha rfl
  simp at h2
  have hy := hr y (by simp)
  have hWp : ∀ k ∈ a', 1 ≤ (W L k).length := fun k hk => by
    have := hr k (by simp [hk])
    rw [W_unf hL this.1 this.2]
    simp
  have hTp : ∀ k ∈ thr L y, 1 ≤ (W L k).length := fun k hk => by
    have := thr_lt hL hy.1 hk
    rw [W_unf hL this.1 (by omega)]
    simp
  have flen : ∀ c : List Nat, (∀ k ∈ c, 1 ≤ (W L k).length) → c.length ≤ (c.flatMap (W L)).length := by
    intro c
    induction c with
    | nil => intro _; simp
    | cons k c ih =>
      intro hc
      rw [List.flatMap_cons, List.length_append, List.length_cons]
      have := ih (fun z hz => hc z (by simp [hz]))
      have := hc k (by simp)
      omega
  have e1 : tot = b ++ (y :: ((thr L y).flatMap (W L) ++ a'.reverse.flatMap (W L))) := by
    rw [← ht, List.reverse_append, List.flatMap_append]
    simp [W_unf hL hy.1 hy.2]
  have e2 : tot.length = b.length + (1 + ((thr L y).flatMap (W L)).length + (a'.reverse.flatMap (W L)).length) := by
    rw [e1, List.length_append, List.length_cons, List.length_append]
    omega
  have e3 := flen (thr L y) hTp
  have e4 := flen a'.reverse (fun k hk => hWp k (by simpa using hk))
  rw [List.length_reverse] at e4
  have hn : L[y - 1]? = some (L[y - 1]'(by omega)) := List.getElem?_eq_getElem _
  have e5 : thr L y = (thrI (L[y - 1]'(by omega)).kids).map Int.toNat := by
    unfold thr kid
    rw [hn]
  have hpos : ∀ z ∈ thrI (L[y - 1]'(by omega)).kids, 0 ≤ z := fun z hz => ((goodN_iff.1 (hL _ _ hn)).2 z (List.mem_filter.1 hz).1).1
  have e6 : (thrI (L[y - 1]'(by omega)).kids).length = (thr L y).length := by rw [e5, List.length_map]
  have e7 : thrI (L[y - 1]'(by omega)).kids = (thr L y).map (fun k : Nat => (k : Int)) := by
    rw [e5, List.map_map]
    conv => lhs; rw [← List.map_id (thrI (L[y - 1]'(by omega)).kids)]
    apply List.map_congr_left
    intro z hz
    have := hpos z hz
    simp
    omega
  have hlb : out.length = b.length := by rw [hb, List.length_map]
  have hla : ls.length = a'.length := by rw [h1, List.length_map]
  refine ⟨y - 1, L[y - 1]'(by omega), by rw [h2]; omega, by omega, hn, by omega, by omega, by omega, a' ++ (thr L y).reverse, b ++ [y], ?_, ?_, ?_, ?_⟩
  · rw [h1, e7, List.map_append, List.map_reverse]
  · rw [hb, h2, List.map_append]
    rfl
  · intro k hk
    rcases List.mem_append.1 hk with hk | hk
    · exact hr k (by simp [hk])
    · have := thr_lt hL hy.1 (List.mem_reverse.1 hk)
      omega
  · rw [e1, List.reverse_append, List.reverse_reverse, List.flatMap_append]
    simp
def outLen (v : Value) : Nat := match v with | .slice _ n _ => n | _ => 0
end Go.Proofs.YtnphfogepdkpbaaDoor
