/- A tree that is the call's own; conditions: none. -/
import Derived.Test.YtnphfogepdkpbaaDoorTrD
namespace Go.Proofs.YtnphfogepdkpbaaDoor
open Go.RowKit Go.WideShapes Go.ChangeShapes
set_option linter.unusedVariables false
set_option linter.unusedSimpArgs false
set_option maxRecDepth 100000

/-- What the tree keeps of a node. -/
structure It where
  n : Nd
  k : Value
  t : Value
  sz : Nat
  dp : Nat
def It.cells (r : It) : List Value := [.int .i64 r.n.kind, .int .i64 r.n.f, .int .i64 r.n.l, .int .i64 r.n.c, .string r.n.text, r.k, r.t, .int .i64 (r.sz : Int), .int .i64 (r.dp : Int)]
abbrev It.arr (r : It) : Array Value := #[.int .i64 r.n.kind, .int .i64 r.n.f, .int .i64 r.n.l, .int .i64 r.n.c, .string r.n.text, r.k, r.t, .int .i64 (r.sz : Int), .int .i64 (r.dp : Int)]
theorem It.cells_length (r : It) : r.cells.length = 9 := rfl
structure ItOk (w : World) (B : Nat) (L : List Nd) (i : Nat) (r : It) : Prop where
  hs : r.sz = min 65537 (W L (i + 1)).length
  hd : r.dp = D L (i + 1)
  hk : w.ownsRow B 3 1 r.k r.n.kids.length (r.n.kids.map (Value.int .i64))
  ht : w.ownsRow B 3 1 r.t (thrI r.n.kids).length ((thrI r.n.kids).map (Value.int .i64))
abbrev nds (rows : List It) : List Nd := rows.map It.n
/-- A tree of the call's own: block tb holds it. -/
structure TO (w : World) (B tb : Nat) (v : Value) (rows : List It) : Prop where
  bl : Blk w tb 56 #[v]
  it : w.ownsRow B 59 9 v rows.length (rows.flatMap It.cells)
  el : ∀ (i : Nat) (r : It), rows[i]? = some r → ItOk w B (nds rows) i r
  ok : OkL (nds rows)
  le : rows.length ≤ 65536
  tB : B ≤ tb
theorem flat_lenT : ∀ xs : List It, (xs.flatMap It.cells).length = xs.length * 9
  | [] => by simp
  | x :: xs => by rw [List.flatMap_cons, List.length_append, flat_lenT xs, It.cells_length, List.length_cons, Nat.succ_mul]; omega
theorem flat_atT : ∀ (xs : List It) (k : Nat) (x : It), xs[k]? = some x → ∀ (i : Nat) (u : Value), x.cells[i]? = some u → (xs.flatMap It.cells)[k * 9 + i]? = some u
  | [], k, x, h, i, u, hi => by simp at h
  | y :: xs, 0, x, h, i, u, hi => by
    simp at h; subst h
    have hl : i < 9 := by have := (List.getElem?_eq_some_iff.1 hi).1; rwa [It.cells_length] at this
    rw [List.flatMap_cons, List.getElem?_append_left (by rw [It.cells_length]; omega)]
    simpa using hi
  | y :: xs, k + 1, x, h, i, u, hi => by
    rw [List.flatMap_cons, List.getElem?_append_right (by rw [It.cells_length, Nat.succ_mul]; omega), It.cells_length]
    have e : (k + 1) * 9 + i - 9 = k * 9 + i := by rw [Nat.succ_mul]; omega
    rw [e]
    exact flat_atT xs k x (by simpa using h) i u hi
section
variable {w w' : World} {B tb : Nat} {v : Value} {rows : List It}
theorem TO.lt (h : TO w B tb v rows) : tb < w.heap.size := h.bl.lt
theorem TO.later (h : TO w B tb v rows) (hb : Below w.heap.size w w') : TO w' B tb v rows :=
  ⟨(hb.block _ h.bl.lt).trans h.bl, own_belowT h.it hb, fun i r hr => ⟨(h.el i r hr).hs, (h.el i r hr).hd, own_belowT (h.el i r hr).hk hb, own_belowT (h.el i r hr).ht hb⟩, h.ok, h.le, h.tB⟩
theorem TO.alloc (h : TO w B tb v rows) (o : Obj) : TO (w.alloc o) B tb v rows := h.later ((Below.refl _ _).alloc (Nat.le_refl _) o)
theorem TO.drewN (h : TO w B tb v rows) (q : Nat) : TO (w.drewN q) B tb v rows := h.later (below_drewL (Below.refl _ _) q)
theorem own_grT {e sz n : Nat} {x : Value} {xs : List Value} {row : Option Nat} (h : w.ownsRow B e sz x n xs) (hg : w.grownBy w' row) (hne : ∀ k, x.ownBlock = some k → some k ≠ row) : w'.ownsRow B e sz x n xs := by
  refine ⟨h.1, ?_⟩
  rcases h.2 with h2 | ⟨g, cap, cur, hv, hB, hh, r⟩
  · exact .inl h2
  · refine .inr ⟨g, cap, cur, hv, hB, (hg.block g (Blk.lt (t := e) (cs := cur) hh) (hne g (by rw [hv]; rfl))).trans hh, r⟩
/-- Nothing of the tree lies in block k. -/
structure Clear (w : World) (B tb : Nat) (v : Value) (rows : List It) (k : Nat) : Prop where
  t : tb ≠ k
  v : v.ownBlock ≠ some k
  e : ∀ (i : Nat) (r : It), rows[i]? = some r → r.k.ownBlock ≠ some k ∧ r.t.ownBlock ≠ some k
theorem own_ltT {e sz n : Nat} {x : Value} {xs : List Value} (h : w.ownsRow B e sz x n xs) {k : Nat} (hk : x.ownBlock = some k) : B ≤ k ∧ k < w.heap.size := h.lt k hk
theorem TO.clear_new (h : TO w B tb v rows) {k : Nat} (hk : w.heap.size ≤ k) : Clear w B tb v rows k :=
  ⟨by have := h.lt; omega, fun e => by have := (h.it.lt _ e).2; omega, fun i r hr => ⟨fun e => by have := ((h.el i r hr).hk.lt _ e).2; omega, fun e => by have := ((h.el i r hr).ht.lt _ e).2; omega⟩⟩
theorem TO.grown (h : TO w B tb v rows) {k : Nat} (hg : w.grownBy w' (some k)) (hc : Clear w B tb v rows k) : TO w' B tb v rows :=
  ⟨(hg.block _ h.bl.lt (fun e => hc.t (by injection e))).trans h.bl, own_grT h.it hg (fun j hj e => hc.v (by rw [hj]; exact e)),
    fun i r hr => ⟨(h.el i r hr).hs, (h.el i r hr).hd, own_grT (h.el i r hr).hk hg (fun j hj e => (hc.e i r hr).1 (by rw [hj]; exact e)), own_grT (h.el i r hr).ht hg (fun j hj e => (hc.e i r hr).2 (by rw [hj]; exact e))⟩, h.ok, h.le, h.tB⟩
theorem TO.setCell (h : TO w B tb v rows) {k i : Nat} (hc : Clear w B tb v rows k) (u : Value) : TO (w.setCell ⟨k, i, none⟩ u) B tb v rows :=
  ⟨h.bl.far (p := ⟨k, i, none⟩) hc.t u, ownsRow_setCell_other (a := ⟨k, i, none⟩) h.it hc.v u,
    fun j r hr => ⟨(h.el j r hr).hs, (h.el j r hr).hd, ownsRow_setCell_other (a := ⟨k, i, none⟩) (h.el j r hr).hk (hc.e j r hr).1 u, ownsRow_setCell_other (a := ⟨k, i, none⟩) (h.el j r hr).ht (hc.e j r hr).2 u⟩, h.ok, h.le, h.tB⟩
/-- The cells of a node. -/
theorem TO.at_ (h : TO w B tb v rows) {k : Nat} {r : It} (hk : rows[k]? = some r) : ∃ g c, v = .slice (some ⟨g, 0, none⟩) rows.length c ∧ w.cell? ⟨tb, 0, none⟩ = some (.slice (some ⟨g, 0, none⟩) rows.length c) ∧ ∀ (i : Nat) (u : Value), r.cells[i]? = some u → w.cell? ⟨g, k * 9 + i, none⟩ = some u := by
  have hl := (List.getElem?_eq_some_iff.1 hk).1
  rcases h.it.2 with ⟨_, h0⟩ | ⟨g, cap, cur, hv, hB, hg, hc, hm, hs, htk⟩
  · omega
  refine ⟨g, cap, hv, by rw [h.bl.cell 0, hv]; rfl, fun i u hu => ?_⟩
  have h1 := h.it.cells (g := g) (by rw [hv]; rfl) (k * 9 + i) u (flat_atT rows k r hk i u hu)
  rw [Addr.add_lit, Nat.zero_add] at h1
  exact h1
theorem TO.form (h : TO w B tb v rows) : ∃ A c, v = .slice A rows.length c ∧ w.cell? ⟨tb, 0, none⟩ = some (.slice A rows.length c) := by
  obtain ⟨A, c, rfl⟩ := own_formT h.it
  exact ⟨A, c, rfl, h.bl.cell 0⟩
/-- A tree of the call's own reads as one. -/
theorem TO.tr (h : TO w B tb v rows) : TR w tb (nds rows) := by
  refine ⟨⟨v, h.bl, ?_⟩, h.ok, by rw [List.length_map]; exact h.le⟩
  obtain ⟨A, c, hv, _⟩ := h.form
  refine ⟨A, c, by rw [hv, List.length_map], fun i n hi => ?_⟩
  rw [List.getElem?_map] at hi
  cases hr : rows[i]? with
  | none => rw [hr] at hi; cases hi
  | some r =>
    rw [hr] at hi
    injection hi with hi
    subst hi
    obtain ⟨g, c', hv', _, hc⟩ := h.at_ hr
    rw [hv] at hv'
    injection hv' with h1 h2 h3
    have ho := h.el i r hr
    have e := fun j u (hu : r.cells[j]? = some u) => hc j u hu
    refine ⟨g, 0, r.k, r.t, h1, World.block_lt_of_cell? w _ (e 0 _ rfl), ?_⟩
    simp only [Nat.zero_add]
    refine ⟨e 0 _ rfl, e 1 _ rfl, e 2 _ rfl, e 3 _ rfl, e 4 _ rfl, e 5 _ rfl, e 6 _ rfl, ?_, ?_, IntsAt.own ho.hk, IntsAt.own ho.ht⟩
    · rw [← ho.hs]; exact e 7 _ rfl
    · rw [← ho.hd]; exact e 8 _ rfl
theorem nds_length (rows : List It) : (nds rows).length = rows.length := List.length_map _
end

/-- What is reckoned of some parts. -/
def szF (L : List Nd) (ks : List Nat) : Nat := min 65537 (1 + (ks.flatMap (W L)).length)
def dpF (L : List Nd) (ks : List Nat) : Nat := (ks.map (D L)).foldl max 0
theorem szF_snoc (L : List Nd) (ks : List Nat) (k : Nat) : szF L (ks ++ [k]) = min 65537 (szF L ks + min 65537 (W L k).length) := by
  unfold szF
  rw [List.flatMap_append, List.length_append]
  simp
  omega
theorem dpF_snoc (L : List Nd) (ks : List Nat) (k : Nat) : dpF L (ks ++ [k]) = max (dpF L ks) (D L k) := by
  unfold dpF
  simp [List.foldl_append]
theorem szF_le (L : List Nd) (ks : List Nat) : szF L ks ≤ 65537 := by unfold szF; omega
theorem foldl_max_le {m : Nat} : ∀ (l : List Nat) (a : Nat), a ≤ m → (∀ x ∈ l, x ≤ m) → l.foldl max a ≤ m
  | [], a, h, _ => h
  | x :: l, a, h, hl => foldl_max_le l (max a x) (by have := hl x (by simp); omega) (fun y hy => hl y (by simp [hy]))
theorem D_leT {L : List Nd} (h : OkL L) : ∀ (n i : Nat), i ≤ n → D L i ≤ i
  | n, i, hn => by
    by_cases hi : 1 ≤ i ∧ i ≤ L.length
    · rw [D_unf h hi.1 hi.2]
      have : ((thr L i).map (D L)).foldl max 0 ≤ i - 1 := by
        refine foldl_max_le _ _ (by omega) (fun x hx => ?_)
        obtain ⟨k, hk, rfl⟩ := List.mem_map.1 hx
        have hlt := thr_lt h hi.1 hk
        cases n with
        | zero => omega
        | succ n =>
          have := D_leT h n k (by omega)
          omega
      omega
    · unfold D
      rw [V_out hi]
      omega
theorem thr_new (L : List Nd) (n : Nd) : thr (L ++ [n]) (L.length + 1) = (thrI n.kids).map Int.toNat := by
  unfold thr kid
  simp
theorem W_new {L : List Nd} {n : Nd} (h : OkL L) (hn : goodN n L.length = true) : (W (L ++ [n]) (L.length + 1)).length = 1 + (((thrI n.kids).map Int.toNat).flatMap (W L)).length := by
  rw [W_unf (okl_add h hn) (by omega) (by simp), thr_new, List.length_cons, Nat.add_comm]
  congr 2
  have hk : ∀ k ∈ (thrI n.kids).map Int.toNat, k ≤ L.length := by
    intro k hk
    obtain ⟨x, hx, rfl⟩ := List.mem_map.1 hk
    have := (goodN_iff.1 hn).2 x ((List.mem_filter.1 hx).1)
    omega
  generalize (thrI n.kids).map Int.toNat = ks at hk
  induction ks with
  | nil => rfl
  | cons k ks ih =>
    rw [List.flatMap_cons, List.flatMap_cons, ih (fun x hx => hk x (by simp [hx])), W_app h _ (hk k (by simp))]
theorem D_new {L : List Nd} {n : Nd} (h : OkL L) (hn : goodN n L.length = true) : D (L ++ [n]) (L.length + 1) = dpF L ((thrI n.kids).map Int.toNat) + 1 := by
  rw [D_unf (okl_add h hn) (by omega) (by simp), thr_new]
  unfold dpF
  congr 2
  apply List.map_congr_left
  intro k hk
  obtain ⟨x, hx, rfl⟩ := List.mem_map.1 hk
  have := (goodN_iff.1 hn).2 x ((List.mem_filter.1 hx).1)
  exact D_app h _ (by omega)
theorem sz_new {L : List Nd} {n : Nd} (h : OkL L) (hn : goodN n L.length = true) : szF L ((thrI n.kids).map Int.toNat) = min 65537 (W (L ++ [n]) (L.length + 1)).length := by
  rw [W_new h hn]
  rfl
end Go.Proofs.YtnphfogepdkpbaaDoor
