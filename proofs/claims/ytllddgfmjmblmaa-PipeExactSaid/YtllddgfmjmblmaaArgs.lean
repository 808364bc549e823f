/- Arguments that are slices of the machine's scalars, and slices of such slices, opened as lists; conditions: none but that they can be read as data. -/
import Derived.Test.YtllddgfmjmblmaaVals
import Derived.Deep.Slices
import Derived.Deep.Fields
import Derived.Lib.SmallJoins
import Derived.ChangeSame
import Derived.Carry
namespace Go.Proofs.Ytllddgfmjmblmaa
open Go.ChangeShapes Go.WideShapes Go.Deep Go.RowKit Go.Joins
set_option linter.unusedVariables false
set_option maxRecDepth 100000

section
variable {H : Type} {enc : TypeId × Value → H} {P : Program} {w : World} {base : Nat} {spare : Nat → Bool} {held : Bool}
theorem open_slice_fields {t e : TypeId} {fs : Array Field} {fuel : Nat} {cs : List Value} {x : DataW H × List MemPlace} (ht : P.underlying t = some (.slice e)) (he : P.underlying e = some (.struct fs))
    (hone : oneCellFields P fs = true) (hC : P.cellsOf e = fs.size) (h : DataW.trod enc P w base spare held fuel t cs = some x) :
    (cs = [.slice none 0 0] ∧ x = (.nil, [])) ∨
    ∃ (a : Addr) (len cap m : Nat) (D : Nat → DataW H) (Pl : Nat → List MemPlace), cs = [.slice (some a) len cap] ∧ base ≤ a.block ∧ len ≤ cap ∧ cap ≤ maxLen ∧ m = (if spare a.block then cap else len) ∧
      x = (.slice ((List.range len).map D) ((List.range (m - len)).map fun j => D (len + j)), MemPlace.row a (m * fs.size) ++ (List.range m).flatMap Pl) ∧
      ∀ i, i < m → ∃ (ys : List (DataW H × List MemPlace)) (n : Nat), D i = .agg (ys.map (·.1)) ∧ Pl i = ys.flatMap (·.2) ∧ ys.length = fs.size ∧
        ∀ (j : Nat) (f : Field), fs[j]? = some f → ∃ (v : Value) (y : DataW H × List MemPlace), w.cell? (a.add (i * fs.size + j)) = some v ∧ ys[j]? = some y ∧ DataW.trod enc P w base spare held n f.type [v] = some y := by
  rcases open_slice ht h with h0 | ⟨a, len, cap, m, n, D, Pl, hcs, hb, hl, hm, hmm, hx, hi⟩
  · exact .inl h0
  · refine .inr ⟨a, len, cap, m, D, Pl, hcs, hb, hl, hm, hmm, by rw [hC] at hx; exact hx, fun i him => ?_⟩
    obtain ⟨cs', hc, ht'⟩ := hi i him
    rw [hC] at hc
    obtain ⟨ys, n', hn', hy, hlen, hyl, hf⟩ := DataW.trod_struct he ht'
    obtain ⟨_, hcl, hat⟩ := World.cells?_some hc
    simp only [Prod.mk.injEq] at hy
    refine ⟨ys, n', hy.1, hy.2, hyl, fun j f hj => ?_⟩
    obtain ⟨ho, hk⟩ := hone_of hone j f hj
    have hjl : j < fs.size := (Array.getElem?_eq_some_iff.1 hj).1
    have hcell := hat j hjl
    have hv : cs'[j]? = some (cs'[j]'(by omega)) := List.getElem?_eq_getElem (by omega)
    have h1 := hf j f hj
    rw [ho, hk] at h1
    have hone' : (cs'.drop j).take 1 = [cs'[j]'(by omega)] := by
      rw [List.drop_eq_getElem_cons (by omega)]
      rfl
    rw [hone'] at h1
    have hys : ys[j]? = some (ys[j]'(by omega)) := List.getElem?_eq_getElem (by omega)
    refine ⟨_, _, ?_, hys, h1.trans hys⟩
    rw [← Go.Deep.add_add, hcell, hv]
end

section
variable {H : Type} {enc : TypeId × Value → H} {W : World} {spare : Nat → Bool} {held : Bool}

theorem exists_list {α : Type} {n : Nat} {p : Nat → α → Prop} (h : ∀ i, i < n → ∃ x, p i x) : ∃ l : List α, l.length = n ∧ ∀ i, i < n → ∃ x, l[i]? = some x ∧ p i x := by
  induction n with
  | zero => exact ⟨[], rfl, fun i hi => absurd hi (by omega)⟩
  | succ n ih =>
    obtain ⟨l, hl, hp⟩ := ih fun i hi => h i (by omega)
    obtain ⟨x, hx⟩ := h n (by omega)
    refine ⟨l ++ [x], by simp [hl], fun i hi => ?_⟩
    by_cases hin : i < n
    · obtain ⟨y, hy, hpy⟩ := hp i hin
      exact ⟨y, by rw [List.getElem?_append_left (by omega)]; exact hy, hpy⟩
    · obtain rfl : i = n := by omega
      exact ⟨x, by rw [List.getElem?_append_right (by omega), hl]; simp, hx⟩

/-- A slice of scalars, opened. -/
theorem open_vals {fuel : Nat} {A : Option Addr} {n c : Nat} {x : DataW H × List MemPlace} (h : DataW.trod enc Try.prog W 0 spare held fuel 66 [.slice A n c] = some x) :
    ∃ vs, RV W W.heap.size A n vs ∧ (∀ v ∈ vs, v.s.size ≤ maxLen) ∧ n ≤ c ∧ c ≤ maxLen := by
  rcases open_slice_fields Try.underlying66 Try.underlying95 (by kernel_rfl) (by kernel_rfl) h with ⟨h0, _⟩ | ⟨a, len, cap, m, D, Pl, hcs, _, hl, hm, hmm, _, hf⟩
  · simp only [List.cons.injEq, Value.slice.injEq, and_true] at h0
    obtain ⟨rfl, rfl, rfl⟩ := h0
    exact ⟨[], ⟨rfl, Reads.none_⟩, by simp, Nat.le_refl _, by simp [maxLen]⟩
  · simp only [List.cons.injEq, Value.slice.injEq, and_true] at hcs
    obtain ⟨rfl, rfl, rfl⟩ := hcs
    have hnm : n ≤ m := by rw [hmm]; split <;> omega
    have hv : ∀ i, i < n → ∃ v : Val, (∀ j u, v.cells[j]? = some u → W.cell? (a.add (i * 5 + j)) = some u) ∧ v.s.size ≤ maxLen := by
      intro i hi
      obtain ⟨ys, n', _, _, _, hfi⟩ := hf i (by omega)
      obtain ⟨v0, y0, c0, _, t0⟩ := hfi 0 _ rfl
      obtain ⟨v1, y1, c1, _, t1⟩ := hfi 1 _ rfl
      obtain ⟨v2, y2, c2, _, t2⟩ := hfi 2 _ rfl
      obtain ⟨v3, y3, c3, _, t3⟩ := hfi 3 _ rfl
      obtain ⟨v4, y4, c4, _, t4⟩ := hfi 4 _ rfl
      obtain ⟨k0, e0, _, _⟩ := DataW.trod_int Try.underlying3 t0
      obtain ⟨k1, e1, _, _⟩ := DataW.trod_int Try.underlying3 t1
      obtain ⟨k2, e2, _, _⟩ := DataW.trod_int Try.underlying3 t2
      obtain ⟨k3, e3, _, _⟩ := DataW.trod_int Try.underlying3 t3
      obtain ⟨s4, e4, _, hs⟩ := DataW.trod_string Try.underlying9 t4
      simp only [List.cons.injEq, and_true] at e0 e1 e2 e3 e4
      subst e0 e1 e2 e3 e4
      refine ⟨⟨k0, k1, k2, k3, s4⟩, fun j u hu => ?_, hs⟩
      match j, hu with
      | 0, hu => simp [Val.cells] at hu; subst hu; exact c0
      | 1, hu => simp [Val.cells] at hu; subst hu; exact c1
      | 2, hu => simp [Val.cells] at hu; subst hu; exact c2
      | 3, hu => simp [Val.cells] at hu; subst hu; exact c3
      | 4, hu => simp [Val.cells] at hu; subst hu; exact c4
      | j + 5, hu => simp [Val.cells] at hu
    obtain ⟨vs, hlen, hp⟩ := exists_list hv
    refine ⟨vs, ⟨hlen, by rw [length_cellsV, hlen], fun hn => ?_⟩, fun v hv => ?_, hl, hm⟩
    · obtain ⟨v, _, hc, _⟩ := hp 0 hn
      refine ⟨a, rfl, ?_, fun j u hu => ?_⟩
      · have := World.block_lt_of_cell? W _ (hc 0 _ rfl)
        rwa [block_of_add] at this
      · have hj : j < (cellsV vs).length := (List.getElem?_eq_some_iff.1 hu).1
        rw [length_cellsV, hlen] at hj
        obtain ⟨v, hv, hc, _⟩ := hp (j / 5) (by omega)
        have h5 : j % 5 < v.cells.length := Nat.mod_lt _ (by decide)
        have hvc := List.getElem?_eq_getElem h5
        have he := cellsV_at vs (j / 5) v hv (j % 5) _ hvc
        have ej : j / 5 * 5 + j % 5 = j := by omega
        rw [ej, hu] at he
        injection he with he
        have := hc _ _ hvc
        rw [ej] at this
        rw [he]
        exact this
    · obtain ⟨i, hi, he⟩ := List.mem_iff_getElem.1 hv
      obtain ⟨v', hv', _, hs⟩ := hp i (by omega)
      rw [List.getElem?_eq_getElem hi, he] at hv'
      injection hv' with hv'
      rw [hv']
      exact hs

/-- A row among rows: its slice, and what it reads as. -/
structure RowV where
  A : Option Addr
  n : Nat
  c : Nat
  vs : List Val
def RowV.val (r : RowV) : Value := .slice r.A r.n r.c
def RR (w : World) (B : Nat) (A : Option Addr) (n : Nat) (rows : List RowV) : Prop :=
  rows.length = n ∧ Reads w B 1 A n (rows.map RowV.val) ∧ ∀ r ∈ rows, RV w B r.A r.n r.vs ∧ (∀ v ∈ r.vs, v.s.size ≤ maxLen) ∧ r.n ≤ maxLen ∧ r.n ≤ r.c

theorem RR.below {w w' : World} {B n : Nat} {A : Option Addr} {rows : List RowV} (h : RR w B A n rows) (hb : Below B w w') : RR w' B A n rows :=
  ⟨h.1, h.2.1.below hb, fun r hr => ⟨(h.2.2 r hr).1.below hb, (h.2.2 r hr).2⟩⟩
theorem RR.at_ {w : World} {B n : Nat} {A : Option Addr} {rows : List RowV} (h : RR w B A n rows) {k : Nat} (hk : k < n) :
    ∃ b off r, A = some ⟨b, off, none⟩ ∧ b < B ∧ rows[k]? = some r ∧ w.cell? ⟨b, off + k, none⟩ = some (.slice r.A r.n r.c) ∧ RV w B r.A r.n r.vs ∧ (∀ v ∈ r.vs, v.s.size ≤ maxLen) ∧ r.n ≤ maxLen ∧ r.n ≤ r.c := by
  obtain ⟨b, off, e, hb, hc⟩ := h.2.1.plain (by omega) (by omega)
  have hl : k < rows.length := by have := h.1; omega
  have hr := List.getElem?_eq_getElem hl
  exact ⟨b, off, rows[k], e, hb, hr, hc k _ (by rw [List.getElem?_map, hr]; rfl), h.2.2 _ (List.getElem_mem hl)⟩

theorem open_rows {fuel : Nat} {A : Option Addr} {n c : Nat} {x : DataW H × List MemPlace} (h : DataW.trod enc Try.prog W 0 spare held fuel 70 [.slice A n c] = some x) :
    ∃ rows, RR W W.heap.size A n rows ∧ n ≤ c ∧ c ≤ maxLen := by
  rcases open_slice Try.underlying70 h with ⟨h0, _⟩ | ⟨a, len, cap, m, n', D, Pl, hcs, _, hl, hm, hmm, _, hf⟩
  · simp only [List.cons.injEq, Value.slice.injEq, and_true] at h0
    obtain ⟨rfl, rfl, rfl⟩ := h0
    exact ⟨[], ⟨rfl, Reads.none_, by simp⟩, Nat.le_refl _, by simp [maxLen]⟩
  · simp only [List.cons.injEq, Value.slice.injEq, and_true] at hcs
    obtain ⟨rfl, rfl, rfl⟩ := hcs
    have hnm : n ≤ m := by rw [hmm]; split <;> omega
    have hC : Try.prog.cellsOf 66 = 1 := by kernel_rfl
    have hv : ∀ i, i < n → ∃ r : RowV, W.cell? (a.add i) = some r.val ∧ RV W W.heap.size r.A r.n r.vs ∧ (∀ v ∈ r.vs, v.s.size ≤ maxLen) ∧ r.n ≤ maxLen ∧ r.n ≤ r.c := by
      intro i hi
      obtain ⟨cs', hc, ht⟩ := hf i (by omega)
      rw [hC, Nat.mul_one] at hc
      obtain ⟨_, hcl, hat⟩ := World.cells?_some hc
      obtain ⟨u, rfl⟩ : ∃ u, cs' = [u] := by
        match cs', hcl with
        | [u], _ => exact ⟨u, rfl⟩
      have hcell := hat 0 (by omega)
      have h0 : (a.add i).add 0 = a.add i := by simp [Addr.add]
      rw [h0] at hcell
      have hu : ∃ A' n' c', u = .slice A' n' c' := by
        rcases open_slice Try.underlying66 ht with ⟨h0, _⟩ | ⟨a', len', cap', _, _, _, _, hcs', _⟩
        · simp only [List.cons.injEq, and_true] at h0; exact ⟨_, _, _, h0⟩
        · simp only [List.cons.injEq, and_true] at hcs'; exact ⟨_, _, _, hcs'⟩
      obtain ⟨A', n', c', rfl⟩ := hu
      obtain ⟨vs, h1, h2, h3, h4⟩ := open_vals ht
      exact ⟨⟨A', n', c', vs⟩, hcell, h1, h2, Nat.le_trans h3 h4, h3⟩
    obtain ⟨rows, hlen, hp⟩ := exists_list hv
    refine ⟨rows, ⟨hlen, ⟨by simp [hlen], fun hn => ?_⟩, fun r hr => ?_⟩, hl, hm⟩
    · obtain ⟨r, _, hc, _⟩ := hp 0 hn
      refine ⟨a, rfl, ?_, fun j u hu => ?_⟩
      · have := World.block_lt_of_cell? W _ hc
        rwa [block_of_add] at this
      · rw [List.getElem?_map] at hu
        obtain ⟨r, hr, rfl⟩ := Option.map_eq_some_iff.1 hu
        have hj : j < rows.length := (List.getElem?_eq_some_iff.1 hr).1
        obtain ⟨r', hr', hc, _⟩ := hp j (by omega)
        rw [hr] at hr'
        injection hr' with hr'
        rw [hr']
        exact hc
    · obtain ⟨i, hi, he⟩ := List.mem_iff_getElem.1 hr
      obtain ⟨r', hr', _, hs⟩ := hp i (by omega)
      rw [List.getElem?_eq_getElem hi, he] at hr'
      injection hr' with hr'
      rw [hr']
      exact hs
end

end Go.Proofs.Ytllddgfmjmblmaa
