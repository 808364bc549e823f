/- Slices of structs that hold structs, opened as lists; a row of calls of layer 7; conditions: none but that they can be read as data. -/
import Derived.Test.YtllddgfmjmblmaaScA
import Derived.Deep.Slices
import Derived.Deep.Fields
import Derived.Lib.SmallJoins
import Derived.ChangeSame
import Derived.ChangeMaps5
import Derived.Carry
namespace Go.Proofs.Ytllddgfmjmblmaa
open Go.ChangeShapes Go.WideShapes Go.Deep Go.RowKit Go.Joins
set_option linter.unusedVariables false
set_option maxRecDepth 100000

theorem ex_list {α : Type} {n : Nat} {p : Nat → α → Prop} (h : ∀ i, i < n → ∃ x, p i x) : ∃ l : List α, l.length = n ∧ ∀ i, i < n → ∃ x, l[i]? = some x ∧ p i x := by
  induction n with
  | zero => exact ⟨[], rfl, fun i hi => by omega⟩
  | succ n ih =>
    obtain ⟨l, hl, hp⟩ := ih fun i hi => h i (by omega)
    obtain ⟨x, hx⟩ := h n (by omega)
    refine ⟨l ++ [x], by simp [hl], fun i hi => ?_⟩
    rcases Nat.lt_or_ge i n with h1 | h1
    · obtain ⟨y, hy, hp⟩ := hp i h1
      exact ⟨y, by rw [List.getElem?_append_left (by omega)]; exact hy, hp⟩
    · obtain rfl : i = n := by omega
      refine ⟨x, ?_, hx⟩
      rw [← hl, List.getElem?_concat_length]
theorem len_flat {α : Type} {f : α → List Value} {s : Nat} (hs : ∀ x, (f x).length = s) : ∀ xs : List α, (xs.flatMap f).length = xs.length * s
  | [] => by simp
  | x :: xs => by rw [List.flatMap_cons, List.length_append, len_flat hs xs, hs, List.length_cons, Nat.succ_mul]; omega
theorem at_flat {α : Type} {f : α → List Value} {s : Nat} (hs : ∀ x, (f x).length = s) : ∀ (xs : List α) (k : Nat) (x : α), xs[k]? = some x → ∀ (i : Nat) (u : Value), (f x)[i]? = some u → (xs.flatMap f)[k * s + i]? = some u
  | [], k, x, h, i, u, hi => by simp at h
  | y :: xs, 0, x, h, i, u, hi => by
    simp at h; subst h
    have hl : i < s := by have := (List.getElem?_eq_some_iff.1 hi).1; rwa [hs] at this
    rw [List.flatMap_cons, List.getElem?_append_left (by rw [hs]; omega)]
    simpa using hi
  | y :: xs, k + 1, x, h, i, u, hi => by
    rw [List.flatMap_cons, List.getElem?_append_right (by rw [hs, Nat.succ_mul]; omega), hs]
    have e : (k + 1) * s + i - s = k * s + i := by rw [Nat.succ_mul]; omega
    rw [e]
    exact at_flat hs xs k x (by simpa using h) i u hi
theorem Reads.spot {w : World} {B s n : Nat} {A : Option Addr} {xs : List Value} (h : Reads w B s A n xs) (hn : 0 < n) (hs : 0 < s) :
    ∃ b off, A = some ⟨b, off, none⟩ ∧ b < B ∧ ∀ j u, xs[j]? = some u → w.cell? ⟨b, off + j, none⟩ = some u := by
  obtain ⟨ad, e, hb, hc⟩ := h.2 hn
  obtain ⟨b, off, spot⟩ := ad
  have hl : 0 < xs.length := by rw [h.1]; exact Nat.mul_pos hn hs
  have hspot : spot = none := by simpa [Addr.add] using World.cell?_spot (hc 0 _ (List.getElem?_eq_getElem hl))
  subst hspot
  exact ⟨b, off, e, hb, fun j u hu => by rw [← Go.WideShapes.add_plain]; exact hc j u hu⟩

section
variable {H : Type} {enc : TypeId × Value → H} {P : Program} {W : World} {spare : Nat → Bool} {held : Bool}
theorem open_flats {α : Type} (cells : α → List Value) {s : Nat} (hs : ∀ x, (cells x).length = s) (hpos : 0 < s) (Q : α → Prop) {t e : TypeId} {fuel : Nat} {A : Option Addr} {n c : Nat} {x : DataW H × List MemPlace}
    (ht : P.underlying t = some (.slice e)) (hC : P.cellsOf e = s)
    (h : DataW.trod enc P W 0 spare held fuel t [.slice A n c] = some x)
    (hel : ∀ (cs : List Value) (m : Nat) (y : DataW H × List MemPlace), cs.length = s → DataW.trod enc P W 0 spare held m e cs = some y → ∃ x, cs = cells x ∧ Q x) :
    ∃ xs : List α, xs.length = n ∧ Reads W W.heap.size s A n (xs.flatMap cells) ∧ (∀ x ∈ xs, Q x) ∧ n ≤ c ∧ c ≤ maxLen := by
  rcases open_slice ht h with ⟨h0, _⟩ | ⟨a, len, cap, m, n', D, Pl, hcs, _, hl, hm, hmm, _, hf⟩
  · simp only [List.cons.injEq, Value.slice.injEq, and_true] at h0
    obtain ⟨rfl, rfl, rfl⟩ := h0
    exact ⟨[], rfl, Reads.none_, by simp, Nat.le_refl _, by simp [maxLen]⟩
  · simp only [List.cons.injEq, Value.slice.injEq, and_true] at hcs
    obtain ⟨rfl, rfl, rfl⟩ := hcs
    have hnm : n ≤ m := by rw [hmm]; split <;> omega
    have hv : ∀ i, i < n → ∃ v : α, (∀ j u, (cells v)[j]? = some u → W.cell? (a.add (i * s + j)) = some u) ∧ Q v := by
      intro i hi
      obtain ⟨cs', hc, htr⟩ := hf i (by omega)
      rw [hC] at hc
      obtain ⟨_, hlen, hat⟩ := World.cells?_some hc
      obtain ⟨v, rfl, hq⟩ := hel cs' _ _ hlen htr
      refine ⟨v, fun j u hu => ?_, hq⟩
      have hj : j < s := by have := (List.getElem?_eq_some_iff.1 hu).1; rwa [hs] at this
      have := hat j hj
      rw [add_of_add] at this
      rw [this, hu]
    obtain ⟨vs, hlen, hp⟩ := ex_list hv
    refine ⟨vs, hlen, ⟨by rw [len_flat hs, hlen], fun hn => ?_⟩, fun v hv => ?_, hl, hm⟩
    · obtain ⟨v, _, hc, _⟩ := hp 0 hn
      refine ⟨a, rfl, ?_, fun j u hu => ?_⟩
      · have h0 : 0 < (cells v).length := by rw [hs]; exact hpos
        have := World.block_lt_of_cell? W _ (hc 0 _ (List.getElem?_eq_getElem h0))
        rwa [block_of_add] at this
      · have hj : j < (vs.flatMap cells).length := (List.getElem?_eq_some_iff.1 hu).1
        rw [len_flat hs, hlen] at hj
        have hd : j / s < n := Nat.div_lt_of_lt_mul (by rw [Nat.mul_comm]; exact hj)
        obtain ⟨v, hv, hc, _⟩ := hp (j / s) hd
        have h5 : j % s < (cells v).length := by rw [hs]; exact Nat.mod_lt _ hpos
        have hvc := List.getElem?_eq_getElem h5
        have he := at_flat hs vs (j / s) v hv (j % s) _ hvc
        have ej : j / s * s + j % s = j := by rw [Nat.mul_comm]; exact Nat.div_add_mod j s
        rw [ej, hu] at he
        injection he with he
        have := hc _ _ hvc
        rw [ej] at this
        rw [he]
        exact this
    · obtain ⟨i, hi, he⟩ := List.mem_iff_getElem.1 hv
      obtain ⟨v', hv', _, hs'⟩ := hp i (by omega)
      rw [List.getElem?_eq_getElem hi, he] at hv'
      injection hv' with hv'
      rw [hv']
      exact hs'
theorem trod_field {t : TypeId} {fs : Array Field} {fuel : Nat} {cs : List Value} {x : DataW H × List MemPlace} (ht : P.underlying t = some (.struct fs)) (h : DataW.trod enc P W 0 spare held fuel t cs = some x) (i : Nat) (f : Field) (hi : fs[i]? = some f) :
    ∃ (n : Nat) (y : DataW H × List MemPlace), DataW.trod enc P W 0 spare held n f.type ((cs.drop f.offset).take (P.cellsOf f.type)) = some y := by
  obtain ⟨xs, n, _, _, _, hl, hf⟩ := DataW.trod_struct ht h
  have hlt : i < xs.length := by rw [hl]; exact (Array.getElem?_eq_some_iff.1 hi).1
  exact ⟨n, xs[i], by rw [hf i f hi, List.getElem?_eq_getElem hlt]⟩
end

theorem list13 {α : Type} {l : List α} (h : l.length = 13) : ∃ a b c d e f g h' i j k m n, l = [a, b, c, d, e, f, g, h', i, j, k, m, n] := by
  match l, h with
  | [a, b, c, d, e, f, g, h', i, j, k, m, n], _ => exact ⟨a, b, c, d, e, f, g, h', i, j, k, m, n, rfl⟩
theorem list16 {α : Type} {l : List α} (h : l.length = 16) : ∃ x y z r, l = x :: y :: z :: r ∧ r.length = 13 := by
  match l, h with
  | x :: y :: z :: r, h => exact ⟨x, y, z, r, rfl, by simpa using h⟩

/-- A call of layer 7, as data. -/
structure ActV where
  k : Int
  a : Int
  i : Int
  o : ObjV
def ActV.cells (x : ActV) : List Value := [.int .i64 x.k, .int .i64 x.a, .int .i64 x.i] ++ x.o.cells
theorem ActV.cells_length (x : ActV) : x.cells.length = 16 := rfl
section
variable {H : Type} {enc : TypeId × Value → H} {W : World} {spare : Nat → Bool} {held : Bool}
theorem open_object {fuel : Nat} {cs : List Value} {x : DataW H × List MemPlace} (hl : cs.length = 13) (h : DataW.trod enc Try.prog W 0 spare held fuel 42 cs = some x) :
    ∃ o : ObjV, cs = o.cells ∧ o.name.size ≤ maxLen := by
  obtain ⟨c0, c1, c2, c3, c4, c5, c6, c7, c8, c9, c10, c11, c12, rfl⟩ := list13 hl
  have e1 : Try.prog.cellsOf 3 = 1 := by kernel_rfl
  have e2 : Try.prog.cellsOf 36 = 2 := by kernel_rfl
  have e3 : Try.prog.cellsOf 4 = 1 := by kernel_rfl
  have e4 : Try.prog.cellsOf 9 = 1 := by kernel_rfl
  have e5 : Try.prog.cellsOf 34 = 1 := by kernel_rfl
  have e6 : Try.prog.cellsOf 38 = 5 := by kernel_rfl
  have e7 : Try.prog.cellsOf 40 = 3 := by kernel_rfl
  obtain ⟨n0, y0, t0⟩ := trod_field Try.underlying42 h 0 _ rfl
  obtain ⟨n1, y1, t1⟩ := trod_field Try.underlying42 h 1 _ rfl
  obtain ⟨n2, y2, t2⟩ := trod_field Try.underlying42 h 2 _ rfl
  obtain ⟨n3, y3, t3⟩ := trod_field Try.underlying42 h 3 _ rfl
  obtain ⟨n4, y4, t4⟩ := trod_field Try.underlying42 h 4 _ rfl
  obtain ⟨n5, y5, t5⟩ := trod_field Try.underlying42 h 5 _ rfl
  obtain ⟨n6, y6, t6⟩ := trod_field Try.underlying42 h 6 _ rfl
  simp [e1, e4, e6, e7] at t0 t1 t2 t3 t4 t5 t6
  obtain ⟨m0, z0, u0⟩ := trod_field Try.underlying38 t5 0 _ rfl
  obtain ⟨m1, z1, u1⟩ := trod_field Try.underlying38 t5 1 _ rfl
  obtain ⟨m2, z2, u2⟩ := trod_field Try.underlying38 t5 2 _ rfl
  obtain ⟨m3, z3, u3⟩ := trod_field Try.underlying38 t5 3 _ rfl
  simp [e1, e2, e3, e4] at u0 u1 u2 u3
  obtain ⟨p0, r0, v0⟩ := trod_field Try.underlying36 u1 0 _ rfl
  obtain ⟨p1, r1, v1⟩ := trod_field Try.underlying36 u1 1 _ rfl
  simp [e5] at v0 v1
  obtain ⟨s0, o0, w0⟩ := trod_field Try.underlying40 t6 0 _ rfl
  obtain ⟨s1, o1, w1⟩ := trod_field Try.underlying40 t6 1 _ rfl
  obtain ⟨s2, o2, w2⟩ := trod_field Try.underlying40 t6 2 _ rfl
  simp [e1] at w0 w1 w2
  obtain ⟨k, q0, _⟩ := DataW.trod_int Try.underlying3 t0
  obtain ⟨nm, q1, _, hn⟩ := DataW.trod_string Try.underlying9 t1
  obtain ⟨ty, q2, _⟩ := DataW.trod_int Try.underlying3 t2
  obtain ⟨nd, q3, _⟩ := DataW.trod_int Try.underlying3 t3
  obtain ⟨nu, q4, _⟩ := DataW.trod_int Try.underlying3 t4
  obtain ⟨ck, q5, _⟩ := DataW.trod_int Try.underlying3 u0
  obtain ⟨hi, q6, _⟩ := DataW.trod_int Try.underlying34 v0
  obtain ⟨lo, q7, _⟩ := DataW.trod_int Try.underlying34 v1
  obtain ⟨bb, q8, _⟩ := DataW.trod_bool Try.underlying4 u2
  obtain ⟨ss, q9, _⟩ := DataW.trod_string Try.underlying9 u3
  obtain ⟨f, qa, _⟩ := DataW.trod_int Try.underlying3 w0
  obtain ⟨l, qb, _⟩ := DataW.trod_int Try.underlying3 w1
  obtain ⟨c, qc, _⟩ := DataW.trod_int Try.underlying3 w2
  simp only [List.cons.injEq, and_true] at q0 q1 q2 q3 q4 q5 q6 q7 q8 q9 qa qb qc
  subst q0 q1 q2 q3 q4 q5 q6 q7 q8 q9 qa qb qc
  exact ⟨⟨k, nm, ty, nd, nu, ck, hi, lo, bb, ss, f, l, c⟩, rfl, hn⟩
theorem open_acts {fuel : Nat} {A : Option Addr} {n c : Nat} {x : DataW H × List MemPlace} (h : DataW.trod enc Try.prog W 0 spare held fuel 22 [.slice A n c] = some x) :
    ∃ xs : List ActV, xs.length = n ∧ Reads W W.heap.size 16 A n (xs.flatMap ActV.cells) ∧ (∀ x ∈ xs, x.o.name.size ≤ maxLen) ∧ n ≤ c ∧ c ≤ maxLen := by
  refine open_flats ActV.cells ActV.cells_length (by omega) (fun x => x.o.name.size ≤ maxLen) Try.underlying22 (by kernel_rfl) h fun cs m y hl ht => ?_
  obtain ⟨c0, c1, c2, r, rfl, hr⟩ := list16 hl
  have e1 : Try.prog.cellsOf 3 = 1 := by kernel_rfl
  have e2 : Try.prog.cellsOf 42 = 13 := by kernel_rfl
  obtain ⟨n0, y0, t0⟩ := trod_field Try.underlying100 ht 0 _ rfl
  obtain ⟨n1, y1, t1⟩ := trod_field Try.underlying100 ht 1 _ rfl
  obtain ⟨n2, y2, t2⟩ := trod_field Try.underlying100 ht 2 _ rfl
  obtain ⟨n3, y3, t3⟩ := trod_field Try.underlying100 ht 3 _ rfl
  simp [e1, e2] at t0 t1 t2 t3
  rw [List.take_of_length_le (by omega)] at t3
  obtain ⟨o, rfl, ho⟩ := open_object hr t3
  obtain ⟨k, q0, _⟩ := DataW.trod_int Try.underlying3 t0
  obtain ⟨a, q1, _⟩ := DataW.trod_int Try.underlying3 t1
  obtain ⟨i, q2, _⟩ := DataW.trod_int Try.underlying3 t2
  simp only [List.cons.injEq, and_true] at q0 q1 q2
  subst q0 q1 q2
  exact ⟨⟨k, a, i, o⟩, rfl, ho⟩
theorem open_names {fuel : Nat} {A : Option Addr} {n c : Nat} {x : DataW H × List MemPlace} (h : DataW.trod enc Try.prog W 0 spare held fuel 23 [.slice A n c] = some x) :
    ∃ xs : List ByteArray, xs.length = n ∧ Reads W W.heap.size 1 A n (xs.flatMap fun s => [Value.string s]) ∧ (∀ x ∈ xs, x.size ≤ maxLen) ∧ n ≤ c ∧ c ≤ maxLen := by
  refine open_flats (fun s => [Value.string s]) (s := 1) (fun _ => rfl) (by omega) (fun x => x.size ≤ maxLen) Try.underlying23 (by kernel_rfl) h fun cs m y hl ht => ?_
  obtain ⟨s, q, _, hs⟩ := DataW.trod_string Try.underlying9 ht
  exact ⟨s, q, hs⟩
end

end Go.Proofs.Ytllddgfmjmblmaa
