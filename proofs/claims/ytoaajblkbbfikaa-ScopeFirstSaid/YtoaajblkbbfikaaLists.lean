/- Slices of structs, opened as lists, for any struct whose fields are of one cell each; conditions: none but that they can be read as data. -/
import Derived.Test.YtoaajblkbbfikaaArgs
namespace Go.Proofs.Ytoaajblkbbfikaa
open Go.ChangeShapes Go.WideShapes Go.Deep Go.RowKit Go.Joins
set_option linter.unusedVariables false
set_option maxRecDepth 100000

theorem length_flat {α : Type} {f : α → List Value} {s : Nat} (hs : ∀ x, (f x).length = s) : ∀ xs : List α, (xs.flatMap f).length = xs.length * s
  | [] => by simp
  | x :: xs => by rw [List.flatMap_cons, List.length_append, length_flat hs xs, hs, List.length_cons, Nat.succ_mul]; omega
theorem flat_at {α : Type} {f : α → List Value} {s : Nat} (hs : ∀ x, (f x).length = s) : ∀ (xs : List α) (k : Nat) (x : α), xs[k]? = some x → ∀ (i : Nat) (u : Value), (f x)[i]? = some u → (xs.flatMap f)[k * s + i]? = some u
  | [], k, x, h, i, u, hi => by simp at h
  | y :: xs, 0, x, h, i, u, hi => by
    simp at h; subst h
    have hl : i < s := by have := (List.getElem?_eq_some_iff.1 hi).1; rwa [hs] at this
    rw [List.flatMap_cons, List.getElem?_append_left (by rw [hs]; omega)]
    simpa using hi
  | y :: xs, k + 1, x, h, i, u, hi => by
    rw [List.flatMap_cons, List.getElem?_append_right (by rw [hs, Nat.succ_mul]; omega), hs]
    have e : (k + 1) * s + i - s = k * s + i := by rw [Nat.succ_mul]; omega
    rw [e]
    exact flat_at hs xs k x (by simpa using h) i u hi

section
variable {H : Type} {enc : TypeId × Value → H} {P : Program} {W : World} {spare : Nat → Bool} {held : Bool}

theorem open_structs {α : Type} (cells : α → List Value) {s : Nat} (hs : ∀ x, (cells x).length = s) (hpos : 0 < s) (Q : α → Prop) {t e : TypeId} {fs : Array Field} {fuel : Nat} {A : Option Addr} {n c : Nat} {x : DataW H × List MemPlace}
    (ht : P.underlying t = some (.slice e)) (he : P.underlying e = some (.struct fs)) (hone : oneCellFields P fs = true) (hC : P.cellsOf e = fs.size) (hsz : fs.size = s)
    (h : DataW.trod enc P W 0 spare held fuel t [.slice A n c] = some x)
    (hel : ∀ a : Addr, (∀ (j : Nat) (f : Field), fs[j]? = some f → ∃ (v : Value) (y : DataW H × List MemPlace) (m : Nat), W.cell? (a.add j) = some v ∧ DataW.trod enc P W 0 spare held m f.type [v] = some y) →
      ∃ x, (∀ j u, (cells x)[j]? = some u → W.cell? (a.add j) = some u) ∧ Q x) :
    ∃ xs : List α, xs.length = n ∧ Reads W W.heap.size s A n (xs.flatMap cells) ∧ (∀ x ∈ xs, Q x) ∧ n ≤ c ∧ c ≤ maxLen := by
  rcases open_slice_fields ht he hone hC h with ⟨h0, _⟩ | ⟨a, len, cap, m, D, Pl, hcs, _, hl, hm, hmm, _, hf⟩
  · simp only [List.cons.injEq, Value.slice.injEq, and_true] at h0
    obtain ⟨rfl, rfl, rfl⟩ := h0
    exact ⟨[], rfl, Reads.none_, by simp, Nat.le_refl _, by simp [maxLen]⟩
  · simp only [List.cons.injEq, Value.slice.injEq, and_true] at hcs
    obtain ⟨rfl, rfl, rfl⟩ := hcs
    have hnm : n ≤ m := by rw [hmm]; split <;> omega
    have hv : ∀ i, i < n → ∃ v : α, (∀ j u, (cells v)[j]? = some u → W.cell? (a.add (i * s + j)) = some u) ∧ Q v := by
      intro i hi
      obtain ⟨ys, n', _, _, _, hfi⟩ := hf i (by omega)
      rw [hsz] at hfi
      obtain ⟨v, h1, h2⟩ := hel (a.add (i * s)) fun j f hj => by
        obtain ⟨v, y, c0, _, t0⟩ := hfi j f hj
        exact ⟨v, y, n', by rw [add_of_add]; exact c0, t0⟩
      exact ⟨v, fun j u hu => by rw [← add_of_add]; exact h1 j u hu, h2⟩
    obtain ⟨vs, hlen, hp⟩ := exists_list hv
    refine ⟨vs, hlen, ⟨by rw [length_flat hs, hlen], fun hn => ?_⟩, fun v hv => ?_, hl, hm⟩
    · obtain ⟨v, _, hc, _⟩ := hp 0 hn
      refine ⟨a, rfl, ?_, fun j u hu => ?_⟩
      · have h0 : 0 < (cells v).length := by rw [hs]; exact hpos
        have := World.block_lt_of_cell? W _ (hc 0 _ (List.getElem?_eq_getElem h0))
        rwa [block_of_add] at this
      · have hj : j < (vs.flatMap cells).length := (List.getElem?_eq_some_iff.1 hu).1
        rw [length_flat hs, hlen] at hj
        have hd : j / s < n := Nat.div_lt_of_lt_mul (by rw [Nat.mul_comm]; exact hj)
        obtain ⟨v, hv, hc, _⟩ := hp (j / s) hd
        have h5 : j % s < (cells v).length := by rw [hs]; exact Nat.mod_lt _ hpos
        have hvc := List.getElem?_eq_getElem h5
        have he := flat_at hs vs (j / s) v hv (j % s) _ hvc
        have ej : j / s * s + j % s = j := by rw [Nat.mul_comm]; exact Nat.div_add_mod j s
        rw [ej, hu] at he
        injection he with he
        have := hc _ _ hvc
        rw [ej] at this
        rw [he]
        exact this
    · obtain ⟨i, hi, he⟩ := List.mem_iff_getElem.1 hv
      obtain ⟨v', hv', _, hs'⟩ := hp i (by omega)
      rw [List.getElem?_eq_getElem hi, he] at hv'
      injection hv' with hv'
      rw [hv']
      exact hs'
end

end Go.Proofs.Ytoaajblkbbfikaa
