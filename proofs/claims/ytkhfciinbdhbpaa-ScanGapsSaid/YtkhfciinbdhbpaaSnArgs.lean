/- Slices of strings and of ints, opened as lists; conditions: none but that they can be read as data. -/
import Derived.Test.YtkhfciinbdhbpaaRows
import Derived.Test.YtkhfciinbdhbpaaWords
import Derived.Deep.Slices
import Derived.Deep.Fields
import Derived.Lib.SmallJoins
import Derived.ChangeSame
import Derived.ChangeMaps5
import Derived.Carry
namespace Go.Proofs.Ytkhfciinbdhbpaa
open Go.ChangeShapes Go.WideShapes Go.Deep Go.RowKit Go.Joins
set_option linter.unusedVariables false
set_option maxRecDepth 100000

theorem ex_list {α : Type} {n : Nat} {p : Nat → α → Prop} (h : ∀ i, i < n → ∃ x, p i x) : ∃ l : List α, l.length = n ∧ ∀ i, i < n → ∃ x, l[i]? = some x ∧ p i x := by
  induction n with
  | zero => exact ⟨[], rfl, fun i hi => by omega⟩
  | succ n ih =>
    obtain ⟨l, hl, hp⟩ := ih fun i hi => h i (by omega)
    obtain ⟨x, hx⟩ := h n (by omega)
    refine ⟨l ++ [x], by simp [hl], fun i hi => ?_⟩
    rcases Nat.lt_or_ge i n with h1 | h1
    · obtain ⟨y, hy, hp⟩ := hp i h1
      exact ⟨y, by rw [List.getElem?_append_left (by omega)]; exact hy, hp⟩
    · obtain rfl : i = n := by omega
      refine ⟨x, ?_, hx⟩
      rw [← hl, List.getElem?_concat_length]
theorem len_flat {α : Type} {f : α → List Value} {s : Nat} (hs : ∀ x, (f x).length = s) : ∀ xs : List α, (xs.flatMap f).length = xs.length * s
  | [] => by simp
  | x :: xs => by rw [List.flatMap_cons, List.length_append, len_flat hs xs, hs, List.length_cons, Nat.succ_mul]; omega
theorem at_flat {α : Type} {f : α → List Value} {s : Nat} (hs : ∀ x, (f x).length = s) : ∀ (xs : List α) (k : Nat) (x : α), xs[k]? = some x → ∀ (i : Nat) (u : Value), (f x)[i]? = some u → (xs.flatMap f)[k * s + i]? = some u
  | [], k, x, h, i, u, hi => by simp at h
  | y :: xs, 0, x, h, i, u, hi => by
    simp at h; subst h
    have hl : i < s := by have := (List.getElem?_eq_some_iff.1 hi).1; rwa [hs] at this
    rw [List.flatMap_cons, List.getElem?_append_left (by rw [hs]; omega)]
    simpa using hi
  | y :: xs, k + 1, x, h, i, u, hi => by
    rw [List.flatMap_cons, List.getElem?_append_right (by rw [hs, Nat.succ_mul]; omega), hs]
    have e : (k + 1) * s + i - s = k * s + i := by rw [Nat.succ_mul]; omega
    rw [e]
    exact at_flat hs xs k x (by simpa using h) i u hi
theorem Reads.spot {w : World} {B s n : Nat} {A : Option Addr} {xs : List Value} (h : Reads w B s A n xs) (hn : 0 < n) (hs : 0 < s) :
    ∃ b off, A = some ⟨b, off, none⟩ ∧ b < B ∧ ∀ j u, xs[j]? = some u → w.cell? ⟨b, off + j, none⟩ = some u := by
  obtain ⟨ad, e, hb, hc⟩ := h.2 hn
  obtain ⟨b, off, spot⟩ := ad
  have hl : 0 < xs.length := by rw [h.1]; exact Nat.mul_pos hn hs
  have hspot : spot = none := by simpa [Addr.add] using World.cell?_spot (hc 0 _ (List.getElem?_eq_getElem hl))
  subst hspot
  exact ⟨b, off, e, hb, fun j u hu => by rw [← Go.WideShapes.add_plain]; exact hc j u hu⟩

section
variable {H : Type} {enc : TypeId × Value → H} {P : Program} {W : World} {spare : Nat → Bool} {held : Bool}
theorem open_flats {α : Type} (cells : α → List Value) {s : Nat} (hs : ∀ x, (cells x).length = s) (hpos : 0 < s) (Q : α → Prop) {t e : TypeId} {fuel : Nat} {A : Option Addr} {n c : Nat} {x : DataW H × List MemPlace}
    (ht : P.underlying t = some (.slice e)) (hC : P.cellsOf e = s)
    (h : DataW.trod enc P W 0 spare held fuel t [.slice A n c] = some x)
    (hel : ∀ (cs : List Value) (m : Nat) (y : DataW H × List MemPlace), cs.length = s → DataW.trod enc P W 0 spare held m e cs = some y → ∃ x, cs = cells x ∧ Q x) :
    ∃ xs : List α, xs.length = n ∧ Reads W W.heap.size s A n (xs.flatMap cells) ∧ (∀ x ∈ xs, Q x) ∧ n ≤ c ∧ c ≤ maxLen := by
  rcases open_slice ht h with ⟨h0, _⟩ | ⟨a, len, cap, m, n', D, Pl, hcs, _, hl, hm, hmm, _, hf⟩
  · simp only [List.cons.injEq, Value.slice.injEq, and_true] at h0
    obtain ⟨rfl, rfl, rfl⟩ := h0
    exact ⟨[], rfl, Reads.none_, by simp, Nat.le_refl _, by simp [maxLen]⟩
  · simp only [List.cons.injEq, Value.slice.injEq, and_true] at hcs
    obtain ⟨rfl, rfl, rfl⟩ := hcs
    have hnm : n ≤ m := by rw [hmm]; split <;> omega
    have hv : ∀ i, i < n → ∃ v : α, (∀ j u, (cells v)[j]? = some u → W.cell? (a.add (i * s + j)) = some u) ∧ Q v := by
      intro i hi
      obtain ⟨cs', hc, htr⟩ := hf i (by omega)
      rw [hC] at hc
      obtain ⟨_, hlen, hat⟩ := World.cells?_some hc
      obtain ⟨v, rfl, hq⟩ := hel cs' _ _ hlen htr
      refine ⟨v, fun j u hu => ?_, hq⟩
      have hj : j < s := by have := (List.getElem?_eq_some_iff.1 hu).1; rwa [hs] at this
      have := hat j hj
      rw [add_of_add] at this
      rw [this, hu]
    obtain ⟨vs, hlen, hp⟩ := ex_list hv
    refine ⟨vs, hlen, ⟨by rw [len_flat hs, hlen], fun hn => ?_⟩, fun v hv => ?_, hl, hm⟩
    · obtain ⟨v, _, hc, _⟩ := hp 0 hn
      refine ⟨a, rfl, ?_, fun j u hu => ?_⟩
      · have h0 : 0 < (cells v).length := by rw [hs]; exact hpos
        have := World.block_lt_of_cell? W _ (hc 0 _ (List.getElem?_eq_getElem h0))
        rwa [block_of_add] at this
      · have hj : j < (vs.flatMap cells).length := (List.getElem?_eq_some_iff.1 hu).1
        rw [len_flat hs, hlen] at hj
        have hd : j / s < n := Nat.div_lt_of_lt_mul (by rw [Nat.mul_comm]; exact hj)
        obtain ⟨v, hv, hc, _⟩ := hp (j / s) hd
        have h5 : j % s < (cells v).length := by rw [hs]; exact Nat.mod_lt _ hpos
        have hvc := List.getElem?_eq_getElem h5
        have he := at_flat hs vs (j / s) v hv (j % s) _ hvc
        have ej : j / s * s + j % s = j := by rw [Nat.mul_comm]; exact Nat.div_add_mod j s
        rw [ej, hu] at he
        injection he with he
        have := hc _ _ hvc
        rw [ej] at this
        rw [he]
        exact this
    · obtain ⟨i, hi, he⟩ := List.mem_iff_getElem.1 hv
      obtain ⟨v', hv', _, hs'⟩ := hp i (by omega)
      rw [List.getElem?_eq_getElem hi, he] at hv'
      injection hv' with hv'
      rw [hv']
      exact hs'
theorem open_names {fuel : Nat} {A : Option Addr} {n c : Nat} {x : DataW H × List MemPlace} (h : DataW.trod enc Try.prog W 0 spare held fuel 37 [.slice A n c] = some x) :
    ∃ xs : List ByteArray, xs.length = n ∧ Reads W W.heap.size 1 A n (xs.flatMap fun s => [Value.string s]) ∧ (∀ x ∈ xs, x.size ≤ maxLen) ∧ n ≤ c ∧ c ≤ maxLen := by
  refine open_flats (fun s => [Value.string s]) (s := 1) (fun _ => rfl) (by omega) (fun x => x.size ≤ maxLen) Try.underlying37 (by kernel_rfl) h fun cs m y hl ht => ?_
  obtain ⟨s, q, _, hs⟩ := DataW.trod_string Try.underlying9 ht
  exact ⟨s, q, hs⟩
theorem open_ints {fuel : Nat} {A : Option Addr} {n c : Nat} {x : DataW H × List MemPlace} (h : DataW.trod enc Try.prog W 0 spare held fuel 38 [.slice A n c] = some x) :
    ∃ xs : List Int, xs.length = n ∧ Reads W W.heap.size 1 A n (xs.flatMap fun s => [Value.int .i64 s]) ∧ n ≤ c ∧ c ≤ maxLen := by
  obtain ⟨xs, h1, h2, _, h3, h4⟩ := open_flats (fun s => [Value.int .i64 s]) (s := 1) (fun _ => rfl) (by omega) (fun _ => True) Try.underlying38 (by kernel_rfl) h fun cs m y hl ht => by
    obtain ⟨k, e, _, _⟩ := DataW.trod_int Try.underlying3 ht
    exact ⟨k, e, trivial⟩
  exact ⟨xs, h1, h2, h3, h4⟩
end
end Go.Proofs.Ytkhfciinbdhbpaa
