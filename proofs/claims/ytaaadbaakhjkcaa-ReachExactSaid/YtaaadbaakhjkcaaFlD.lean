/- Reverse of numbers; the order of blocks, as mathematics; no conditions. -/
import Derived.Test.YtaaadbaakhjkcaaFlC
import Derived.Test.YtaaadbaakhjkcaaRev
import Derived.Sort.OwnSortedInts
namespace Go.Proofs.Ytaaadbaakhjkcaa
open Go.Shelf Go.RowKit Go.WideShapes Go.ChangeShapes
set_option linter.unusedVariables false
set_option linter.unusedSimpArgs false
set_option maxRecDepth 100000

theorem rev_any (B : Nat) (v : Value) (l : List Int) (w : World) (h : w.ownsRow B 3 1 v l.length (l.map iI)) (hn : l.length ≤ 100000) : Calls Try.prog 59 #[v] w fun e w' => e = .returned (.tuple #[]) ∧ w'.ownsRow B 3 1 v l.length (l.reverse.map iI) ∧ w.grownBy w' v.ownBlock := by
  rcases h.2 with ⟨rfl, h0⟩ | ⟨g, cap, cur, rfl, hB, hb, hn', hm, hs, ht⟩
  · have hl : l = [] := List.eq_nil_of_length_eq_zero h0
    subst hl
    refine (Any.slices_Reverse_int_empty Try.lays112 none 0 w).mono ?_
    rintro e w' ⟨rfl, rfl⟩
    exact ⟨rfl, h, ⟨rfl, rfl, rfl, Nat.le_refl _, fun _ _ _ => rfl⟩⟩
  · refine (Any.slices_Reverse_int Try.lays112 g 0 cap l w (holds_of_blockI hb (by simpa using ht)) (by omega)).mono ?_
    rintro e w' ⟨rfl, q, rfl⟩
    have hg : ∀ W : World, Go.Sort.grow W #[] = W := fun W => by unfold Go.Sort.grow; simp
    have hown := ownsRow_sortedI (w := w) (base := B) (n := q) (e := 3) (os := #[]) (ss := l) (ts := l.reverse) (by simp) hB hb hn' hm hs
    have hgr := grownBy_sortedI (w := w) (g := g) (n := q) (os := #[]) l.reverse.toArray
    rw [hg] at hown hgr
    exact ⟨rfl, hown, hgr⟩
/-- What is gone through: what is seen, how many of its next ones each has tried, those that were left, the way. -/
structure OS where
  f : Nat → Bool
  tr : Nat → Nat
  left : List Nat
  path : List Nat
def ostep (N : Nat → List Int) (s : OS) : OS := match s.path.getLast? with
  | none => s
  | some k => if s.tr k = (N k).length then { s with left := s.left ++ [k], path := s.path.dropLast }
    else { f := fun q => s.f q || q == ((N k).getD (s.tr k) 0).toNat, tr := fun q => if q = k then s.tr k + 1 else s.tr q, left := s.left, path := if s.f ((N k).getD (s.tr k) 0).toNat = true then s.path else s.path ++ [((N k).getD (s.tr k) 0).toNat] }
def oiter (N : Nat → List Int) : Nat → OS → OS
  | 0, s => s
  | i + 1, s => ostep N (oiter N i s)
def ostart : OS := ⟨fun q => q == 0, fun _ => 0, [], [0]⟩
theorem ostep_end {N : Nat → List Int} {s : OS} (h : s.path = []) : ostep N s = s := by unfold ostep; rw [h]; rfl
theorem oiter_end {N : Nat → List Int} {s : OS} {i : Nat} (h : (oiter N i s).path = []) : ∀ d, oiter N (i + d) s = oiter N i s
  | 0 => rfl
  | d + 1 => by
    show ostep N (oiter N (i + d) s) = _
    rw [oiter_end h d]
    exact ostep_end h
theorem oiter_det {N : Nat → List Int} {s : OS} {i j : Nat} (hi : (oiter N i s).path = []) (hj : (oiter N j s).path = []) : oiter N i s = oiter N j s := by
  rcases Nat.le_total i j with h | h
  · obtain ⟨d, rfl⟩ := Nat.le.dest h
    exact (oiter_end hi d).symm
  · obtain ⟨d, rfl⟩ := Nat.le.dest h
    exact oiter_end hj d
def sumN : Nat → (Nat → Nat) → Nat
  | 0, _ => 0
  | n + 1, f => sumN n f + f n
theorem sumN_congr {f g : Nat → Nat} : ∀ n, (∀ q, q < n → f q = g q) → sumN n f = sumN n g
  | 0, _ => rfl
  | n + 1, h => by unfold sumN; rw [sumN_congr n (fun q hq => h q (by omega)), h n (by omega)]
theorem sumN_less {f g : Nat → Nat} {k : Nat} : ∀ n, k < n → (∀ q, q < n → q ≠ k → f q = g q) → f k + 1 = g k → sumN n f + 1 = sumN n g
  | 0, h, _, _ => by omega
  | n + 1, h, hq, hk => by
    unfold sumN
    by_cases e : k = n
    · subst e
      rw [sumN_congr k (fun q hq' => hq q (by omega) (by omega))]
      omega
    · have := sumN_less n (by omega) (fun q hq' hne => hq q (by omega) hne) hk
      rw [hq n (by omega) (by omega)]
      omega
/-- What holds at each step. -/
structure OI (m : Nat) (N : Nat → List Int) (s : OS) : Prop where
  path : ∀ q ∈ s.path, q < m
  left : ∀ q ∈ s.left, q < m
  tr : ∀ q, q < m → s.tr q ≤ (N q).length
  cnt : s.left.length + s.path.length + cntU m s.f ≤ m
def omeas (m : Nat) (N : Nat → List Int) (s : OS) : Nat := sumN m (fun q => (N q).length - s.tr q) + s.path.length + 2 * cntU m s.f
theorem OI.start {m : Nat} {N : Nat → List Int} (h : 0 < m) : OI m N ostart :=
  ⟨fun q hq => by rw [List.mem_singleton.1 hq]; exact h, fun q hq => by (cases hq), fun q _ => Nat.zero_le _, by have := cntU_start (n := m) (a := 0) h; show 0 + 1 + cntU m (fun q => q == 0) ≤ m; omega⟩
theorem last_of {p : List Nat} {k : Nat} : (p ++ [k]).getLast? = some k := by simp
section
variable {m k : Nat} {N : Nat → List Int} {s : OS} {p : List Nat}
theorem ostep_pop (hp : s.path = p ++ [k]) (ht : s.tr k = (N k).length) : ostep N s = { s with left := s.left ++ [k], path := p } := by
  unfold ostep
  rw [hp, last_of]
  show (if s.tr k = (N k).length then _ else _) = _
  rw [if_pos ht]
  simp
theorem ostep_go {y : Nat} (hp : s.path = p ++ [k]) (ht : s.tr k ≠ (N k).length) (hy : (N k)[s.tr k]? = some (y : Int)) : ostep N s = { f := fun q => s.f q || q == y, tr := fun q => if q = k then s.tr k + 1 else s.tr q, left := s.left, path := if s.f y = true then s.path else s.path ++ [y] } := by
  have e : ((N k).getD (s.tr k) 0).toNat = y := by rw [List.getD_eq_getElem?_getD, hy]; rfl
  unfold ostep
  rw [hp, last_of]
  show (if s.tr k = (N k).length then _ else _) = _
  rw [if_neg ht, e]
theorem OI.pop (h : OI m N s) (hp : s.path = p ++ [k]) (ht : s.tr k = (N k).length) : OI m N (ostep N s) ∧ omeas m N (ostep N s) < omeas m N s := by
  rw [ostep_pop hp ht]
  have hc := h.cnt
  rw [hp, List.length_append] at hc
  have hkm := h.path k (by rw [hp]; simp)
  refine ⟨⟨fun q hq => h.path q (by rw [hp]; exact List.mem_append_left _ hq), fun q hq => ?_, h.tr, by show (s.left ++ [k]).length + p.length + cntU m s.f ≤ m; rw [List.length_append]; simp at hc ⊢; omega⟩, ?_⟩
  · rcases List.mem_append.1 hq with hq | hq
    · exact h.left q hq
    · rw [List.mem_singleton.1 hq]; exact hkm
  · unfold omeas
    rw [hp]
    show sumN m (fun q => (N q).length - s.tr q) + p.length + 2 * cntU m s.f < sumN m (fun q => (N q).length - s.tr q) + (p ++ [k]).length + 2 * cntU m s.f
    rw [List.length_append]
    simp
theorem OI.go {y : Nat} (h : OI m N s) (hp : s.path = p ++ [k]) (ht : s.tr k ≠ (N k).length) (hy : (N k)[s.tr k]? = some (y : Int)) (hym : y < m) : OI m N (ostep N s) ∧ omeas m N (ostep N s) < omeas m N s := by
  rw [ostep_go hp ht hy]
  have hc := h.cnt
  have hkm := h.path k (by rw [hp]; simp)
  have hlt := h.tr k hkm
  have hs := sumN_less (f := fun q => (N q).length - (if q = k then s.tr k + 1 else s.tr q)) (g := fun q => (N q).length - s.tr q) m hkm (fun q _ hne => by simp [hne]) (by simp; omega)
  have htr : ∀ q, q < m → (if q = k then s.tr k + 1 else s.tr q) ≤ (N q).length := fun q hq => by
    split
    · rename_i e; subst e; omega
    · exact h.tr q hq
  cases hf : s.f y with
  | true =>
    have hq2 : ∀ q, q < m → (s.f q || q == y) = s.f q := fun q _ => by
      by_cases e : q = y
      · rw [e, hf]; rfl
      · have h2 : (q == y) = false := by simp [e]
        rw [h2, Bool.or_false]
    have hcc : cntU m (fun q => s.f q || q == y) = cntU m s.f := cntU_congr m hq2
    refine ⟨⟨by rw [if_pos rfl]; exact h.path, h.left, htr, by rw [if_pos rfl]; show s.left.length + s.path.length + cntU m (fun q => s.f q || q == y) ≤ m; rw [hcc]; exact hc⟩, ?_⟩
    unfold omeas
    show sumN m (fun q => (N q).length - (if q = k then s.tr k + 1 else s.tr q)) + (if true = true then s.path else s.path ++ [y]).length + 2 * cntU m (fun q => s.f q || q == y) < _
    rw [if_pos rfl, hcc]
    omega
  | false =>
    have hcc := cntU_set hf m hym
    refine ⟨⟨fun q hq => ?_, h.left, htr, ?_⟩, ?_⟩
    · have hq : q ∈ s.path ++ [y] := by simpa using hq
      rcases List.mem_append.1 hq with hq | hq
      · exact h.path q hq
      · rw [List.mem_singleton.1 hq]; exact hym
    · show s.left.length + (if false = true then s.path else s.path ++ [y]).length + cntU m (fun q => s.f q || q == y) ≤ m
      rw [if_neg (by decide), List.length_append]
      simp
      omega
    · unfold omeas
      show sumN m (fun q => (N q).length - (if q = k then s.tr k + 1 else s.tr q)) + (if false = true then s.path else s.path ++ [y]).length + 2 * cntU m (fun q => s.f q || q == y) < _
      rw [if_neg (by decide), List.length_append]
      simp
      omega
end
end Go.Proofs.Ytaaadbaakhjkcaa
