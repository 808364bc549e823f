/- The order of blocks, as mathematics; no conditions. -/
import Derived.Test.YtaaadbaakhjkcaaFlN
namespace Go.Proofs.Ytaaadbaakhjkcaa
open Go.RowKit Go.WideShapes Go.ChangeShapes
set_option linter.unusedVariables false
set_option linter.unusedSimpArgs false
set_option maxRecDepth 100000

/-- Blocks to which one comes from the first one. -/
inductive RchB (N : Nat → List Int) : Nat → Prop
  | refl : RchB N 0
  | step {q y : Nat} : RchB N q → (y : Int) ∈ N q → RchB N y
def OS.all (s : OS) : List Nat := s.left ++ s.path.reverse
structure OT (N : Nat → List Int) (s : OS) : Prop where
  nd : s.all.Nodup
  mem : ∀ q, s.f q = true ↔ q ∈ s.all
  par : ∀ a b c, s.all = a ++ b :: c → b = 0 ∨ ∃ p ∈ c, (b : Int) ∈ N p
  lst : s.all.getLast? = some 0
  rch : ∀ q ∈ s.all, RchB N q
  tried : ∀ q t y, t < s.tr q → (N q)[t]? = some y → s.f y.toNat = true
  trl : ∀ q, s.tr q ≤ (N q).length
  done : ∀ q ∈ s.left, s.tr q = (N q).length
theorem OT.start (N : Nat → List Int) : OT N ostart := by
  refine ⟨by show [0].Nodup; simp, fun q => ?_, fun a b c h => ?_, rfl, fun q hq => ?_, fun q t y ht => ?_, fun q => Nat.zero_le _, fun q hq => ?_⟩
  · show ((q == 0) = true) ↔ q ∈ [0]
    simp
  · change [0] = a ++ b :: c at h
    rcases a with _ | ⟨a0, a⟩
    · injection h with h1 h2
      exact .inl h1.symm
    · injection h with h1 h2
      have := congrArg List.length h2
      simp at this
  · have : q = 0 := by
      change q ∈ [0] at hq
      simpa using hq
    subst this
    exact .refl
  · exact absurd ht (Nat.not_lt_zero _)
  · cases hq
theorem insert_split {α : Type} {l r a c : List α} {y b : α} (h : l ++ y :: r = a ++ b :: c) : (b = y ∧ l = a ∧ r = c) ∨ (∃ c', c = c' ++ y :: r ∧ l = a ++ b :: c') ∨ (∃ a', a = l ++ y :: a' ∧ r = a' ++ b :: c) := by
  induction l generalizing a with
  | nil =>
    rcases a with _ | ⟨a0, a⟩
    · injection h with h1 h2
      exact .inl ⟨h1.symm, rfl, h2⟩
    · injection h with h1 h2
      subst h1
      exact .inr (.inr ⟨a, rfl, h2⟩)
  | cons x l ih =>
    rcases a with _ | ⟨a0, a⟩
    · injection h with h1 h2
      subst h1
      exact .inr (.inl ⟨l, h2.symm, rfl⟩)
    · injection h with h1 h2
      subst h1
      rcases ih h2 with ⟨e1, e2, e3⟩ | ⟨c', e1, e2⟩ | ⟨a', e1, e2⟩
      · exact .inl ⟨e1, by rw [e2], e3⟩
      · exact .inr (.inl ⟨c', e1, by rw [e2]; rfl⟩)
      · exact .inr (.inr ⟨a', by rw [e1]; rfl, e2⟩)
theorem OT.next {N : Nat → List Int} {s : OS} (h : OT N s) (hN : ∀ k, ∀ y ∈ N k, 0 ≤ y) : OT N (ostep N s) := by
  rcases List.eq_nil_or_concat s.path with hp | ⟨p, k, hp⟩
  · rw [ostep_end hp]
    exact h
  have hp : s.path = p ++ [k] := by simpa using hp
  have hall : s.all = s.left ++ k :: p.reverse := by unfold OS.all; rw [hp]; simp
  by_cases ht : s.tr k = (N k).length
  · rw [ostep_pop hp ht]
    have e : OS.all { s with left := s.left ++ [k], path := p } = s.all := by
      rw [hall]
      show (s.left ++ [k]) ++ p.reverse = _
      simp
    refine ⟨by rw [e]; exact h.nd, fun q => by rw [e]; exact h.mem q, fun a b c hc => h.par a b c (by rw [← e]; exact hc), by rw [e]; exact h.lst, fun q hq => h.rch q (by rw [← e]; exact hq), h.tried, h.trl, fun q hq => ?_⟩
    rcases List.mem_append.1 hq with hq | hq
    · exact h.done q hq
    · rw [List.mem_singleton.1 hq]
      exact ht
  · have hlt : s.tr k < (N k).length := by have := h.trl k; omega
    have hget : (N k)[s.tr k]? = some (N k)[s.tr k] := List.getElem?_eq_getElem hlt
    have hy0 := hN k _ (List.mem_of_getElem? hget)
    obtain ⟨y, hy⟩ : ∃ y : Nat, (N k)[s.tr k] = (y : Int) := ⟨((N k)[s.tr k]).toNat, by omega⟩
    rw [hy] at hget
    rw [ostep_go hp ht hget]
    have hkl : k ∉ s.left := fun hk => ht (h.done k hk)
    have htried : ∀ f' : Nat → Bool, (∀ q, s.f q = true → f' q = true) → f' y = true → ∀ q t z, t < (if q = k then s.tr k + 1 else s.tr q) → (N q)[t]? = some z → f' z.toNat = true := by
      intro f' hf hfy q t z h1 h2
      by_cases e : q = k
      · subst e
        rw [if_pos rfl] at h1
        rcases Nat.lt_or_ge t (s.tr q) with h3 | h3
        · exact hf _ (h.tried q t z h3 h2)
        · have h4 : t = s.tr q := by omega
          subst h4
          rw [hget] at h2
          injection h2 with h2
          rw [← h2]
          exact hfy
      · rw [if_neg e] at h1
        exact hf _ (h.tried q t z h1 h2)
    have htrl : ∀ q, (if q = k then s.tr k + 1 else s.tr q) ≤ (N q).length := fun q => by
      split
      · rename_i e
        subst e
        omega
      · exact h.trl q
    have hdone : ∀ q ∈ s.left, (if q = k then s.tr k + 1 else s.tr q) = (N q).length := fun q hq => by
      rw [if_neg (fun (e : q = k) => hkl (by rw [← e]; exact hq))]
      exact h.done q hq
    cases hf : s.f y with
    | true =>
      have e : OS.all { f := fun q => s.f q || q == y, tr := fun q => if q = k then s.tr k + 1 else s.tr q, left := s.left, path := if true = true then s.path else s.path ++ [y] } = s.all := rfl
      refine ⟨by rw [e]; exact h.nd, fun q => ?_, fun a b c hc => h.par a b c (by rw [← e]; exact hc), by rw [e]; exact h.lst, fun q hq => h.rch q (by rw [← e]; exact hq), htried _ (fun q hq => by simp [hq]) (by simp), htrl, hdone⟩
      rw [e, ← h.mem q]
      show (s.f q || q == y) = true ↔ _
      by_cases e2 : q = y
      · subst e2
        simp [hf]
      · simp [e2]
    | false =>
      have e : OS.all { f := fun q => s.f q || q == y, tr := fun q => if q = k then s.tr k + 1 else s.tr q, left := s.left, path := if false = true then s.path else s.path ++ [y] } = s.left ++ y :: (k :: p.reverse) := by
        show s.left ++ (if false = true then s.path else s.path ++ [y]).reverse = _
        rw [if_neg (by decide), hp]
        simp
      have hny : y ∉ s.all := fun hm => by rw [(h.mem y).2 hm] at hf; cases hf
      rw [hall] at hny
      refine ⟨?_, fun q => ?_, fun a b c hc => ?_, ?_, fun q hq => ?_, htried _ (fun q hq => by simp [hq]) (by simp), htrl, hdone⟩
      · rw [e]
        have hnd := h.nd
        rw [hall] at hnd
        rw [List.nodup_append] at hnd ⊢
        refine ⟨hnd.1, List.nodup_cons.2 ⟨fun hm => hny (List.mem_append_right _ hm), hnd.2.1⟩, fun a ha b hb => ?_⟩
        rcases List.mem_cons.1 hb with rfl | hb
        · intro e3
          subst e3
          exact hny (List.mem_append_left _ ha)
        · exact hnd.2.2 a ha b hb
      · rw [e]
        show (s.f q || q == y) = true ↔ _
        have hq := h.mem q
        rw [hall] at hq
        by_cases e2 : q = y
        · subst e2
          simp
        · have h3 : (q == y) = false := by simp [e2]
          rw [h3, Bool.or_false, hq]
          simp [e2]
      · rw [e] at hc
        rcases insert_split hc with ⟨e1, e2, e3⟩ | ⟨c', e1, e2⟩ | ⟨a', e1, e2⟩
        · subst e1
          exact .inr ⟨k, by rw [← e3]; simp, List.mem_of_getElem? hget⟩
        · rcases h.par a b (c' ++ k :: p.reverse) (by rw [hall, e2]; simp) with h3 | ⟨q, hq, h3⟩
          · exact .inl h3
          · refine .inr ⟨q, ?_, h3⟩
            rw [e1]
            rcases List.mem_append.1 hq with hq | hq
            · exact List.mem_append_left _ hq
            · exact List.mem_append_right _ (List.mem_cons_of_mem _ hq)
        · exact h.par (s.left ++ a') b c (by rw [hall, e2]; simp)
      · rw [e]
        have hl := h.lst
        rw [hall] at hl
        rw [List.getLast?_append] at hl ⊢
        rw [List.getLast?_cons_cons]
        exact hl
      · rw [e] at hq
        have hr : RchB N k := h.rch k (by rw [hall]; simp)
        rcases List.mem_append.1 hq with hq | hq
        · exact h.rch q (by rw [hall]; exact List.mem_append_left _ hq)
        · rcases List.mem_cons.1 hq with rfl | hq
          · exact .step hr (List.mem_of_getElem? hget)
          · exact h.rch q (by rw [hall]; exact List.mem_append_right _ hq)
theorem OT.iter {N : Nat → List Int} (hN : ∀ k, ∀ y ∈ N k, 0 ≤ y) : ∀ i, OT N (oiter N i ostart)
  | 0 => OT.start N
  | i + 1 => (OT.iter hN i).next hN
/-- What holds of the order of blocks. -/
structure OrdOk (N : Nat → List Int) (o : List Nat) : Prop where
  nd : o.Nodup
  first : o[0]? = some 0
  ahead : ∀ (j b : Nat), o[j]? = some b → j = 0 ∨ ∃ (i p : Nat), i < j ∧ o[i]? = some p ∧ (b : Int) ∈ N p
  mem : ∀ q, q ∈ o ↔ RchB N q
theorem ord_ok {N : Nat → List Int} (hN : ∀ k, ∀ y ∈ N k, 0 ≤ y) {i : Nat} (hp : (oiter N i ostart).path = []) : OrdOk N (oiter N i ostart).left.reverse := by
  have h := OT.iter hN i
  obtain ⟨s, hs⟩ : ∃ s, s = oiter N i ostart := ⟨_, rfl⟩
  rw [← hs] at h hp ⊢
  have e : s.all = s.left := by unfold OS.all; rw [hp]; simp
  have hnd := h.nd
  have hl := h.lst
  rw [e] at hnd hl
  have hfirst : s.left.reverse[0]? = some 0 := by rw [← List.head?_eq_getElem?, List.head?_reverse]; exact hl
  have hndr : s.left.reverse.Nodup := List.pairwise_reverse.2 (hnd.imp (fun h => Ne.symm h))
  refine ⟨hndr, hfirst, fun j b hj => ?_, fun q => ?_⟩
  · have hjl : j < s.left.reverse.length := by
      rcases Nat.lt_or_ge j s.left.reverse.length with h1 | h1
      · exact h1
      · rw [List.getElem?_eq_none h1] at hj; cases hj
    have hsplit : s.left.reverse = s.left.reverse.take j ++ b :: s.left.reverse.drop (j + 1) := by
      have h1 := List.getElem?_eq_getElem hjl
      rw [hj] at h1
      injection h1 with h1
      rw [h1, List.getElem_cons_drop, List.take_append_drop]
    have hs2 : s.all = (s.left.reverse.drop (j + 1)).reverse ++ b :: (s.left.reverse.take j).reverse := by
      have h2 := congrArg List.reverse hsplit
      rw [List.reverse_reverse, List.reverse_append, List.reverse_cons, List.append_assoc] at h2
      exact e.trans h2
    rcases h.par _ _ _ hs2 with h3 | ⟨p, hp2, h3⟩
    · refine .inl ?_
      subst h3
      rcases Nat.eq_zero_or_pos j with h4 | h4
      · exact h4
      · exact absurd (List.getElem?_inj (h₀ := by omega) (h₁ := hndr) |>.1 (hfirst.trans hj.symm)) (by omega)
    · rw [List.mem_reverse] at hp2
      obtain ⟨i', hi', hip⟩ := List.mem_iff_getElem.1 hp2
      rw [List.length_take] at hi'
      refine .inr ⟨i', p, by omega, ?_, h3⟩
      rw [List.getElem_take] at hip
      rw [List.getElem?_eq_getElem (by omega), hip]
  · rw [List.mem_reverse]
    refine ⟨fun hq => h.rch q (by rw [e]; exact hq), fun hr => ?_⟩
    induction hr with
    | refl =>
      have := List.mem_of_getElem? hfirst
      rwa [List.mem_reverse] at this
    | step hq hy ih =>
      rename_i q y
      obtain ⟨t, ht, hty⟩ := List.mem_iff_getElem.1 hy
      have hg : (N q)[t]? = some (y : Int) := by rw [List.getElem?_eq_getElem ht, hty]
      have hf := h.tried q t _ (by rw [h.done q ih]; exact ht) hg
      have := (h.mem y).1 (by simpa using hf)
      rwa [e] at this
end Go.Proofs.Ytaaadbaakhjkcaa
