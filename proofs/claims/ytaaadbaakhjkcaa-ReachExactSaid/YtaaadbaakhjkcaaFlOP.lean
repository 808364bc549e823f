/- The order of blocks, as mathematics; no conditions. -/
import Derived.Test.YtaaadbaakhjkcaaFlJN
namespace Go.Proofs.Ytaaadbaakhjkcaa
open Go.RowKit Go.WideShapes Go.ChangeShapes
set_option linter.unusedVariables false
set_option linter.unusedSimpArgs false
set_option maxRecDepth 100000

/-- Blocks to which one comes from the first one. -/
inductive RchB (N : Nat → List Int) : Nat → Prop
  | refl : RchB N 0
  | step {q y : Nat} : RchB N q → (y : Int) ∈ N q → RchB N y
def OS.all (s : OS) : List Nat := s.left ++ s.path.reverse
structure OT (N : Nat → List Int) (s : OS) : Prop where
  nd : s.all.Nodup
  mem : ∀ q, s.f q = true ↔ q ∈ s.all
  par : ∀ a b c, s.all = a ++ b :: c → b = 0 ∨ ∃ p ∈ c, (b : Int) ∈ N p
  lst : s.all.getLast? = some 0
  rch : ∀ q ∈ s.all, RchB N q
  tried : ∀ q t y, t < s.tr q → (N q)[t]? = some y → s.f y.toNat = true
  trl : ∀ q, s.tr q ≤ (N q).length
  done : ∀ q ∈ s.left, s.tr q = (N q).length
theorem OT.start (N : Nat → List Int) : OT N ostart := by
  refine ⟨by show [0].Nodup; simp, fun q => ?_, fun a b c h => ?_, rfl, fun q hq => ?_, fun q t y ht => ?_, fun q => Nat.zero_le _, fun q hq => ?_⟩
  · show ((q == 0) = true) ↔ q ∈ [0]
    simp
  · change [0] = a ++ b :: c at h
    rcases a with _ | ⟨a0, a⟩
    · injection h with h1 h2
      exact .inl h1.symm
    · injection h with h1 h2
      have := congrArg List.length h2
      simp at this
  · have : q = 0 := by
      change q ∈ [0] at hq
      simpa using hq
    subst this
    exact .refl
  · exact absurd ht (Nat.not_lt_zero _)
  · cases hq
theorem insert_split {α : Type} {l r a c : List α} {y b : α} (h : l ++ y :: r = a ++ b :: c) : (b = y ∧ l = a ∧ r = c) ∨ (∃ c', c = c' ++ y :: r ∧ l = a ++ b :: c') ∨ (∃ a', a = l ++ y :: a' ∧ r = a' ++ b :: c) := by
  induction l generalizing a with
  | nil =>
    rcases a with _ | ⟨a0, a⟩
    · injection h with h1 h2
      exact .inl ⟨h1.symm, rfl, h2⟩
    · injection h with h1 h2
      subst h1
      exact .inr (.inr ⟨a, rfl, h2⟩)
  | cons x l ih =>
    rcases a with _ | ⟨a0, a⟩
    · injection h with h1 h2
      subst h1
      exact .inr (.inl ⟨l, h2.symm, rfl⟩)
    · injection h with h1 h2
      subst h1
      rcases ih h2 with ⟨e1, e2, e3⟩ | ⟨c', e1, e2⟩ | ⟨a', e1, e2⟩
      · exact .inl ⟨e1, by rw [e2], e3⟩
      · exact .inr (.inl ⟨c', e1, by rw [e2]; rfl⟩)
      · exact .inr (.inr ⟨a', by rw [e1]; rfl, e2⟩)
theorem OT.next {N : Nat → List Int} {s : OS} (h : OT N s) (hN : ∀ k, ∀ y ∈ N k, 0 ≤ y) : OT N (ostep N s) := by
  rcases List.eq_nil_or_concat s.path with hp | ⟨p, k, hp⟩
  · rw [ostep_end hp]
    exact h
  have hp : s.path = p ++ [k] := by simpa using hp
  have hall : s.all = s.left ++ k :: p.reverse := by unfold OS.all; rw [hp]; simp
  by_cases ht : s.tr k = (N k).length
  · rw [ostep_pop hp ht]
    have e : OS.all { s with left := s.left ++ [k], path := p } = s.all := by
      rw [hall]
      show (s.left ++ [k]) ++ p.reverse = _
      simp
    refine ⟨by rw [e]; exact h.nd, fun q => by rw [e]; exact h.mem q, fun a b c hc => h.par a b c (by rw [← e]; exact hc), by rw [e]; exact h.lst, fun q hq => h.rch q (by rw [← e]; exact hq), h.tried, h.trl, fun q hq => ?_⟩
    rcases List.mem_append.1 hq with hq | hq
    · exact h.done q hq
    · rw [List.mem_singleton.1 hq]
      exact ht
  · have hlt : s.tr k < (N k).length := by have := h.trl k; omega
    have hget : (N k)[s.tr k]? = some (N k)[s.tr k] := List.getElem?_eq_getElem hlt
    have hy0 := hN k _ (List.mem_of_getElem? hget)
    obtain ⟨y, hy⟩ : ∃ y : Nat, (N k)[s.tr k] = (y : Int) := ⟨((N k)[s.tr k]).toNat, by omega⟩
    rw [hy] at hget
    rw [ostep_go hp ht hget]
    have hkl : k ∉ s.left := fun hk => ht (h.done k hk)
    have htried : ∀ f' : Nat → Bool, (∀ q, s.f q = true → f' q = true) → f' y = true → ∀ q t z, t < (if q = k then s.tr k + 1 else s.tr q) → (N q)[t]? = some z → f' z.toNat = true := by
      intro f' hf hfy q t z h1 h2
      by_cases e : q = k
      · subst e
        rw [if_pos rfl] at h1
        rcases Nat.lt_or_ge t (s.tr q) with h3 | h3
        · exact hf _ (h.tried q t z h3 h2)
        · have h4 : t = s.tr q := by omega
          subst h4
          rw [hget] at h2
          injection h2 with h2
          rw [← h2]
          exact hfy
      · rw [if_neg e] at h1
        exact hf _ (h.tried q t z h1 h2)
    have htrl : ∀ q, (if q = k then s.tr k + 1 else s.tr q) ≤ (N q).length := fun q => by
      split
      · rename_i e
        subst e
        omega
      · exact h.trl q
    have hdone : ∀ q ∈ s.left, (if q = k then s.tr k + 1 else s.tr q) = (N q).length := fun q hq => by
      rw [if_neg (fun (e : q = k) => hkl (by rw [← e]; exact hq))]
      exact h.done q hq
    cases hf : s.f y with
    | true =>
      have e : OS.all { f := fun q => s.f q || q == y, tr := fun q => if q = k then s.tr k + 1 else s.tr q, left := s.left, path := if true = true then s.path else s.path ++ [y] } = s.all := rfl
      refine ⟨by rw [e]; exact h.nd, fun q => ?_, fun a b c hc => h.par a b c (by rw [← e]; exact hc), by rw [e]; exact h.lst, fun q hq => h.rch q (by rw [← e]; exact hq), htried _ (fun q hq => by simp [hq]) (by simp), htrl, hdone⟩
      rw [e, ← h.mem q]
      show (s.f q || q == y) = true ↔ _
      by_cases e2 : q = y
      · subst e2
        simp [hf]
      · simp [e2]
    | false =>
      have e : OS.all { f := fun q => s.f q || q == y, tr := fun q => if q = k then s.tr k + 1 else s.tr q, left := s.left, path := if false = true then s.path else s.path ++ [y] } = s.left ++ y :: (k :: p.reverse) := by
        show s.left ++ (if false = true then s.path else s.path ++ [y]).reverse = _
        rw [if_neg (by decide), hp]
        simp
      have hny : y ∉ s.all := fun hm => by rw [(h.mem y).2 hm] at hf; cases hf
      rw [hall] at hny
      refine ⟨?_, fun q => ?_, fun a b c hc => ?_, ?_, fun q hq => ?_, htried _ (fun q hq => by simp [hq]) (by simp), htrl, hdone⟩
      · rw [e]
        have hnd := h.nd
        rw [hall] at hnd
        rw [List.nodup_append] at hnd ⊢
        refine ⟨hnd.1, List.nodup_cons.2 ⟨fun hm => hny (List.mem_append_right _ hm), hnd.2.1⟩, fun a ha b hb => ?_⟩
        rcases List.mem_cons.1 hb with rfl | hb
        · intro e3
          subst e3
          exact hny (List.mem_append_left _ ha)
        · exact hnd.2.2 a ha b hb
      · rw [e]
        show (s.f q || q == y) = true ↔ _
        have hq := h.mem q
        rw [hall] at hq
        by_cases e2 : q = y
        · subst e2
          simp
        · have h3 : (q == y) = false := by simp [e2]
          rw [h3, Bool.or_false, hq]
          simp [e2]
      · rw [e] at hc
        rcases insert_split hc with ⟨e1, e2, e3⟩ | ⟨c', e1, e2⟩ | ⟨a', e1, e2⟩
        · subst e1
          exact .inr ⟨k, by rw [← e3]; simp, List.mem_of_getElem? hget⟩
        · rcases h.par a b (c' ++ k :: p.reverse) (by rw [hall, e2]; simp) with h3 | ⟨q, hq, h3⟩
          · exact .inl h3
          · refine .inr ⟨q, ?_, h3⟩
            rw [e1]
            rcases List.mem_append.1 hq with hq | hq
            · exact List.mem_append_left _ hq
            · exact List.mem_append_right _ (List.mem_cons_of_mem _ hq)
        · exact h.par (s.left ++ a') b c (by rw [hall, e2]; simp)
      · rw [e]
        have hl := h.lst
        rw [hall] at hl
        rw [List.getLast?_append] at hl ⊢
        rw [List.getLast?_cons_cons]
        exact hl
      · rw [e] at hq
        have hr : RchB N k := h.rch k (by rw [hall]; simp)
        rcases List.mem_append.1 hq with hq | hq
        · exact h.rch q (by rw [hall]; exact List.mem_append_left _ hq)
        · rcases List.mem_cons.1 hq with rfl | hq
          · exact .step hr (List.mem_of_getElem? hget)
          · exact h.rch q (by rw [hall]; exact List.mem_append_right _ hq)
theorem OT.iter {N : Nat → List Int} (hN : ∀ k, ∀ y ∈ N k, 0 ≤ y) : ∀ i, OT N (oiter N i ostart)
  | 0 => OT.start N
  | i + 1 => (OT.iter hN i).next hN
/-- What holds of the order of blocks. -/
structure OrdOk (N : Nat → List Int) (o : List Nat) : Prop where
  nd : o.Nodup
  first : o[0]? = some 0
  ahead : ∀ (j b : Nat), o[j]? = some b → j = 0 ∨ ∃ (i p : Nat), i < j ∧ o[i]? = some p ∧ (b : Int) ∈ N p
  mem : ∀ q, q ∈ o ↔ RchB N q
theorem ord_ok {N : Nat → List Int} (hN : ∀ k, ∀ y ∈ N k, 0 ≤ y) {i : Nat} (hp : (oiter N i ostart).path = []) : OrdOk N (oiter N i ostart).left.reverse := by
  have h := OT.iter hN i
  obtain ⟨s, hs⟩ : ∃ s, s = oiter N i ostart := ⟨_, rfl⟩
  rw [← hs] at h hp ⊢
  have e : s.all = s.left := by unfold OS.all; rw [hp]; simp
  have hnd := h.nd
  have hl := h.lst
  rw [e] at hnd hl
  have hfirst : s.left.reverse[0]? = some 0 := by rw [← List.head?_eq_getElem?, List.head?_reverse]; exact hl
  have hndr : s.left.reverse.Nodup := List.pairwise_reverse.2 (hnd.imp (fun h => Ne.symm h))
  refine ⟨hndr, hfirst, fun j b hj => ?_, fun q => ?_⟩
  · have hjl : j < s.left.reverse.length := by
      rcases Nat.lt_or_ge j s.left.reverse.length with h1 | h1
      · exact h1
      · rw [List.getElem?_eq_none h1] at hj; cases hj
    have hsplit : s.left.reverse = s.left.reverse.take j ++ b :: s.left.reverse.drop (j + 1) := by
      have h1 := List.getElem?_eq_getElem hjl
      rw [hj] at h1
      injection h1 with h1
      rw [h1, List.getElem_cons_drop, List.take_append_drop]
    have hs2 : s.all = (s.left.reverse.drop (j + 1)).reverse ++ b :: (s.left.reverse.take j).reverse := by
      have h2 := congrArg List.reverse hsplit
      rw [List.reverse_reverse, List.reverse_append, List.reverse_cons, List.append_assoc] at h2
      exact e.trans h2
    rcases h.par _ _ _ hs2 with h3 | ⟨p, hp2, h3⟩
    · refine .inl ?_
      subst h3
      rcases Nat.eq_zero_or_pos j with h4 | h4
      · exact h4
      · exact absurd (List.getElem?_inj (h₀ := by omega) (h₁ := hndr) |>.1 (hfirst.trans hj.symm)) (by omega)
    · rw [List.mem_reverse] at hp2
      obtain ⟨i', hi', hip⟩ := List.mem_iff_getElem.1 hp2
      rw [List.length_take] at hi'
      refine .inr ⟨i', p, by omega, ?_, h3⟩
      rw [List.getElem_take] at hip
      rw [List.getElem?_eq_getElem (by omega), hip]
  · rw [List.mem_reverse]
    refine ⟨fun hq => h.rch q (by rw [e]; exact hq), fun hr => ?_⟩
    induction hr with
    | refl =>
      have := List.mem_of_getElem? hfirst
      rwa [List.mem_reverse] at this
    | step hq hy ih =>
      rename_i q y
      obtain ⟨t, ht, hty⟩ := List.mem_iff_getElem.1 hy
      have hg : (N q)[t]? = some (y : Int) := by rw [List.getElem?_eq_getElem ht, hty]
      have hf := h.tried q t _ (by rw [h.done q ih]; exact ht) hg
      have := (h.mem y).1 (by simpa using hf)
      rwa [e] at this
end Go.Proofs.Ytaaadbaakhjkcaa

namespace Go.Proofs.Ytaaadbaakhjkcaa
open Go.RowKit Go.WideShapes Go.ChangeShapes
set_option linter.unusedVariables false
set_option linter.unusedSimpArgs false
set_option maxRecDepth 100000

theorem blk_mono {B : Nat → Bool} {n : Nat} {l : List (Nat × Nat)} (h : BlsOk B n l) : ∀ (d i : Nat) (x y : Nat × Nat), l[i]? = some x → l[i + 1 + d]? = some y → x.2 ≤ y.1
  | 0, i, x, y, hx, hy => Nat.le_of_eq (h.next i x y hx hy)
  | d + 1, i, x, y, hx, hy => by
    have hlt : i + 1 + d < l.length := by
      rcases Nat.lt_or_ge (i + 1 + d) l.length with h1 | h1
      · exact h1
      · rw [List.getElem?_eq_none (by omega)] at hy; cases hy
    have hz := List.getElem?_eq_getElem hlt
    have h1 := blk_mono h d i x _ hx hz
    have h2 := (h.lt _ _ hz).1
    have h3 := h.next _ _ y hz hy
    omega
theorem blk_same {B : Nat → Bool} {n : Nat} {l : List (Nat × Nat)} (h : BlsOk B n l) {i j q : Nat} {x y : Nat × Nat} (hx : l[i]? = some x) (hy : l[j]? = some y) (h1 : x.1 ≤ q) (h2 : q < x.2) (h3 : y.1 ≤ q) (h4 : q < y.2) : i = j := by
  rcases Nat.lt_trichotomy i j with e | e | e
  · have := blk_mono h (j - (i + 1)) i x y hx (by rw [show i + 1 + (j - (i + 1)) = j by omega]; exact hy)
    omega
  · exact e
  · have := blk_mono h (i - (j + 1)) j y x hy (by rw [show j + 1 + (i - (j + 1)) = i by omega]; exact hx)
    omega
theorem code_lt {code : List IV} {q : Nat} {x : IV} (hx : code[q]? = some x) : q < code.length := by
  rcases Nat.lt_or_ge q code.length with h1 | h1
  · exact h1
  · rw [List.getElem?_eq_none h1] at hx; cases hx
theorem code_atN {code : List IV} {q : Nat} (h : q < code.length) : ∃ y, code[q]? = some y := ⟨_, List.getElem?_eq_getElem h⟩
theorem nxB_none {code : List IV} {B : Nat → Bool} {k : Nat} (h : (bls B code.length).length ≤ k) : nxB code B k = [] := by
  unfold nxB
  rw [List.getElem?_eq_none h]
theorem one_next (x : Int) : Lib.compact (sortI [x]) = [x] := by
  rw [show sortI [x] = [x] from List.mergeSort_singleton _]
  simp [Lib.compact, Lib.compactUpTo, Lib.keeps]
/-- A func's blocks. -/
structure Gr (p : Pr) (hs : List Bool) (code : List IV) (ns : Nat) (B : Nat → Bool) : Prop where
  good : goodP p hs code ns = true
  len : code.length ≤ 1000
  bdef : B = begU code code.length
section
variable {p : Pr} {hs : List Bool} {code : List IV} {ns : Nat} {B : Nat → Bool} (g : Gr p hs code ns B)
include g
theorem Gr.pos : 0 < code.length := by
  have h := g.good
  rcases code with _ | ⟨x, l⟩
  · unfold goodP lastB at h
    simp at h
  · simp
theorem Gr.zero : B 0 = true := by rw [g.bdef]; unfold begU; simp
theorem Gr.ok : BlsOk B code.length (bls B code.length) := by
  obtain ⟨m, hm⟩ : ∃ m, code.length = m + 1 := ⟨code.length - 1, by have := g.pos; omega⟩
  rw [hm]
  exact bls_ok g.zero m
theorem Gr.klen : 0 < (bls B code.length).length := by
  obtain ⟨m, hm⟩ : ∃ m, code.length = m + 1 := ⟨code.length - 1, by have := g.pos; omega⟩
  rw [hm]
  exact bls_pos g.zero m
theorem Gr.at_ {i q : Nat} {x : Nat × Nat} (hx : (bls B code.length)[i]? = some x) (h1 : x.1 ≤ q) (h2 : q < x.2) : atB B q = i := by
  have hl := g.ok.lt i x hx
  obtain ⟨y, hy, h3, h4⟩ := at_in g.zero (n := code.length) (q := q) (by omega)
  exact (blk_same g.ok hx hy h1 h2 h3 h4).symm
theorem Gr.beg {q y : Nat} {x : IV} (hx : code[q]? = some x) (hb : begI x.i q y = true) : B y = true := by
  rw [g.bdef]
  unfold begU
  rw [Bool.or_eq_true, List.any_eq_true]
  refine .inr ⟨q, List.mem_range.2 ?_, by rw [hx]; exact hb⟩
  rcases Nat.lt_or_ge q code.length with h1 | h1
  · exact h1
  · rw [List.getElem?_eq_none h1] at hx; cases hx
/-- Within a block each instruction goes on with the next one. -/
theorem Gr.inside {k pc : Nat} {x : Nat × Nat} {y : IV} (hx : (bls B code.length)[k]? = some x) (h1 : x.1 ≤ pc) (h2 : pc + 1 < x.2) (hy : code[pc]? = some y) : nextI y.i (pc : Int) = [((pc + 1 : Nat) : Int)] := by
  have hb := (g.ok.heads k x hx).2 (pc + 1) (by omega) h2
  have hne : begI y.i pc (pc + 1) = false := by
    cases h3 : begI y.i pc (pc + 1) with
    | false => rfl
    | true => rw [g.beg hy h3] at hb; cases hb
  have hw : IntKind.i64.wrap ((pc : Int) + 1) = ((pc + 1 : Nat) : Int) := by
    rw [IntWalk.i64_in _ (by have := code_lt hy; have := g.len; omega)]
    omega
  unfold begI at hne
  unfold nextI dest
  by_cases e1 : y.i.op = 19 ∨ y.i.op = 20 ∨ y.i.op = 37
  · rw [if_pos e1] at hne
    simp at hne
  · rw [if_neg e1] at hne
    by_cases e2 : y.i.op = 23 ∨ y.i.op = 26
    · rw [if_pos e2] at hne
      simp at hne
    · rw [if_neg (fun e => e1 (.inl e)), if_neg (fun e => e1 (.inr (.inl e))), if_neg (fun e => e1 (.inr (.inr e))), if_neg e2, hw]
      exact one_next _
/-- Whither an instruction goes on: to the next one, or where a block begins. -/
theorem Gr.edge {q y : Nat} (h : Edge code q y) : y = q + 1 ∨ B y = true := by
  obtain ⟨x, hx, hy⟩ := h
  by_cases e1 : x.i.op = 19 ∨ x.i.op = 20 ∨ x.i.op = 37
  · refine .inr (g.beg hx ?_)
    unfold begI
    rw [if_pos e1]
    simp [hy]
  · have hm := nextI_mem.1 hy
    unfold dest at hm
    rw [if_neg (fun e => e1 (.inl e)), if_neg (fun e => e1 (.inr (.inl e))), if_neg (fun e => e1 (.inr (.inr e)))] at hm
    by_cases e2 : x.i.op = 23 ∨ x.i.op = 26
    · rw [if_pos e2] at hm
      cases hm
    · rw [if_neg e2, List.mem_singleton, IntWalk.i64_in _ (by have := code_lt hx; have := g.len; omega)] at hm
      exact .inl (by omega)
theorem Gr.edge_lt {q y : Nat} (h : Edge code q y) : y < code.length := by
  obtain ⟨x, hx, hy⟩ := h
  have := edge_in g.good hx _ hy
  omega
/-- Where a block begins, its head stands. -/
theorem Gr.head {q : Nat} (hq : q < code.length) (hb : B q = true) : ∃ x, (bls B code.length)[atB B q]? = some x ∧ x.1 = q := by
  obtain ⟨x, hx, h1, h2⟩ := at_in g.zero (n := code.length) hq
  refine ⟨x, hx, ?_⟩
  rcases Nat.lt_or_ge x.1 q with h3 | h3
  · rw [(g.ok.heads _ x hx).2 q h3 h2] at hb
    cases hb
  · omega
/-- From a block's last instruction code goes on where a block begins. -/
theorem Gr.out {k y : Nat} {x : Nat × Nat} (hx : (bls B code.length)[k]? = some x) (h : Edge code (x.2 - 1) y) : B y = true := by
  have hl := g.ok.lt k x hx
  rcases g.edge h with e | e
  · cases hb : B y with
    | true => rfl
    | false =>
      have hy := g.edge_lt h
      obtain ⟨z, hz, h1, h2⟩ := at_in g.zero (n := code.length) hy
      have hzh := (g.ok.heads _ z hz).1
      have h3 : z.1 ≠ y := fun e3 => by rw [e3, hb] at hzh; cases hzh
      have := blk_same g.ok (q := x.2 - 1) hx hz (by omega) (by omega) (by omega) (by omega)
      rw [← this] at hz
      rw [hx] at hz
      injection hz with hz
      subst hz
      omega
  · exact e
theorem Gr.nx_iff {k : Nat} {x : Nat × Nat} (hx : (bls B code.length)[k]? = some x) (y : Nat) : y ∈ nxB code B k ↔ ∃ q, Edge code (x.2 - 1) q ∧ y = atB B q := by
  have hl := g.ok.lt k x hx
  obtain ⟨z, hz⟩ := code_atN (code := code) (q := x.2 - 1) (by omega)
  rw [nxB_eq hx hz, List.mem_map]
  constructor
  · rintro ⟨q, hq, rfl⟩
    have := edge_in g.good hz q hq
    exact ⟨q.toNat, ⟨z, hz, by rw [Int.toNat_of_nonneg this.1]; exact hq⟩, rfl⟩
  · rintro ⟨q, ⟨z', hz', hq⟩, rfl⟩
    rw [hz] at hz'
    injection hz' with hz'
    subst hz'
    exact ⟨(q : Int), hq, by simp⟩
theorem Gr.walk {k : Nat} {x : Nat × Nat} (hx : (bls B code.length)[k]? = some x) (hr : Rch code 0 x.1) (d : Nat) (hd : x.1 + d < x.2) : Rch code 0 (x.1 + d) := by
  have hl := g.ok.lt k x hx
  induction d with
  | zero => exact hr
  | succ d ih =>
    obtain ⟨y, hy⟩ := code_atN (code := code) (q := x.1 + d) (by omega)
    refine .step (ih (by omega)) ⟨y, hy, ?_⟩
    rw [g.inside hx (by omega) (by omega) hy]
    simp
    omega
/-- To which blocks one comes. -/
theorem Gr.rch {N : Nat → List Int} (hN : ∀ k, N k = (nxB code B k).map (fun q : Nat => (q : Int))) {b : Nat} {x : Nat × Nat} (hx : (bls B code.length)[b]? = some x) : RchB N b ↔ Rch code 0 x.1 := by
  constructor
  · intro h
    induction h generalizing x with
    | refl => rw [g.ok.first x hx]; exact .refl
    | @step q y hq hy ih =>
      rw [hN] at hy
      obtain ⟨y', hy', e⟩ := List.mem_map.1 hy
      have e : y' = y := by omega
      subst e
      have hql : q < (bls B code.length).length := by
        rcases Nat.lt_or_ge q (bls B code.length).length with h1 | h1
        · exact h1
        · rw [nxB_none h1] at hy'; cases hy'
      have hz := List.getElem?_eq_getElem hql
      obtain ⟨t, ht, he⟩ := (g.nx_iff hz y').1 hy'
      have hzl := g.ok.lt q _ hz
      obtain ⟨w, hw, hw1⟩ := g.head (g.edge_lt ht) (g.out hz ht)
      rw [← he, hx] at hw
      injection hw with hw
      rw [hw, hw1]
      have h1 := g.walk hz (ih hz) ((bls B code.length)[q].2 - 1 - (bls B code.length)[q].1) (by omega)
      rw [show (bls B code.length)[q].1 + ((bls B code.length)[q].2 - 1 - (bls B code.length)[q].1) = (bls B code.length)[q].2 - 1 by omega] at h1
      exact .step h1 ht
  · intro h
    have hl := g.ok.lt b x hx
    have key : ∀ q, Rch code 0 q → q < code.length ∧ RchB N (atB B q) := by
      intro q hq
      induction hq with
      | refl =>
        refine ⟨g.pos, ?_⟩
        have : atB B 0 = 0 := by unfold atB; rw [bls_new g.zero]; rfl
        rw [this]
        exact .refl
      | @step q y _ he ih =>
        refine ⟨g.edge_lt he, ?_⟩
        obtain ⟨z, hz, h1, h2⟩ := at_in g.zero (n := code.length) ih.1
        rcases Nat.lt_or_ge (q + 1) z.2 with h3 | h3
        · obtain ⟨v, hv, hve⟩ := he
          rw [g.inside hz h1 h3 hv, List.mem_singleton] at hve
          have e : y = q + 1 := by omega
          subst e
          rw [g.at_ hz (by omega) h3]
          exact ih.2
        · have e : q = z.2 - 1 := by omega
          refine .step ih.2 ?_
          rw [hN, List.mem_map]
          exact ⟨atB B y, (g.nx_iff hz _).2 ⟨y, by rw [← e]; exact he, rfl⟩, rfl⟩
    have h1 := (key _ h).2
    rw [g.at_ hx (Nat.le_refl _) hl.1] at h1
    exact h1
end
theorem gr_nxt (code : List IV) (B : Nat → Bool) (k : Nat) : rowsU (nxB code B) (bls B code.length).length (2 * k) = (nxB code B k).map (fun q : Nat => (q : Int)) := by
  rw [rowsU_even]
  split
  · rfl
  · rw [nxB_none (by omega)]
    rfl
theorem gr_prv (code : List IV) (B : Nat → Bool) (k : Nat) (y : Int) : y ∈ rowsU (nxB code B) (bls B code.length).length (2 * k + 1) ↔ ∃ q : Nat, y = (q : Int) ∧ q < (bls B code.length).length ∧ k ∈ nxB code B q := by
  rw [rowsU_odd, List.mem_flatMap]
  constructor
  · rintro ⟨q, hq, hy⟩
    rw [List.mem_replicate] at hy
    exact ⟨q, hy.2, List.mem_range.1 hq, List.count_pos_iff.1 (by omega)⟩
  · rintro ⟨q, rfl, hq, hk⟩
    exact ⟨q, List.mem_range.2 hq, List.mem_replicate.2 ⟨by have := List.count_pos_iff.2 hk; omega, rfl⟩⟩
end Go.Proofs.Ytaaadbaakhjkcaa
