/- Blocks and the ways through code, as mathematics; no conditions. -/
import Derived.Test.YtaaadbaakhjkcaaFlO
namespace Go.Proofs.Ytaaadbaakhjkcaa
open Go.RowKit Go.WideShapes Go.ChangeShapes
set_option linter.unusedVariables false
set_option linter.unusedSimpArgs false
set_option maxRecDepth 100000

theorem blk_mono {B : Nat → Bool} {n : Nat} {l : List (Nat × Nat)} (h : BlsOk B n l) : ∀ (d i : Nat) (x y : Nat × Nat), l[i]? = some x → l[i + 1 + d]? = some y → x.2 ≤ y.1
  | 0, i, x, y, hx, hy => Nat.le_of_eq (h.next i x y hx hy)
  | d + 1, i, x, y, hx, hy => by
    have hlt : i + 1 + d < l.length := by
      rcases Nat.lt_or_ge (i + 1 + d) l.length with h1 | h1
      · exact h1
      · rw [List.getElem?_eq_none (by omega)] at hy; cases hy
    have hz := List.getElem?_eq_getElem hlt
    have h1 := blk_mono h d i x _ hx hz
    have h2 := (h.lt _ _ hz).1
    have h3 := h.next _ _ y hz hy
    omega
theorem blk_same {B : Nat → Bool} {n : Nat} {l : List (Nat × Nat)} (h : BlsOk B n l) {i j q : Nat} {x y : Nat × Nat} (hx : l[i]? = some x) (hy : l[j]? = some y) (h1 : x.1 ≤ q) (h2 : q < x.2) (h3 : y.1 ≤ q) (h4 : q < y.2) : i = j := by
  rcases Nat.lt_trichotomy i j with e | e | e
  · have := blk_mono h (j - (i + 1)) i x y hx (by rw [show i + 1 + (j - (i + 1)) = j by omega]; exact hy)
    omega
  · exact e
  · have := blk_mono h (i - (j + 1)) j y x hy (by rw [show j + 1 + (i - (j + 1)) = i by omega]; exact hx)
    omega
theorem code_lt {code : List IV} {q : Nat} {x : IV} (hx : code[q]? = some x) : q < code.length := by
  rcases Nat.lt_or_ge q code.length with h1 | h1
  · exact h1
  · rw [List.getElem?_eq_none h1] at hx; cases hx
theorem code_atN {code : List IV} {q : Nat} (h : q < code.length) : ∃ y, code[q]? = some y := ⟨_, List.getElem?_eq_getElem h⟩
theorem nxB_none {code : List IV} {B : Nat → Bool} {k : Nat} (h : (bls B code.length).length ≤ k) : nxB code B k = [] := by
  unfold nxB
  rw [List.getElem?_eq_none h]
theorem one_next (x : Int) : Lib.compact (sortI [x]) = [x] := by
  rw [show sortI [x] = [x] from List.mergeSort_singleton _]
  simp [Lib.compact, Lib.compactUpTo, Lib.keeps]
/-- A func's blocks. -/
structure Gr (p : Pr) (hs : List Bool) (code : List IV) (ns : Nat) (B : Nat → Bool) : Prop where
  good : goodP p hs code ns = true
  len : code.length ≤ 1000
  bdef : B = begU code code.length
section
variable {p : Pr} {hs : List Bool} {code : List IV} {ns : Nat} {B : Nat → Bool} (g : Gr p hs code ns B)
include g
theorem Gr.pos : 0 < code.length := by
  have h := g.good
  rcases code with _ | ⟨x, l⟩
  · unfold goodP lastB at h
    simp at h
  · simp
theorem Gr.zero : B 0 = true := by rw [g.bdef]; unfold begU; simp
theorem Gr.ok : BlsOk B code.length (bls B code.length) := by
  obtain ⟨m, hm⟩ : ∃ m, code.length = m + 1 := ⟨code.length - 1, by have := g.pos; omega⟩
  rw [hm]
  exact bls_ok g.zero m
theorem Gr.klen : 0 < (bls B code.length).length := by
  obtain ⟨m, hm⟩ : ∃ m, code.length = m + 1 := ⟨code.length - 1, by have := g.pos; omega⟩
  rw [hm]
  exact bls_pos g.zero m
theorem Gr.at_ {i q : Nat} {x : Nat × Nat} (hx : (bls B code.length)[i]? = some x) (h1 : x.1 ≤ q) (h2 : q < x.2) : atB B q = i := by
  have hl := g.ok.lt i x hx
  obtain ⟨y, hy, h3, h4⟩ := at_in g.zero (n := code.length) (q := q) (by omega)
  exact (blk_same g.ok hx hy h1 h2 h3 h4).symm
theorem Gr.beg {q y : Nat} {x : IV} (hx : code[q]? = some x) (hb : begI x.i q y = true) : B y = true := by
  rw [g.bdef]
  unfold begU
  rw [Bool.or_eq_true, List.any_eq_true]
  refine .inr ⟨q, List.mem_range.2 ?_, by rw [hx]; exact hb⟩
  rcases Nat.lt_or_ge q code.length with h1 | h1
  · exact h1
  · rw [List.getElem?_eq_none h1] at hx; cases hx
/-- Within a block each instruction goes on with the next one. -/
theorem Gr.inside {k pc : Nat} {x : Nat × Nat} {y : IV} (hx : (bls B code.length)[k]? = some x) (h1 : x.1 ≤ pc) (h2 : pc + 1 < x.2) (hy : code[pc]? = some y) : nextI y.i (pc : Int) = [((pc + 1 : Nat) : Int)] := by
  have hb := (g.ok.heads k x hx).2 (pc + 1) (by omega) h2
  have hne : begI y.i pc (pc + 1) = false := by
    cases h3 : begI y.i pc (pc + 1) with
    | false => rfl
    | true => rw [g.beg hy h3] at hb; cases hb
  have hw : IntKind.i64.wrap ((pc : Int) + 1) = ((pc + 1 : Nat) : Int) := by
    rw [IntWalk.i64_in _ (by have := code_lt hy; have := g.len; omega)]
    omega
  unfold begI at hne
  unfold nextI dest
  by_cases e1 : y.i.op = 19 ∨ y.i.op = 20 ∨ y.i.op = 37
  · rw [if_pos e1] at hne
    simp at hne
  · rw [if_neg e1] at hne
    by_cases e2 : y.i.op = 23 ∨ y.i.op = 26
    · rw [if_pos e2] at hne
      simp at hne
    · rw [if_neg (fun e => e1 (.inl e)), if_neg (fun e => e1 (.inr (.inl e))), if_neg (fun e => e1 (.inr (.inr e))), if_neg e2, hw]
      exact one_next _
/-- Whither an instruction goes on: to the next one, or where a block begins. -/
theorem Gr.edge {q y : Nat} (h : Edge code q y) : y = q + 1 ∨ B y = true := by
  obtain ⟨x, hx, hy⟩ := h
  by_cases e1 : x.i.op = 19 ∨ x.i.op = 20 ∨ x.i.op = 37
  · refine .inr (g.beg hx ?_)
    unfold begI
    rw [if_pos e1]
    simp [hy]
  · have hm := nextI_mem.1 hy
    unfold dest at hm
    rw [if_neg (fun e => e1 (.inl e)), if_neg (fun e => e1 (.inr (.inl e))), if_neg (fun e => e1 (.inr (.inr e)))] at hm
    by_cases e2 : x.i.op = 23 ∨ x.i.op = 26
    · rw [if_pos e2] at hm
      cases hm
    · rw [if_neg e2, List.mem_singleton, IntWalk.i64_in _ (by have := code_lt hx; have := g.len; omega)] at hm
      exact .inl (by omega)
theorem Gr.edge_lt {q y : Nat} (h : Edge code q y) : y < code.length := by
  obtain ⟨x, hx, hy⟩ := h
  have := edge_in g.good hx _ hy
  omega
/-- Where a block begins, its head stands. -/
theorem Gr.head {q : Nat} (hq : q < code.length) (hb : B q = true) : ∃ x, (bls B code.length)[atB B q]? = some x ∧ x.1 = q := by
  obtain ⟨x, hx, h1, h2⟩ := at_in g.zero (n := code.length) hq
  refine ⟨x, hx, ?_⟩
  rcases Nat.lt_or_ge x.1 q with h3 | h3
  · rw [(g.ok.heads _ x hx).2 q h3 h2] at hb
    cases hb
  · omega
/-- From a block's last instruction code goes on where a block begins. -/
theorem Gr.out {k y : Nat} {x : Nat × Nat} (hx : (bls B code.length)[k]? = some x) (h : Edge code (x.2 - 1) y) : B y = true := by
  have hl := g.ok.lt k x hx
  rcases g.edge h with e | e
  · cases hb : B y with
    | true => rfl
    | false =>
      have hy := g.edge_lt h
      obtain ⟨z, hz, h1, h2⟩ := at_in g.zero (n := code.length) hy
      have hzh := (g.ok.heads _ z hz).1
      have h3 : z.1 ≠ y := fun e3 => by rw [e3, hb] at hzh; cases hzh
      have := blk_same g.ok (q := x.2 - 1) hx hz (by omega) (by omega) (by omega) (by omega)
      rw [← this] at hz
      rw [hx] at hz
      injection hz with hz
      subst hz
      omega
  · exact e
theorem Gr.nx_iff {k : Nat} {x : Nat × Nat} (hx : (bls B code.length)[k]? = some x) (y : Nat) : y ∈ nxB code B k ↔ ∃ q, Edge code (x.2 - 1) q ∧ y = atB B q := by
  have hl := g.ok.lt k x hx
  obtain ⟨z, hz⟩ := code_atN (code := code) (q := x.2 - 1) (by omega)
  rw [nxB_eq hx hz, List.mem_map]
  constructor
  · rintro ⟨q, hq, rfl⟩
    have := edge_in g.good hz q hq
    exact ⟨q.toNat, ⟨z, hz, by rw [Int.toNat_of_nonneg this.1]; exact hq⟩, rfl⟩
  · rintro ⟨q, ⟨z', hz', hq⟩, rfl⟩
    rw [hz] at hz'
    injection hz' with hz'
    subst hz'
    exact ⟨(q : Int), hq, by simp⟩
theorem Gr.walk {k : Nat} {x : Nat × Nat} (hx : (bls B code.length)[k]? = some x) (hr : Rch code 0 x.1) (d : Nat) (hd : x.1 + d < x.2) : Rch code 0 (x.1 + d) := by
  have hl := g.ok.lt k x hx
  induction d with
  | zero => exact hr
  | succ d ih =>
    obtain ⟨y, hy⟩ := code_atN (code := code) (q := x.1 + d) (by omega)
    refine .step (ih (by omega)) ⟨y, hy, ?_⟩
    rw [g.inside hx (by omega) (by omega) hy]
    simp
    omega
/-- To which blocks one comes. -/
theorem Gr.rch {N : Nat → List Int} (hN : ∀ k, N k = (nxB code B k).map (fun q : Nat => (q : Int))) {b : Nat} {x : Nat × Nat} (hx : (bls B code.length)[b]? = some x) : RchB N b ↔ Rch code 0 x.1 := by
  constructor
  · intro h
    induction h generalizing x with
    | refl => rw [g.ok.first x hx]; exact .refl
    | @step q y hq hy ih =>
      rw [hN] at hy
      obtain ⟨y', hy', e⟩ := List.mem_map.1 hy
      have e : y' = y := by omega
      subst e
      have hql : q < (bls B code.length).length := by
        rcases Nat.lt_or_ge q (bls B code.length).length with h1 | h1
        · exact h1
        · rw [nxB_none h1] at hy'; cases hy'
      have hz := List.getElem?_eq_getElem hql
      obtain ⟨t, ht, he⟩ := (g.nx_iff hz y').1 hy'
      have hzl := g.ok.lt q _ hz
      obtain ⟨w, hw, hw1⟩ := g.head (g.edge_lt ht) (g.out hz ht)
      rw [← he, hx] at hw
      injection hw with hw
      rw [hw, hw1]
      have h1 := g.walk hz (ih hz) ((bls B code.length)[q].2 - 1 - (bls B code.length)[q].1) (by omega)
      rw [show (bls B code.length)[q].1 + ((bls B code.length)[q].2 - 1 - (bls B code.length)[q].1) = (bls B code.length)[q].2 - 1 by omega] at h1
      exact .step h1 ht
  · intro h
    have hl := g.ok.lt b x hx
    have key : ∀ q, Rch code 0 q → q < code.length ∧ RchB N (atB B q) := by
      intro q hq
      induction hq with
      | refl =>
        refine ⟨g.pos, ?_⟩
        have : atB B 0 = 0 := by unfold atB; rw [bls_new g.zero]; rfl
        rw [this]
        exact .refl
      | @step q y _ he ih =>
        refine ⟨g.edge_lt he, ?_⟩
        obtain ⟨z, hz, h1, h2⟩ := at_in g.zero (n := code.length) ih.1
        rcases Nat.lt_or_ge (q + 1) z.2 with h3 | h3
        · obtain ⟨v, hv, hve⟩ := he
          rw [g.inside hz h1 h3 hv, List.mem_singleton] at hve
          have e : y = q + 1 := by omega
          subst e
          rw [g.at_ hz (by omega) h3]
          exact ih.2
        · have e : q = z.2 - 1 := by omega
          refine .step ih.2 ?_
          rw [hN, List.mem_map]
          exact ⟨atB B y, (g.nx_iff hz _).2 ⟨y, by rw [← e]; exact he, rfl⟩, rfl⟩
    have h1 := (key _ h).2
    rw [g.at_ hx (Nat.le_refl _) hl.1] at h1
    exact h1
end
theorem gr_nxt (code : List IV) (B : Nat → Bool) (k : Nat) : rowsU (nxB code B) (bls B code.length).length (2 * k) = (nxB code B k).map (fun q : Nat => (q : Int)) := by
  rw [rowsU_even]
  split
  · rfl
  · rw [nxB_none (by omega)]
    rfl
theorem gr_prv (code : List IV) (B : Nat → Bool) (k : Nat) (y : Int) : y ∈ rowsU (nxB code B) (bls B code.length).length (2 * k + 1) ↔ ∃ q : Nat, y = (q : Int) ∧ q < (bls B code.length).length ∧ k ∈ nxB code B q := by
  rw [rowsU_odd, List.mem_flatMap]
  constructor
  · rintro ⟨q, hq, hy⟩
    rw [List.mem_replicate] at hy
    exact ⟨q, hy.2, List.mem_range.1 hq, List.count_pos_iff.1 (by omega)⟩
  · rintro ⟨q, rfl, hq, hk⟩
    exact ⟨q, List.mem_range.2 hq, List.mem_replicate.2 ⟨by have := List.count_pos_iff.2 hk; omega, rfl⟩⟩
end Go.Proofs.Ytaaadbaakhjkcaa
