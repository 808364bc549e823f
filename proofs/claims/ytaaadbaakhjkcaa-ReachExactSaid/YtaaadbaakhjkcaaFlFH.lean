/- Rows of numbers side by side, each of which may grow; blocks as mathematics; no conditions. -/
import Derived.Test.YtaaadbaakhjkcaaFlE
namespace Go.Proofs.Ytaaadbaakhjkcaa
open Go.RowKit Go.WideShapes Go.ChangeShapes
set_option linter.unusedVariables false
set_option linter.unusedSimpArgs false
set_option maxRecDepth 100000

def upd {α : Type} (f : Nat → α) (i : Nat) (v : α) : Nat → α := fun q => if q = i then v else f q
theorem upd_at {α : Type} (f : Nat → α) (i : Nat) (v : α) : upd f i v i = v := if_pos rfl
theorem upd_ne {α : Type} (f : Nat → α) {i q : Nat} (v : α) (h : q ≠ i) : upd f i v q = f q := if_neg h
/-- Rows of one's own, no two of which lie in one block. -/
structure Fam (w : World) (B N : Nat) (R : Nat → Value) (RL : Nat → List Int) : Prop where
  own : ∀ i, i < N → w.ownsRow B 3 1 (R i) (RL i).length ((RL i).map iI)
  dis : ∀ i j, i < N → j < N → i ≠ j → ∀ q, (R i).ownBlock = some q → (R j).ownBlock ≠ some q
section
variable {w w' : World} {B N : Nat} {R : Nat → Value} {RL : Nat → List Int}
theorem Fam.below (h : Fam w B N R RL) (hb : Below w.heap.size w w') : Fam w' B N R RL := ⟨fun i hi => own_belowT (h.own i hi) hb, h.dis⟩
theorem Fam.start (w : World) (B N : Nat) : Fam w B N (fun _ => .slice none 0 0) (fun _ => []) := ⟨fun i _ => World.ownsRow_nil _ _ _ _, fun i j _ _ _ q hq => by cases hq⟩
/-- A cell is stored into a block of another type. -/
theorem Fam.far (h : Fam w B N R RL) {k i : Nat} {T : TypeId} {cs : Array Value} (hk : Blk w k T cs) (hT : 3 ≠ T) (u : Value) : Fam (w.setCell ⟨k, i, none⟩ u) B N R RL :=
  ⟨fun j hj => ownsRow_setCell_other (a := ⟨k, i, none⟩) (h.own j hj) (own_blk_ne (h.own j hj) hk hT) u, h.dis⟩
theorem Fam.grow (h : Fam w B N R RL) {i : Nat} (hi : i < N) {v' : Value} {y : Int} (hg : w.grownBy w' (R i).ownBlock) (hv : w'.ownsRow B 3 1 v' ((RL i).length + 1) ((RL i ++ [y]).map iI)) (hat : v'.ownBlock = (R i).ownBlock ∨ v'.ownBlock = some w.heap.size) : Fam w' B N (upd R i v') (upd RL i (RL i ++ [y])) := by
  refine ⟨fun j hj => ?_, fun j k hj hk hjk q hq => ?_⟩
  · by_cases e : j = i
    · subst e
      rw [upd_at, upd_at, List.length_append]
      exact hv
    · rw [upd_ne _ _ e, upd_ne _ _ e]
      exact own_grT (h.own j hj) hg (fun q hq e2 => h.dis j i hj hi e q hq e2.symm)
  · by_cases e : j = i
    · subst e
      rw [upd_at] at hq
      rw [upd_ne _ _ (Ne.symm hjk)]
      rcases hat with e2 | e2
      · exact h.dis j k hj hk hjk q (e2.symm.trans hq)
      · intro e3
        have e4 : w.heap.size = q := by injection e2.symm.trans hq
        have := ((h.own k hk).lt q e3).2
        omega
    · rw [upd_ne _ _ e] at hq
      by_cases e2 : k = i
      · subst e2
        rw [upd_at]
        rcases hat with e3 | e3
        · rw [e3]; exact h.dis j k hj hk hjk q hq
        · rw [e3]
          intro e4
          have e5 : w.heap.size = q := by injection e4
          have := ((h.own j hj).lt q hq).2
          omega
      · rw [upd_ne _ _ e2]
        exact h.dis j k hj hk hjk q hq
/-- A block that none of the rows lies in stays. -/
theorem Fam.stays (h : Fam w B N R RL) {i k : Nat} (hi : i < N) {T : TypeId} {cs : Array Value} (hk : Blk w k T cs) (hne : 3 ≠ T ∨ k < B) (hg : w.grownBy w' (R i).ownBlock) : Blk w' k T cs := by
  refine hk.grown hg (fun e => ?_)
  rcases hne with h2 | h2
  · exact own_blk_ne (h.own i hi) hk h2 e.symm
  · have := ((h.own i hi).lt k e.symm).1
    omega
end
/-- The blocks of the first k instructions: from where up to where. -/
def bls (B : Nat → Bool) : Nat → List (Nat × Nat)
  | 0 => []
  | k + 1 => if B k = true then bls B k ++ [(k, k + 1)] else (bls B k).dropLast ++ (match (bls B k).getLast? with | some x => [(x.1, k + 1)] | none => [])
/-- The block of an instruction. -/
def atB (B : Nat → Bool) (q : Nat) : Nat := (bls B (q + 1)).length - 1
section
variable {B : Nat → Bool} (h0 : B 0 = true)
include h0
theorem bls_pos : ∀ k, 0 < (bls B (k + 1)).length
  | 0 => by unfold bls; rw [if_pos h0]; simp
  | k + 1 => by
    have ih := bls_pos k
    unfold bls
    split
    · simp
    · cases hl : (bls B (k + 1)).getLast? with
      | none =>
        rw [List.getLast?_eq_none_iff] at hl
        rw [hl] at ih
        simp at ih
      | some x => simp
theorem bls_len (k : Nat) : (bls B (k + 2)).length = (bls B (k + 1)).length + (if B (k + 1) = true then 1 else 0) := by
  have ih := bls_pos h0 k
  show (bls B ((k + 1) + 1)).length = _
  rw [bls]
  split
  · simp
  · cases hl : (bls B (k + 1)).getLast? with
    | none =>
      rw [List.getLast?_eq_none_iff] at hl
      rw [hl] at ih
      simp at ih
    | some x =>
      simp
      omega
/-- What blocks are: one behind the other, up to k; each begins where it may, and in none does one begin but at its head. -/
structure BlsOk (B : Nat → Bool) (k : Nat) (l : List (Nat × Nat)) : Prop where
  first : ∀ x : Nat × Nat, l[0]? = some x → x.1 = 0
  next : ∀ (i : Nat) (x y : Nat × Nat), l[i]? = some x → l[i + 1]? = some y → x.2 = y.1
  lt : ∀ (i : Nat) (x : Nat × Nat), l[i]? = some x → x.1 < x.2 ∧ x.2 ≤ k
  last : ∀ x : Nat × Nat, l.getLast? = some x → x.2 = k
  heads : ∀ (i : Nat) (x : Nat × Nat), l[i]? = some x → B x.1 = true ∧ ∀ q, x.1 < q → q < x.2 → B q = false
end
end Go.Proofs.Ytaaadbaakhjkcaa

namespace Go.Proofs.Ytaaadbaakhjkcaa
open Go.RowKit Go.WideShapes Go.ChangeShapes
set_option linter.unusedVariables false
set_option linter.unusedSimpArgs false
set_option maxRecDepth 100000

theorem snoc_cases {α : Type} {p : List α} {x y : α} {i : Nat} (h : (p ++ [x])[i]? = some y) : (i < p.length ∧ p[i]? = some y) ∨ (i = p.length ∧ y = x) := by
  rcases Nat.lt_trichotomy i p.length with h2 | h2 | h2
  · rw [List.getElem?_append_left h2] at h
    exact .inl ⟨h2, h⟩
  · subst h2
    rw [List.getElem?_append_right (Nat.le_refl _)] at h
    simp at h
    exact .inr ⟨rfl, h.symm⟩
  · rw [List.getElem?_eq_none (by simp; omega)] at h
    cases h
theorem snoc_last {α : Type} (p : List α) (x : α) : (p ++ [x])[p.length]? = some x := by simp
theorem snoc_front {α : Type} {p : List α} {x : α} {i : Nat} (h : i < p.length) : (p ++ [x])[i]? = p[i]? := List.getElem?_append_left h
theorem bls_new {B : Nat → Bool} {k : Nat} (h : B k = true) : bls B (k + 1) = bls B k ++ [(k, k + 1)] := by rw [bls, if_pos h]
theorem bls_more {B : Nat → Bool} {k : Nat} (h : ¬ B k = true) {p : List (Nat × Nat)} {x : Nat × Nat} (hp : bls B k = p ++ [x]) : bls B (k + 1) = p ++ [(x.1, k + 1)] := by
  rw [bls, if_neg h, hp]
  simp
section
variable {B : Nat → Bool} (h0 : B 0 = true)
include h0
theorem bls_snoc (k : Nat) : ∃ p x, bls B (k + 1) = p ++ [x] := by
  have h := bls_pos h0 k
  rcases List.eq_nil_or_concat (bls B (k + 1)) with e | ⟨l, x, e⟩
  · rw [e] at h; simp at h
  · exact ⟨l, x, by simpa using e⟩
theorem bls_ok : ∀ k, BlsOk B (k + 1) (bls B (k + 1))
  | 0 => by
    rw [bls_new h0]
    show BlsOk B 1 [(0, 1)]
    refine ⟨fun x hx => ?_, fun i x y hx hy => ?_, fun i x hx => ?_, fun x hx => ?_, fun i x hx => ?_⟩
    · simp at hx; subst hx; rfl
    · simp at hy
    · rcases i with _ | i
      · simp at hx; subst hx; exact ⟨by decide, by decide⟩
      · simp at hx
    · simp at hx; subst hx; rfl
    · rcases i with _ | i
      · simp at hx; subst hx; exact ⟨h0, fun q h1 h2 => by change 0 < q at h1; change q < 1 at h2; omega⟩
      · simp at hx
  | k + 1 => by
    have ih := bls_ok k
    obtain ⟨p, x, hp⟩ := bls_snoc h0 k
    rw [hp] at ih
    have hxl : x.2 = k + 1 := ih.last x (by simp)
    have hx1 := ih.lt p.length x (snoc_last p x)
    have hxh := ih.heads p.length x (snoc_last p x)
    by_cases hb : B (k + 1) = true
    · rw [bls_new hb, hp]
      refine ⟨fun y hy => ?_, fun i y z hy hz => ?_, fun i y hy => ?_, fun y hy => ?_, fun i y hy => ?_⟩
      · rw [List.getElem?_append_left (by simp)] at hy
        exact ih.first y hy
      · rcases snoc_cases hz with ⟨h1, h2⟩ | ⟨h1, h2⟩
        · rw [List.getElem?_append_left (by omega)] at hy
          exact ih.next i y z hy h2
        · have h3 : i = p.length := by simp at h1; omega
          subst h3
          rw [List.getElem?_append_left (by simp), snoc_last] at hy
          cases hy
          rw [h2, hxl]
      · rcases snoc_cases hy with ⟨h1, h2⟩ | ⟨h1, h2⟩
        · have := ih.lt i y h2
          omega
        · subst h2
          exact ⟨by show k + 1 < k + 1 + 1; omega, Nat.le_refl _⟩
      · simp at hy
        subst hy
        rfl
      · rcases snoc_cases hy with ⟨h1, h2⟩ | ⟨h1, h2⟩
        · exact ih.heads i y h2
        · subst h2
          exact ⟨hb, fun q h3 h4 => by change k + 1 < q at h3; change q < k + 1 + 1 at h4; omega⟩
    · rw [bls_more hb hp]
      refine ⟨fun y hy => ?_, fun i y z hy hz => ?_, fun i y hy => ?_, fun y hy => ?_, fun i y hy => ?_⟩
      · rcases snoc_cases hy with ⟨h1, h2⟩ | ⟨h1, h2⟩
        · exact ih.first y ((snoc_front h1).trans h2)
        · subst h2
          exact ih.first x (by rw [h1]; exact snoc_last p x)
      · have hy1 : i < p.length := by
          rcases snoc_cases hz with ⟨h1, h2⟩ | ⟨h1, h2⟩ <;> omega
        rw [snoc_front hy1] at hy
        have hy2 := (snoc_front (x := x) hy1).trans hy
        rcases snoc_cases hz with ⟨h1, h2⟩ | ⟨h1, h2⟩
        · exact ih.next i y z hy2 ((snoc_front h1).trans h2)
        · subst h2
          exact ih.next i y x hy2 (by rw [h1]; exact snoc_last p x)
      · rcases snoc_cases hy with ⟨h1, h2⟩ | ⟨h1, h2⟩
        · have := ih.lt i y ((snoc_front h1).trans h2)
          omega
        · subst h2
          exact ⟨by show x.1 < k + 1 + 1; omega, Nat.le_refl _⟩
      · simp at hy
        subst hy
        rfl
      · rcases snoc_cases hy with ⟨h1, h2⟩ | ⟨h1, h2⟩
        · exact ih.heads i y ((snoc_front h1).trans h2)
        · subst h2
          refine ⟨hxh.1, fun q h3 h4 => ?_⟩
          change x.1 < q at h3
          change q < k + 1 + 1 at h4
          by_cases e : q = k + 1
          · subst e
            cases hq : B (k + 1) with
            | true => exact absurd hq hb
            | false => rfl
          · exact hxh.2 q h3 (by omega)
/-- Where a block begins stays, however many instructions follow. -/
theorem bls_from {i : Nat} {x : Nat × Nat} : ∀ (k d : Nat), (bls B (k + 1))[i]? = some x → ∃ y, (bls B (k + 1 + d))[i]? = some y ∧ y.1 = x.1 ∧ x.2 ≤ y.2
  | k, 0, h => ⟨x, h, rfl, Nat.le_refl _⟩
  | k, d + 1, h => by
    obtain ⟨y, hy, e1, e2⟩ := bls_from k d h
    obtain ⟨p, z, hp⟩ := bls_snoc h0 (k + d)
    rw [show k + 1 + d = k + d + 1 by omega] at hy
    rw [show k + 1 + (d + 1) = k + d + 1 + 1 by omega]
    have hok := bls_ok h0 (k + d)
    by_cases hb : B (k + d + 1) = true
    · rw [bls_new hb]
      refine ⟨y, ?_, e1, e2⟩
      rw [List.getElem?_append_left (by
        rcases Nat.lt_or_ge i (bls B (k + d + 1)).length with h2 | h2
        · exact h2
        · rw [List.getElem?_eq_none h2] at hy; cases hy)]
      exact hy
    · rw [bls_more hb hp]
      rw [hp] at hy hok
      rcases snoc_cases hy with ⟨h1, h2⟩ | ⟨h1, h2⟩
      · exact ⟨y, (snoc_front h1).trans h2, e1, e2⟩
      · subst h2
        subst h1
        have := hok.lt p.length y (snoc_last p y)
        exact ⟨(y.1, k + d + 1 + 1), snoc_last _ _, e1, by show x.2 ≤ k + d + 1 + 1; omega⟩
/-- The block of an instruction: it lies in it. -/
theorem at_in {n q : Nat} (hq : q < n) : ∃ x, (bls B n)[atB B q]? = some x ∧ x.1 ≤ q ∧ q < x.2 := by
  obtain ⟨p, x, hp⟩ := bls_snoc h0 q
  have hok := bls_ok h0 q
  have hl : atB B q = p.length := by unfold atB; rw [hp]; simp
  have h1 : (bls B (q + 1))[atB B q]? = some x := by rw [hl, hp]; exact snoc_last _ _
  have hlt := hok.lt _ x h1
  have hla : x.2 = q + 1 := hok.last x (by rw [hp]; simp)
  obtain ⟨y, hy, e1, e2⟩ := bls_from h0 q (n - (q + 1)) h1
  rw [show q + 1 + (n - (q + 1)) = n by omega] at hy
  exact ⟨y, hy, by omega, by omega⟩
theorem at_lt {n q : Nat} (hq : q < n) : atB B q < (bls B n).length := by
  obtain ⟨x, hx, _⟩ := at_in h0 hq
  rcases Nat.lt_or_ge (atB B q) (bls B n).length with h2 | h2
  · exact h2
  · rw [List.getElem?_eq_none h2] at hx; cases hx
end
end Go.Proofs.Ytaaadbaakhjkcaa

namespace Go.Proofs.Ytaaadbaakhjkcaa
open Go.RowKit Go.WideShapes Go.ChangeShapes
set_option linter.unusedVariables false
set_option linter.unusedSimpArgs false
set_option maxRecDepth 100000

def encB (b : Bool) : List Value := [.bool b]
theorem encB_length (b : Bool) : (encB b).length = 1 := rfl
def BoolsAt (w : World) (v : Value) (l : List Bool) : Prop := RowAt 1 encB w v l
theorem BoolsAt.at_ {w : World} {A : Option Addr} {n c i : Nat} {l : List Bool} (h : BoolsAt w (.slice A n c) l) (hi : i < l.length) : ∃ blk off x, A = some ⟨blk, off, none⟩ ∧ blk < w.heap.size ∧ l[i]? = some x ∧ w.cell? ⟨blk, off + i, none⟩ = some (.bool x) := by
  obtain ⟨b, o, x, e1, e2, e3, e4⟩ := RowAt.at_ h hi
  refine ⟨b, o, x, e1, e2, e3, ?_⟩
  have h2 := e4 0 (.bool x) rfl
  rw [Nat.mul_one, Nat.add_zero] at h2
  exact h2
def inB (l : List Bool) (i : Int) : Bool := decide (0 ≤ i) && (match l[i.toNat]? with | some b => b | none => false)
theorem inB_neg {l : List Bool} {i : Int} (h : ¬ 0 ≤ i) : inB l i = false := by unfold inB; rw [decide_eq_false h]; rfl
theorem inB_some {l : List Bool} {k : Nat} {b : Bool} (h : l[k]? = some b) : inB l (k : Int) = b := by
  unfold inB
  rw [decide_eq_true (by omega), Int.toNat_natCast, h]
  rfl
theorem inB_none {l : List Bool} {k : Nat} (h : l.length ≤ k) : inB l (k : Int) = false := by
  unfold inB
  rw [Int.toNat_natCast, List.getElem?_eq_none h]
  simp
theorem isin_any (v : Value) (l : List Bool) (i : Int) (w : World) (h : BoolsAt w v l) : Calls Try.prog 50 #[v, .int .i64 i] w (BoolP w (inB l i)) := by
  obtain ⟨A, c, rfl⟩ := RowAt.form h
  obtain ⟨m, hm⟩ : ∃ m, m = l.length := ⟨_, rfl⟩
  rw [← hm] at h ⊢
  by_cases h0 : (0 : Int) ≤ i
  · obtain ⟨k, rfl⟩ : ∃ k : Nat, i = (k : Int) := ⟨i.toNat, by omega⟩
    by_cases hk : k < m
    · obtain ⟨b, o, x, rfl, hbl, hx, y⟩ := h.at_ (i := k) (by omega)
      have HE := hide (inB_some hx)
      have j1 : (k : Int) < (m : Int) := by omega
      clear hx hbl hm h
      cases x with
      | true =>
        go_enter Try.func50, Try.ntmps50
        go_wp2_with fail
        go_ret
        exact ⟨ret_bS HE.out.symm, Below.refl _ _⟩
      | false =>
        go_enter Try.func50, Try.ntmps50
        go_wp2_with fail
        go_ret
        exact ⟨ret_bS HE.out.symm, Below.refl _ _⟩
    · have HE := hide (inB_none (l := l) (k := k) (by omega))
      have j1 : ¬ (k : Int) < (m : Int) := by omega
      clear hm h hk
      go_enter Try.func50, Try.ntmps50
      go_wp2_with fail
      go_ret
      exact ⟨ret_bS HE.out.symm, Below.refl _ _⟩
  · have HE := hide (inB_neg (l := l) h0)
    clear hm h
    go_enter Try.func50, Try.ntmps50
    go_wp2_with fail
    go_ret
    exact ⟨ret_bS HE.out.symm, Below.refl _ _⟩
end Go.Proofs.Ytaaadbaakhjkcaa
