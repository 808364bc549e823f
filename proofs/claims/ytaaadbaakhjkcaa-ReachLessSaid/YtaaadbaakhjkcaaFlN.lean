/- Rows of numbers side by side, further; how long the rows of blocks get; no conditions. -/
import Derived.Test.YtaaadbaakhjkcaaFlM
namespace Go.Proofs.Ytaaadbaakhjkcaa
open Go.RowKit Go.WideShapes Go.ChangeShapes
set_option linter.unusedVariables false
set_option linter.unusedSimpArgs false
set_option maxRecDepth 100000

theorem Fam.off_grow {w : World} {B N : Nat} {R : Nat → Value} {RL : Nat → List Int} (h : Fam w B N R RL) {i : Nat} (hi : i < N) {v' u : Value} (hat : v'.ownBlock = (R i).ownBlock ∨ v'.ownBlock = some w.heap.size) (hd : ∀ j, j < N → ∀ q, (R j).ownBlock = some q → u.ownBlock ≠ some q) (hlt : ∀ q, u.ownBlock = some q → q < w.heap.size) : ∀ j, j < N → ∀ q, (upd R i v' j).ownBlock = some q → u.ownBlock ≠ some q := by
  intro j hj q hq
  by_cases e : j = i
  · subst e
    rw [upd_at] at hq
    rcases hat with e2 | e2
    · exact hd j hj q (e2.symm.trans hq)
    · intro e3
      have e4 : w.heap.size = q := by injection e2.symm.trans hq
      have := hlt q e3
      omega
  · rw [upd_ne _ _ e] at hq
    exact hd j hj q hq
theorem ic_congr {m : Nat} {f g : Nat → Nat} (h : ∀ q, q < m → f q = g q) : ic m f = ic m g := by
  apply Array.ext_getElem?
  intro q
  by_cases hq : q < m
  · rw [ic_at _ hq, ic_at _ hq, h q hq]
  · rw [Array.getElem?_eq_none (by simp [ic]; omega), Array.getElem?_eq_none (by simp [ic]; omega)]
theorem putE_len (k y i : Nat) (f : Nat → List Int) : (putE k y f i).length ≤ (f i).length + 1 := by
  obtain ⟨j, rfl | rfl⟩ : ∃ j, i = 2 * j ∨ i = 2 * j + 1 := ⟨i / 2, by omega⟩
  · rw [putE_even]
    split
    · rename_i e
      subst e
      simp
    · omega
  · rw [putE_odd]
    split
    · simp
    · omega
theorem putL_len (k i : Nat) : ∀ (L : List Nat) (f : Nat → List Int), (putL k L f i).length ≤ (f i).length + L.length
  | [], f => by unfold putL; simp
  | y :: L, f => by
    unfold putL
    have h1 := putL_len k i L (putE k y f)
    have h2 := putE_len k y i f
    rw [List.length_cons]
    omega
theorem rowsU_len {nx : Nat → List Nat} {m : Nat} (hm : ∀ k, (nx k).length ≤ m) (i : Nat) : ∀ k, (rowsU nx k i).length ≤ m * k
  | 0 => by unfold rowsU; simp
  | k + 1 => by
    have h1 := putL_len k i (nx k) (rowsU nx k)
    have h2 := rowsU_len hm i k
    have h3 := hm k
    show (putL k (nx k) (rowsU nx k) i).length ≤ m * (k + 1)
    rw [Nat.mul_succ]
    omega
theorem putE_two {k y : Nat} (f : Nat → List Int) : upd (upd f (2 * k) (f (2 * k) ++ [(y : Int)])) (2 * y + 1) ((upd f (2 * k) (f (2 * k) ++ [(y : Int)])) (2 * y + 1) ++ [(k : Int)]) = putE k y f := by
  unfold putE
  congr 2
  rw [upd_ne _ _ (by omega)]
theorem putL_take {k t y : Nat} {L : List Nat} (f : Nat → List Int) (h : L[t]? = some y) : putL k (L.take (t + 1)) f = putE k y (putL k (L.take t) f) := by
  rw [List.take_add_one, h]
  exact putL_snoc k (L.take t) y f
theorem putL_all {k t : Nat} {L : List Nat} (nx : Nat → List Nat) (h : nx k = L) (ht : L.length ≤ t) : putL k (L.take t) (rowsU nx k) = rowsU nx (k + 1) := by
  rw [List.take_of_length_le ht, ← h]
  rfl
theorem ints_ic {w : World} {g n : Nat} {f : Nat → Nat} (h : Blk w g 3 (ic n f)) : IntsAt w (.slice (some ⟨g, 0, none⟩) n n) ((List.range n).map (fun q => (f q : Int))) := by
  refine ⟨some ⟨g, 0, none⟩, n, by simp, by simp, fun i b hi => ⟨g, 0, rfl, h.lt, ?_⟩⟩
  have hl : i < n := by
    rcases Nat.lt_or_ge i n with h1 | h1
    · exact h1
    · rw [List.getElem?_eq_none (by simp; omega)] at hi; cases hi
  rw [List.getElem?_map, List.getElem?_range hl] at hi
  injection hi with hi
  rw [Nat.zero_add, ← hi]
  exact (h.cell i).trans (ic_at _ hl)
/-- A graph in memory. -/
structure GrAt (w : World) (code : List IV) (B : Nat → Bool) (vb va vo : Value) (R : Nat → Value) (o : List Nat) : Prop where
  bl : RowAt 4 BV.enc w vb (blV (bls B code.length) R)
  at_ : IntsAt w va ((List.range code.length).map (fun q => (atB B q : Int)))
  or_ : IntsAt w vo (o.map (fun q : Nat => (q : Int)))
  rws : ∀ i, i < 2 * (bls B code.length).length → IntsAt w (R i) (rowsU (nxB code B) (bls B code.length).length i)
theorem GrAt.below {w w' : World} {code : List IV} {B : Nat → Bool} {vb va vo : Value} {R : Nat → Value} {o : List Nat} {b : Nat} (h : GrAt w code B vb va vo R o) (hb : Below b w w') (hB : w.heap.size ≤ b) : GrAt w' code B vb va vo R o :=
  ⟨h.bl.below hb hB, h.at_.below hb hB, h.or_.below hb hB, fun i hi => (h.rws i hi).below hb hB⟩
/-- The same, of rows of the call's own. -/
structure GrO (w : World) (Bd Be Bo N kb cb lo co n gA : Nat) (gv : Nat) (Ao : Option Addr) (bl : List BV) (R : Nat → Value) (RL : Nat → List Int) (o : List Value) (f : Nat → Nat) : Prop where
  bl : w.ownsRow Bd 37 4 (.slice (some ⟨gv, 0, none⟩) kb cb) kb (bl.flatMap BV.enc)
  fam : Fam w Be N R RL
  ord : w.ownsRow Bo 3 1 (.slice Ao lo co) lo o
  at_ : Blk w gA 3 (ic n f)
theorem GrO.far {w : World} {Bd Be Bo N kb cb lo co n gA : Nat} {gv : Nat} {Ao : Option Addr} {bl : List BV} {R : Nat → Value} {RL : Nat → List Int} {o : List Value} {f : Nat → Nat} (h : GrO w Bd Be Bo N kb cb lo co n gA gv Ao bl R RL o f) {g i : Nat} {cs : Array Value} (hg : Blk w g 34 cs) (u : Value) : GrO (w.setCell ⟨g, i, none⟩ u) Bd Be Bo N kb cb lo co n gA gv Ao bl R RL o f :=
  ⟨ownsRow_setCell_other (a := ⟨g, i, none⟩) h.bl (own_blk_ne h.bl hg (by decide)) u, h.fam.far hg (by decide) u, ownsRow_setCell_other (a := ⟨g, i, none⟩) h.ord (own_blk_ne h.ord hg (by decide)) u, h.at_.far (p := ⟨g, i, none⟩) (h.at_.ne_ hg (by decide)) u⟩
/-- With which blocks each goes on. -/
def nxN (code : List IV) (B : Nat → Bool) (k : Nat) : List Int := rowsU (nxB code B) (bls B code.length).length (2 * k)
/-- What Of answers of code that can be. -/
def GrP (code : List IV) (w : World) (e : Ending) (w' : World) : Prop :=
  ∃ (B : Nat → Bool) (vb va vo : Value) (R : Nat → Value) (i : Nat), B = begU code code.length ∧ e = .returned (.agg #[vb, va, vo]) ∧ (oiter (nxN code B) i ostart).path = [] ∧ GrAt w' code B vb va vo R (oiter (nxN code B) i ostart).left.reverse ∧ Below w.heap.size w w'
end Go.Proofs.Ytaaadbaakhjkcaa
