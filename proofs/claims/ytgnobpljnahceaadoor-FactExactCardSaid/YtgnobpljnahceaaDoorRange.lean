/- A range over a function whose iterator writes a variable of its own (one box): the law for the caller, at the wide fence; conditions: as its premises say. -/
import Derived.RangeFuncNested
import Derived.RangeFuncBound
import Derived.RangeFuncCalls
import Derived.RangeFuncLeaves
import Derived.Shelf.Abstract
import Derived.Shelf.RegionOpen
import Derived.WalkKit
import Derived.OwnWalkIn
import Derived.TacticsInMore
import Derived.LoopNIn
import Derived.LoopIn
import Derived.Test.YtgnobpljnahceaaDoorWords
namespace Go.Proofs.YtgnobpljnahceaaDoor
open Go Go.RowKit Go.Shelf
set_option linter.unusedVariables false

/-- What stands when the iterator has written its box. -/
def BoxFit {β : Type} (Bx : Nat) (J : β → World → Prop) : Prop := ∀ s A B, J s A → A.grownBy B (some Bx) → J s B
/-- What an iterator with a box does with whatever loop that leaves the box alone. -/
def BoxSeq {α : Type} (n : Nat) (P : Program) (gf : Nat) (lb : Array Value) (Bx : Nat) (encs : α → Array Value) (S Sp : List α → Prop) (N : Nat) (w : World) : Prop :=
  ∀ (l : Nat) (J Jx : List α → World → Prop) (W : World), Below w.heap.size w W → BoxFit Bx J → BoxFit Bx Jx →
    (∀ pre x V, J pre V → pre.length < N → YieldAt Fence.wide n P l (encs x) V fun e V' =>
      (e = .returned (.bool true) ∧ J (pre ++ [x]) V' ∧ V'.heap[Bx]? = V.heap[Bx]?) ∨ (e = .returned (.bool false) ∧ Jx (pre ++ [x]) V')) →
    J [] W →
    CallsIn Fence.wide (n + 1) P gf (#[.func (.yield l) #[] #[]] ++ lb) W fun e V => (∃ v, e = .returned v) ∧ ((∃ xs, S xs ∧ J xs V) ∨ ∃ pre, Sp pre ∧ Jx pre V)
/-- How a body may be left. -/
def boxPost {α : Type} (Bx : Nat) (I : List α → World → Prop) (Ix : Code → List α → World → Prop) (xs : List α) (W : World) : Exit → Act → World → Prop
  | .normal, _, V => KeepsOthers W V ∧ V.heap[Bx]? = W.heap[Bx]? ∧ I xs V
  | .ret, _, V => KeepsOthers W V ∧ Ix .ret xs V
  | .exit id, _, V => KeepsOthers W V ∧ Ix (.exit id) xs V
  | _, _, _ => False
/-- What speaks of cells alone, but of the box, and of what lay ahead of the loop. -/
def BoxOwn {β : Type} (Bx B : Nat) (I : β → World → Prop) : Prop :=
  ∀ s A C row, I s A → A.grownBy C row → (∀ r, row = some r → r = Bx ∨ (B ≤ r ∧ ∃ o : Obj, A.heap[r]? = some o ∧ o.isCells = false)) → I s C
theorem BoxOwn.putObj {β : Type} {Bx B : Nat} {I : β → World → Prop} (h : BoxOwn Bx B I) {s : β} {W : World} {l : Nat} {o : Obj} (o' : Obj) (hs : I s W) (hB : B ≤ l) (hl : W.heap[l]? = some o) (ho : o.isCells = false) : I s (W.putObj l o') :=
  h s W _ (some l) hs (grownBy_putObj' W l o') (fun r e => by cases e; exact .inr ⟨hB, o, hl, ho⟩)
theorem BoxOwn.alloc {β : Type} {Bx B : Nat} {I : β → World → Prop} (h : BoxOwn Bx B I) {s : β} {W : World} (o : Obj) (hs : I s W) : I s (W.alloc o) :=
  h s W _ none hs (World.grownBy_alloc W o none) (fun r e => by cases e)
theorem BoxOwn.box {β : Type} {Bx B : Nat} {I : β → World → Prop} (h : BoxOwn Bx B I) {s : β} {A C : World} (hs : I s A) (hg : A.grownBy C (some Bx)) : I s C :=
  h s A C _ hs hg (fun r e => by cases e; exact .inl rfl)

theorem range_box {α : Type} {n : Nat} {P : Program} {g : Operand} {ps : Array Tmp} {assign body : Code} {Q : Exit → Act → World → Prop} {a : Act} {w : World}
    {gf : Nat} {lb : Array Value} (hg : a.eval g = .func (.func gf) #[] lb) (eg : ∀ args w, (callFunc gf args).run P w = .ok (.enter gf args) w)
    {Bx : Nat} (hBx : Bx < w.heap.size) {encs : α → Array Value} {S Sp : List α → Prop} {N : Nat} (hseq : BoxSeq n P gf lb Bx encs S Sp N w) (hps : ∀ x, (encs x).size = ps.size)
    (I : List α → World → Prop) (Ix : Code → List α → World → Prop) (hI : BoxOwn Bx w.heap.size I) (hIx : ∀ c, BoxOwn Bx w.heap.size (Ix c)) (h0 : I [] w) (a₁ : α → Act)
    (hassign : ∀ (l : Nat) (x : α) (W : World) (K : Act → World → Prop), K (a₁ x) W →
      assign.wpIn (Fence.wide.inRound l) n P (Exit.then K (fun _ _ _ => False)) { tmps := (ps.zip (encs x)).foldl (fun t (p, v) => t.setIfInBounds p v) a.tmps, defers := [] } W)
    (hbody : ∀ (l : Nat) (pre : List α) (x : α) (W : World), I pre W → pre.length < N → body.wpIn (Fence.wide.inRound l) n P (boxPost Bx I Ix (pre ++ [x]) W) (a₁ x) W)
    (hdone : ∀ (D : Nat) (xs : List α) (W : World), w.heap.size ≤ D → S xs → I xs W → W.heap[D]? = some (.deferred (some [])) → Q .normal { a with defers := { target := .collected D, args := #[] } :: a.defers } W)
    (hstop : ∀ (D : Nat) (c : Code) (pre : List α) (W : World), w.heap.size ≤ D → Sp pre → Ix c pre W → W.heap[D]? = some (.deferred (some [])) → c.wpIn Fence.wide (n + 2) P Q { a with defers := { target := .collected D, args := #[] } :: a.defers } W) :
    (Code.rangeFunc g ps assign body).wpIn Fence.wide (n + 2) P Q a w := by
  refine wpIn_rangeFunc (fun fn hfn => ?_)
  -- the record of the loop, in each of its states; the two blocks that the loop lays
  obtain ⟨R, hR⟩ : ∃ R : LoopState → Option Code → Loop, R = fun st pe => ⟨st, pe, fn, a.tmps, ps, assign, body, w.heap.size⟩ := ⟨_, rfl⟩
  obtain ⟨D, hD⟩ : ∃ D, D = w.heap.size := ⟨_, rfl⟩
  obtain ⟨V, hV⟩ : ∃ V, V = (w.alloc (.deferred (some []))).alloc (.loop (R .ready none)) := ⟨_, rfl⟩
  have hVl : V.heap[D + 1]? = some (.loop (R .ready none)) := by
    have h := World.alloc_heap_new (w.alloc (.deferred (some []))) (.loop (R .ready none))
    rw [World.size_alloc, ← hV, ← hD] at h
    exact h
  have hVd : V.heap[D]? = some (.deferred (some [])) := by
    rw [hV, hD]
    exact (Below.heap_alloc _ _ _ (by simp)).trans (World.alloc_heap_new w _)
  have hVb : Below w.heap.size w V := by
    rw [hV]
    exact ((Below.refl _ w).alloc (Nat.le_refl _) _).alloc (by simp) _
  have hne : Bx ≠ D ∧ Bx ≠ D + 1 := by omega
  have keep : ∀ {A C : World} {k : Nat} {o : Obj}, A.grownBy C (some Bx) → Bx ≠ k → A.heap[k]? = some o → C.heap[k]? = some o := fun hgr hk ho =>
    (hgr.block _ (Array.getElem?_eq_some_iff.1 ho).1 (fun e => hk (by injection e with e; exact e.symm))).trans ho
  refine ⟨D + 1, [⟨.collected D, #[]⟩], V, ⟨.fn (.func gf) lb, #[.func (.yield (D + 1)) #[] #[]]⟩, V, gf, #[.func (.yield (D + 1)) #[] #[]] ++ lb, V, ?_, ?_, fun _ _ => trivial, ?_, fun _ => Nat.le_add_left 1 _, ?_⟩
  · rw [hV, hD, hR]
    exact run_enterLoop_outer _ _ _ _ _
  · simp only [resolve, hg]
    simp [go_sem]
  · simp [invoke, go_sem, eg]
  refine (hseq (D + 1) (fun pre W => I pre W ∧ W.heap[D + 1]? = some (.loop (R .ready none)) ∧ W.heap[D]? = some (.deferred (some [])))
    (fun pre W => ∃ c, Ix c pre W ∧ W.heap[D + 1]? = some (.loop (R .done (some c))) ∧ W.heap[D]? = some (.deferred (some []))) V hVb
    (fun s A C hs hgr => ⟨hI.box hs.1 hgr, keep hgr hne.2 hs.2.1, keep hgr hne.1 hs.2.2⟩)
    (fun s A C hs hgr => by obtain ⟨c, h1, h2, h3⟩ := hs; exact ⟨c, (hIx c).box h1 hgr, keep hgr hne.2 h2, keep hgr hne.1 h3⟩)
    ?_ ⟨by rw [hV]; exact hI.alloc _ (hI.alloc _ h0), hVl, hVd⟩).mono ?_
  · intro pre x W hW hlen
    obtain ⟨hi, hl, hd⟩ := hW
    have hsz : D + 1 < W.heap.size := (Array.getElem?_eq_some_iff.1 hl).1
    have hy := run_yield (P := P) (args := encs x) hl (by rw [hR]; exact hps x)
    rw [hR] at hy
    obtain ⟨W2, hW2⟩ : ∃ W2, W2 = W.putObj (D + 1) (.loop (R .busy none)) := ⟨_, rfl⟩
    have hl2 : W2.heap[D + 1]? = some (.loop (R .busy none)) := by rw [hW2]; exact World.putObj_heap_same hsz
    have hd2 : W2.heap[D]? = some (.deferred (some [])) := by rw [hW2]; exact (World.putObj_heap_other (by omega)).trans hd
    have hx2 : W2.heap[Bx]? = W.heap[Bx]? := by rw [hW2]; exact World.putObj_heap_other hne.2
    have hi2 : I pre W2 := by rw [hW2]; exact hI.putObj _ hi (by omega) hl rfl
    refine ⟨fn, _, assign, body, hy, roundIn_of_wpIn hfn (hassign _ x W _ ⟨W2, ?_, ?_⟩)⟩
    · have h := run_beginRound (P := P) hl (by rw [hR])
      rw [hR] at h
      rw [hW2, hR]
      exact h
    refine wpIn_mono (hbody _ pre x _ hi2 hlen) ?_
    -- the round's end: with a jump, or without one
    have over : ∀ (jump : Option Code) (W3 : World), KeepsOthers W2 W3 → ∃ W4, W4 = W3.putObj (D + 1) (.loop (R (if jump.isNone then .ready else .done) jump)) ∧
        (Instr.endRound (D + 1) jump).run P W3 = .ok (.bool jump.isNone) W4 ∧ W3.heap[D + 1]? = some (.loop (R .busy none)) ∧
        W4.heap[D + 1]? = some (.loop (R (if jump.isNone then .ready else .done) jump)) ∧ W4.heap[D]? = some (.deferred (some [])) ∧ W4.heap[Bx]? = W3.heap[Bx]? := fun jump W3 hk => by
      have h3 := hk.same _ _ hl2 rfl
      have h := run_endRound (P := P) jump h3
      refine ⟨_, rfl, ?_, h3, World.putObj_heap_same (Array.getElem?_eq_some_iff.1 h3).1, (World.putObj_heap_other (by omega)).trans (hk.same _ _ hd2 rfl), World.putObj_heap_other hne.2⟩
      rw [h, hR]
    intro e a3 W3 hp
    match e, hp with
    | .normal, hp =>
      obtain ⟨W4, h4, hr, h3, hl4, hd4, hx4⟩ := over none W3 hp.1
      exact ⟨_, _, hr, .inl ⟨rfl, ⟨by rw [h4]; exact hI.putObj _ hp.2.2 (by omega) h3 rfl, hl4, hd4⟩, hx4.trans (hp.2.1.trans hx2)⟩⟩
    | .ret, hp =>
      obtain ⟨W4, h4, hr, h3, hl4, hd4, hx4⟩ := over (some .ret) W3 hp.1
      exact ⟨_, _, hr, .inr ⟨rfl, .ret, by rw [h4]; exact (hIx _).putObj _ hp.2 (by omega) h3 rfl, hl4, hd4⟩⟩
    | .exit id, hp =>
      obtain ⟨W4, h4, hr, h3, hl4, hd4, hx4⟩ := over (some (.exit id)) W3 hp.1
      exact ⟨_, _, hr, .inr ⟨rfl, .exit id, by rw [h4]; exact (hIx _).putObj _ hp.2 (by omega) h3 rfl, hl4, hd4⟩⟩
    | .goto _, hp => exact hp.elim
    | .panic _, hp => exact hp.elim
    | .outgrown, hp => exact hp.elim
  · rintro e W ⟨⟨v, rfl⟩, hJ⟩
    have last : ∀ {st : LoopState} {pe : Option Code}, st ≠ .busy → W.heap[D + 1]? = some (.loop (R st pe)) → (Instr.endLoop (D + 1)).run P W = .ok pe (W.putObj (D + 1) (.loop (R .exhausted pe))) := fun hst hl => by
      have h := run_endLoop (P := P) hl (by rw [hR]; exact hst)
      rw [h, hR]
    rcases hJ with ⟨xs, hS, hi, hl, hd⟩ | ⟨pre, hSp, c, hi, hl, hd⟩
    · exact ⟨none, _, last (by simp) hl, hdone D xs _ (by omega) hS (hI.putObj _ hi (by omega) hl rfl) ((World.putObj_heap_other (by omega)).trans hd)⟩
    · exact ⟨some c, _, last (by simp) hl, hstop D c pre _ (by omega) hSp ((hIx c).putObj _ hi (by omega) hl rfl) ((World.putObj_heap_other (by omega)).trans hd)⟩
end Go.Proofs.YtgnobpljnahceaaDoor
