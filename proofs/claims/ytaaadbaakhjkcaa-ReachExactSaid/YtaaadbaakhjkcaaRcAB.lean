/- Index and Contains of numbers; conditions: the row is in memory. -/
import Derived.Test.YtaaadbaakhjkcaaFlL
namespace Go.Proofs.Ytaaadbaakhjkcaa
open Go.RowKit Go.WideShapes Go.ChangeShapes
set_option linter.unusedVariables false
set_option linter.unusedSimpArgs false
set_option maxRecDepth 100000

def IdxP (l : List Int) (a r : Int) : Prop := decide (0 ≤ r) = decide (a ∈ l)
set_option maxHeartbeats 4000000 in
theorem index_any (v : Value) (l : List Int) (a : Int) (w : World) (h : IntsAt w v l) (hn : l.length ≤ 1000000000) :
    Calls Try.prog 110 #[v, .int .i64 a] w fun e w' => ∃ r : Int, e = .returned (.int .i64 r) ∧ Hid (IdxP l a r) ∧ w' = w := by
  obtain ⟨A, c, rfl⟩ := h.form
  obtain ⟨m, hm⟩ : ∃ m, m = l.length := ⟨_, rfl⟩
  rw [← hm] at h ⊢
  have HA := hide h
  have HM := hide (And.intro hm hn)
  clear h hm hn
  go_enter Try.func110, Try.ntmps110
  go_upto_region 2 with (fail)
  go_loopw [8] (fun jj wr => ∃ j : Nat, j ≤ m ∧ jj = .int .i64 (j : Int) ∧ Hid (a ∉ l.take j) ∧ wr = w) (fun jj _ => m - (intOf jj).toNat)
  case atStart => exact ⟨0, Nat.zero_le _, rfl, hide (by simp), rfl⟩
  case round =>
    obtain ⟨j, hj, rfl, HN, rfl⟩ := hrel
    by_cases hlt : j < m
    · have j1 : (j : Int) < (m : Int) := by omega
      have j2 : (0 : Int) ≤ (j : Int) := by omega
      have q5 : IntKind.i64.wrap ((j : Int) + 1) = (j : Int) + 1 := IntWalk.i64_in _ (by have := HM.out; omega)
      obtain ⟨b, o, x, rfl, hbl, hx, y⟩ := HA.out.at_ (k := j) (by have := HM.out; omega)
      have HX := hide hx
      have HLT := hide hlt
      clear hbl hx hlt
      by_cases hax : a = x
      · have HR := hide (show IdxP l a (j : Int) by unfold IdxP; rw [decide_eq_true (show (0 : Int) ≤ (j : Int) by omega), decide_eq_true (show a ∈ l by rw [hax]; exact List.mem_of_getElem? HX.out)])
        subst hax
        go_wp2_with fail
        go_ret
        exact ⟨_, rfl, HR, rfl⟩
      · have hax2 : (a == x) = false := by simp [hax]
        have HAX := hide hax
        go_wp2_with fail
        go_roundw
        case rel =>
          refine ⟨j + 1, by have := HLT.out; omega, by simp, hide ?_, trivial⟩
          rw [List.take_add_one, HX.out]
          intro hm
          rcases List.mem_append.1 hm with h1 | h1
          · exact HN.out h1
          · exact HAX.out (by simpa using h1)
        case measure => simp [intOf]; have := HLT.out; omega
    · have j1 : ¬ (j : Int) < (m : Int) := by omega
      have HR := hide (show IdxP l a (-1) by
        unfold IdxP
        have h := HN.out
        rw [List.take_of_length_le (by have := HM.out; omega)] at h
        rw [decide_eq_false h]
        rfl)
      clear hlt hj
      go_wp2_with fail
      go_ret
      exact ⟨_, rfl, HR, rfl⟩
set_option maxHeartbeats 4000000 in
theorem contains_any (v : Value) (l : List Int) (a : Int) (w : World) (h : IntsAt w v l) (hn : l.length ≤ 1000000000) :
    Calls Try.prog 98 #[v, .int .i64 a] w fun e w' => e = .returned (.bool (decide (a ∈ l))) ∧ w' = w := by
  have HI := hide (index_any v l a w h hn)
  clear h hn
  go_enter Try.func98, Try.ntmps98
  go_wp2_with fail
  refine HI.out.mono ?_
  rintro e w' ⟨r, rfl, HR, rfl⟩
  go_wp2_with fail
  go_ret
  refine ⟨?_, rfl⟩
  have h : decide (0 ≤ r) = decide (a ∈ l) := HR.out
  exact ret_bS h
end Go.Proofs.Ytaaadbaakhjkcaa

namespace Go.Proofs.Ytaaadbaakhjkcaa
open Go.RowKit Go.WideShapes Go.ChangeShapes
set_option linter.unusedVariables false
set_option linter.unusedSimpArgs false
set_option maxRecDepth 100000

/-- Code goes on from one instruction to another one. -/
def EdgeR (nx : Nat → List Int) (q y : Nat) : Prop := (y : Int) ∈ nx q
inductive RchR (nx : Nat → List Int) (a : Nat) : Nat → Prop
  | refl : RchR nx a a
  | step {q y : Nat} : RchR nx a q → EdgeR nx q y → RchR nx a y
/-- What is seen of the ways from a, and of whom the next ones are still to be looked at. -/
structure CSR (nx : Nat → List Int) (n a : Nat) (f : Nat → Bool) (st : List Nat) : Prop where
  sound : ∀ q, q < n → f q = true → RchR nx a q
  start : f a = true
  stk : ∀ q ∈ st, q < n ∧ f q = true
  closed : ∀ q, q < n → f q = true → q ∈ st ∨ ∀ y, EdgeR nx q y → f y = true
  cnt : st.length + cntU n f ≤ n
/-- In the midst of looking at the next ones of pc. -/
structure CMR (nx : Nat → List Int) (n a M pc : Nat) (L : List Int) (t : Nat) (f : Nat → Bool) (st : List Nat) : Prop where
  sound : ∀ q, q < n → f q = true → RchR nx a q
  start : f a = true
  stk : ∀ q ∈ st, q < n ∧ f q = true
  closed : ∀ q, q < n → f q = true → q ∈ st ∨ q = pc ∨ ∀ y, EdgeR nx q y → f y = true
  cnt : st.length + cntU n f ≤ n
  less : st.length + 2 * cntU n f < M
  seen : ∀ y : Nat, (y : Int) ∈ L.take t → f y = true
section
variable {nx : Nat → List Int} {n a : Nat} {f : Nat → Bool} {st : List Nat}
theorem CSR.first {m : Nat} (h : a < m) : CSR nx m a (fun q => q == a) [a] :=
  ⟨fun q _ hq => by rw [show q = a by simpa using hq]; exact .refl, by simp, fun q hq => by rw [List.mem_singleton.1 hq]; exact ⟨h, by simp⟩, fun q _ hq => .inl (by simpa using hq), by have := cntU_start h; simp; omega⟩
theorem CSR.pop {pc : Nat} (h : CSR nx n a f (st ++ [pc])) (L : List Int) : CMR nx n a ((st ++ [pc]).length + 2 * cntU n f) pc L 0 f st :=
  ⟨h.sound, h.start, fun q hq => h.stk q (List.mem_append_left _ hq), fun q hq hf => by
    rcases h.closed q hq hf with h1 | h1
    · rcases List.mem_append.1 h1 with h1 | h1
      · exact .inl h1
      · exact .inr (.inl (List.mem_singleton.1 h1))
    · exact .inr (.inr h1), by have := h.cnt; rw [List.length_append] at this; omega, by rw [List.length_append]; simp, fun y hy => by simp at hy⟩
variable {M pc t : Nat} {L : List Int}
theorem CMR.skip (h : CMR nx n a M pc L t f st) {y : Nat} (hy : L[t]? = some (y : Int)) (hf : f y = true) : CMR nx n a M pc L (t + 1) f st :=
  ⟨h.sound, h.start, h.stk, h.closed, h.cnt, h.less, fun z hz => by
    rw [List.take_add_one, hy] at hz
    rcases List.mem_append.1 hz with hz | hz
    · exact h.seen z hz
    · have : (z : Int) = (y : Int) := by simpa using hz
      rw [show z = y by omega]
      exact hf⟩
theorem CMR.push (h : CMR nx n a M pc L t f st) {y : Nat} (hy : L[t]? = some (y : Int)) (hf : f y = false) (hyn : y < n) (hr : RchR nx a pc) (he : EdgeR nx pc y) : CMR nx n a M pc L (t + 1) (fun q => f q || q == y) (st ++ [y]) := by
  have hc := cntU_set hf n hyn
  have h1 := h.cnt
  have h2 := h.less
  refine ⟨fun q hq hfq => ?_, by simp [h.start], fun q hq => ?_, fun q hq hfq => ?_, by rw [List.length_append]; simp; omega, by rw [List.length_append]; simp; omega, fun z hz => ?_⟩
  · by_cases e : q = y
    · rw [e]; exact .step hr he
    · exact h.sound q hq (by simpa [e] using hfq)
  · rcases List.mem_append.1 hq with hq | hq
    · have := h.stk q hq
      exact ⟨this.1, by simp [this.2]⟩
    · rw [List.mem_singleton.1 hq]
      exact ⟨hyn, by simp⟩
  · by_cases e : q = y
    · exact .inl (by rw [e]; simp)
    · rcases h.closed q hq (by simpa [e] using hfq) with h3 | h3 | h3
      · exact .inl (List.mem_append_left _ h3)
      · exact .inr (.inl h3)
      · exact .inr (.inr fun z hz => by simp [h3 z hz])
  · rw [List.take_add_one, hy] at hz
    rcases List.mem_append.1 hz with hz | hz
    · simp [h.seen z hz]
    · have : (z : Int) = (y : Int) := by simpa using hz
      rw [show z = y by omega]
      simp
theorem CMR.done (h : CMR nx n a M pc L t f st) (ht : L.length ≤ t) (hL : ∀ y, EdgeR nx pc y → (y : Int) ∈ L) : CSR nx n a f st :=
  ⟨h.sound, h.start, h.stk, fun q hq hf => by
    rcases h.closed q hq hf with h1 | h1 | h1
    · exact .inl h1
    · refine .inr fun y hy => h.seen y ?_
      rw [List.take_of_length_le ht]
      rw [h1] at hy
      exact hL y hy
    · exact .inr h1, h.cnt⟩
theorem CSR.final (h : CSR nx n a f []) (ha : a < n) (hin : ∀ q y, EdgeR nx q y → y < n) {q : Nat} (hq : q < n) : f q = true ↔ RchR nx a q := by
  refine ⟨h.sound q hq, fun hr => ?_⟩
  clear hq
  have : q < n ∧ f q = true := by
    induction hr with
    | refl => exact ⟨ha, h.start⟩
    | step _ he ih =>
      rcases h.closed _ ih.1 ih.2 with h1 | h1
      · cases h1
      · exact ⟨hin _ _ he, h1 _ he⟩
  exact this.2
end
/-- The registers that an instruction writes. -/
def writesL (i : Ins) : List Int := regsL (writtenS i)
theorem writesL_len (i : Ins) (h : i.arms.length ≤ 100) : (writesL i).length ≤ 1000000000 := by
  have h1 := regsL_le (writtenS i) (writtenS_ok i)
  have h2 := writtenS_len i
  unfold writesL
  have h3 : (writtenS i).length * 65536 ≤ 10000 * 65536 := Nat.mul_le_mul_right _ (by omega)
  omega
/-- The last instruction from fr on and ahead of k that writes a register. -/
def lastW (code : List IV) (a : Int) (fr : Nat) : Nat → Option IV
  | 0 => none
  | k + 1 => if k < fr then none else match code[k]? with
    | none => none
    | some y => if a ∈ writesL y.i then some y else lastW code a fr k
theorem lastW_low {code : List IV} {a : Int} {fr k : Nat} (h : k ≤ fr) : lastW code a fr k = none := by
  cases k with
  | zero => rfl
  | succ k => unfold lastW; rw [if_pos (by omega)]
theorem lastW_at {code : List IV} {a : Int} {fr k : Nat} {y : IV} (h : fr ≤ k) (hy : code[k]? = some y) : lastW code a fr (k + 1) = if a ∈ writesL y.i then some y else lastW code a fr k := by
  rw [lastW, if_neg (by omega), hy]
/-- What is known of the truth on which an If looks: whether it holds, whether that is known. -/
def tstB (o : Option IV) : Bool × Bool := match o with
  | none => (false, false)
  | some y => (decide (y.i.vn ≠ 0), decide (y.i.op = 1) && decide (y.i.vk = 2))
/-- Where an instruction's block begins. -/
def fromB (code : List IV) (B : Nat → Bool) (pc : Nat) : Nat := match (bls B code.length)[atB B pc]? with | some x => x.1 | none => 0
def tstR (code : List IV) (B : Nat → Bool) (pc : Nat) (x : IV) : Bool × Bool := tstB (lastW code x.i.a (fromB code B pc) pc)
/-- Where code goes on behind an instruction, if some funcs never go back. -/
def nextX (code : List IV) (B : Nat → Bool) (nv : List Bool) (pc : Nat) (x : IV) : List Int :=
  if x.i.op = 22 ∧ inB nv x.i.n = true then []
  else if x.i.op = 20 ∧ (tstR code B pc x).2 = true then (if (tstR code B pc x).1 = true then [IntKind.i64.wrap ((pc : Int) + 1)] else [x.i.to_])
  else nextI x.i (pc : Int)
def nextR (code : List IV) (B : Nat → Bool) (nv : List Bool) (pc : Nat) : List Int := match code[pc]? with | some x => nextX code B nv pc x | none => []
theorem nextX_sub {code : List IV} {B : Nat → Bool} {nv : List Bool} {pc : Nat} {x : IV} {y : Int} (h : y ∈ nextX code B nv pc x) : y ∈ nextI x.i (pc : Int) := by
  unfold nextX at h
  split at h
  · cases h
  · split at h
    · rename_i h1 h2
      rw [nextI_mem]
      unfold dest
      rw [if_neg (by omega), if_pos h2.1]
      split at h
      · rw [List.mem_singleton] at h
        rw [h]
        simp
      · rw [List.mem_singleton] at h
        rw [h]
        simp
    · exact h
theorem nextX_len {code : List IV} {B : Nat → Bool} {nv : List Bool} {pc : Nat} {x : IV} : (nextX code B nv pc x).length ≤ 2 + x.i.arms.length := by
  have h1 := nextI_len x.i (pc : Int)
  unfold nextX
  split
  · simp
  · split
    · split <;> simp <;> omega
    · exact h1
theorem nextR_edge {code : List IV} {B : Nat → Bool} {nv : List Bool} {q y : Nat} (h : EdgeR (nextR code B nv) q y) : Edge code q y := by
  unfold EdgeR nextR at h
  cases hx : code[q]? with
  | none => rw [hx] at h; cases h
  | some x =>
    rw [hx] at h
    exact ⟨x, hx, nextX_sub h⟩
theorem rchR_code {code : List IV} {B : Nat → Bool} {nv : List Bool} {a q : Nat} (h : RchR (nextR code B nv) a q) : Rch code a q := by
  induction h with
  | refl => exact .refl
  | step _ he ih => exact .step ih (nextR_edge he)
/-- With more funcs that never go back code goes on to no more. -/
theorem nextX_less {code : List IV} {B : Nat → Bool} {nv nw : List Bool} (hm : ∀ i, inB nv i = true → inB nw i = true) {pc : Nat} {x : IV} {y : Int} (h : y ∈ nextX code B nw pc x) : y ∈ nextX code B nv pc x := by
  unfold nextX at h ⊢
  by_cases h1 : x.i.op = 22 ∧ inB nv x.i.n = true
  · rw [if_pos ⟨h1.1, hm _ h1.2⟩] at h
    cases h
  · rw [if_neg h1]
    by_cases h2 : x.i.op = 22 ∧ inB nw x.i.n = true
    · rw [if_pos h2] at h
      cases h
    · rw [if_neg h2] at h
      exact h
theorem rchR_less {code : List IV} {B : Nat → Bool} {nv nw : List Bool} (hm : ∀ i, inB nv i = true → inB nw i = true) {a q : Nat} (h : RchR (nextR code B nw) a q) : RchR (nextR code B nv) a q := by
  induction h with
  | refl => exact .refl
  | @step q y _ he ih =>
    refine .step ih ?_
    unfold EdgeR nextR at he ⊢
    cases hx : code[q]? with
    | none => rw [hx] at he; cases he
    | some x =>
      rw [hx] at he
      exact nextX_less hm he
end Go.Proofs.Ytaaadbaakhjkcaa
