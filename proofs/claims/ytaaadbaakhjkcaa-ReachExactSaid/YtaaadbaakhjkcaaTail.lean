/- A region that draws its order, whose last operation waits for all the others and may undo what the loads ahead of it lean on: S is asked behind the others alone; no conditions. -/
import Derived.Deep.RegionHeld
namespace Go.Proofs.Ytaaadbaakhjkcaa
open Go
set_option linter.unusedVariables false

section
variable {P : Program} {ops : Array Oper} {Q : Exit → Act → World → Prop} {md : Region.Mode} {S : World → Prop} {z : Nat}

/-- Whatever comes up: behind all but number z the world meets S. -/
def wpTail (P : Program) (md : Region.Mode) (ops : Array Oper) (Q : Exit → Act → World → Prop) (S : World → Prop) (z : Nat) : Nat → Array Bool → Act → World → Prop
  | 0, done, a, w => Region.ready md ops done = [] ∧ Q .normal a w
  | n + 1, done, a, w => (Region.ready md ops done = [] → Q .normal a w) ∧
      ∀ i ∈ Region.ready md ops done, wpOp P ops Q i (fun b v => (i ≠ z → S v) ∧ wpTail P md ops Q S z n (done.setIfInBounds i true) b v) a w

theorem wpTail_any : ∀ (n : Nat) (done : Array Bool) (a : Act) (w : World), wpTail P md ops Q S z n done a w → wpAny P md ops Q n done a w
  | 0, _, _, _, h => h
  | n + 1, _, _, _, h => ⟨h.1, fun i hi => wpOp_mono (fun b v hb => wpTail_any n _ b v hb.2) (h.2 i hi)⟩

theorem not_both {done : Array Bool} {i : Nat} (h0 : done.getD i true = false) (h1 : done.getD i false = true) : False := by
  rcases Nat.lt_or_ge i done.size with h | h
  · simp [h] at h0 h1
    rw [h0] at h1
    cases h1
  · simp [Array.getElem?_eq_none h] at h1

theorem wpTail_front {i : Nat} {oi : Oper} {v : Value} (hi : ops[i]? = some oi) (hsel : ∀ (j : Nat) (o : Oper) cs b, ops[j]? = some o → o.op ≠ .select cs b)
    (hQ : ∀ c a w, Q (.panic c) (a.put oi.dst v) w → Q (.panic c) a w) (hz : ∀ oz, ops[z]? = some oz → ∃ e ∈ oz.after, Region.binds md e = true ∧ e.on = i) :
    ∀ (n : Nat) (done : Array Bool) (a : Act) (w : World), (∀ j oj, ops[j]? = some oj → j ≠ i → done.getD j true = false → (∀ e ∈ oj.after, Region.binds md e = true → e.on ≠ i) → oi.apart ops oj = true) →
      i ∈ Region.ready md ops done → YieldsIf P ops S oi v a → S w → wpTail P md ops Q S z n (done.setIfInBounds i true) (a.put oi.dst v) w → wpTail P md ops Q S z (n + 1) done a w
  | 0, done, a, w, _, hr, hy, hS, H => by
    refine ⟨fun e => (by rw [e] at hr; cases hr), fun j hj => ?_⟩
    by_cases e : j = i
    · subst e
      exact hy.wpOp hi hS ⟨fun _ => hS, H⟩
    · have h1 := ready_mono hj e
      rw [H.1] at h1
      cases h1
  | n + 1, done, a, w, hfree, hr, hy, hS, H => by
    refine ⟨fun e => (by rw [e] at hr; cases hr), fun j hj => ?_⟩
    by_cases e : j = i
    · subst e
      exact hy.wpOp hi hS ⟨fun _ => hS, H⟩
    have hid := (mem_ready.1 hr).1
    obtain ⟨hjd, oj, hoj, hwait⟩ := mem_ready.1 hj
    have hno : ∀ d ∈ oj.after, Region.binds md d = true → d.on ≠ i := fun d hd hb heq => not_both hid (by have h := hwait d hd hb; rwa [heq] at h)
    have hjz : j ≠ z := fun e2 => by
      subst e2
      obtain ⟨d, hd, hb, heq⟩ := hz oj hoj
      exact hno d hd hb heq
    have step := wpOp_putIf hoj (hfree j oj hoj e hjd hno) (fun cs b => hsel i oi cs b hi) (fun cs b => hsel j oj cs b hoj) hQ hy (H.2 j (ready_mono hj e))
    refine wpOp_mono (fun b u hb => ⟨hb.2.1, wpTail_front hi hsel hQ hz n _ b u (fun k ok hok hki hkd hkn => hfree k ok hok hki ?_ hkn) (ready_mono hr (Ne.symm e)) hb.1 (hb.2.1 hjz) ?_⟩) step
    · by_cases hjk : j = k
      · rw [← hjk]; exact hjd
      · rwa [getD_set_ne true hjk] at hkd
    · rw [Array.setIfInBounds_comm _ _ e]
      exact hb.2.2

theorem wpTail_take {i : Nat} {oi : Oper} {v : Value} {n : Nat} {done : Array Bool} {a : Act} {w : World} (hi : ops[i]? = some oi)
    (hs : Region.noSelect ops = true) (hf : Region.free md ops done i = true) (hr : (Region.ready md ops done).contains i = true)
    (hz : (match ops[z]? with | some oz => oz.after.any fun e => Region.binds md e && e.on == i | none => true) = true)
    (hQ : ∀ c a w, Q (.panic c) (a.put oi.dst v) w → Q (.panic c) a w) (hy : YieldsIf P ops S oi v a) (hS : S w)
    (h : wpTail P md ops Q S z n (done.setIfInBounds i true) (a.put oi.dst v) w) : wpTail P md ops Q S z (n + 1) done a w :=
  wpTail_front hi (Region.noSelect_spec hs) hQ (fun oz hoz => by
    rw [hoz] at hz
    obtain ⟨e, he, h2⟩ := Array.any_eq_true'.1 hz
    rw [Bool.and_eq_true, beq_iff_eq] at h2
    exact ⟨e, he, h2⟩) n done a w (Region.free_spec hi hf) (by simpa using hr) hy hS h

/-- What is done has all done that it waited for. -/
def Closed (md : Region.Mode) (ops : Array Oper) (done : Array Bool) : Prop :=
  ∀ (k : Nat) (o : Oper), ops[k]? = some o → done.getD k false = true → ∀ e ∈ o.after, Region.binds md e = true → done.getD e.on false = true
def waitsB (md : Region.Mode) (ops : Array Oper) (i : Nat) : Nat → Nat → Bool
  | 0, _ => false
  | n + 1, z => match ops[z]? with
    | none => false
    | some o => o.after.any fun e => Region.binds md e && (e.on == i || waitsB md ops i n e.on)
theorem waits_done {done : Array Bool} {i : Nat} (hc : Closed md ops done) : ∀ (n z : Nat) (o : Oper), ops[z]? = some o → (∀ e ∈ o.after, Region.binds md e = true → done.getD e.on false = true) → waitsB md ops i n z = true → done.getD i false = true
  | 0, z, o, ho, hw, h => by cases h
  | n + 1, z, o, ho, hw, h => by
    unfold waitsB at h
    rw [ho] at h
    obtain ⟨e, he, h2⟩ := Array.any_eq_true'.1 h
    rw [Bool.and_eq_true, Bool.or_eq_true, beq_iff_eq] at h2
    rcases h2.2 with h3 | h3
    · rw [← h3]; exact hw e he h2.1
    · cases hq : ops[e.on]? with
      | none =>
        cases n with
        | zero => cases h3
        | succ n => unfold waitsB at h3; rw [hq] at h3; cases h3
      | some o' => exact waits_done hc n e.on o' hq (hc e.on o' hq (hw e he h2.1)) h3
theorem getD_set_true {done : Array Bool} {j k : Nat} (h : done.getD k false = true) : (done.setIfInBounds j true).getD k false = true := by
  by_cases e : j = k
  · subst e
    rcases Nat.lt_or_ge j done.size with h1 | h1
    · simp [Array.getD, h1]
    · simp [Array.getElem?_eq_none h1] at h
  · simpa [Array.getElem?_setIfInBounds_ne e] using h
theorem Closed.next {done : Array Bool} {j : Nat} (hc : Closed md ops done) (hj : j ∈ Region.ready md ops done) : Closed md ops (done.setIfInBounds j true) := by
  intro k o ho hk e he hb
  obtain ⟨_, oj, hoj, hwait⟩ := mem_ready.1 hj
  by_cases ejk : j = k
  · subst ejk
    rw [hoj] at ho
    injection ho with ho
    subst ho
    exact getD_set_true (hwait e he hb)
  · have h2 : done.getD k false = true := by simpa [Array.getElem?_setIfInBounds_ne ejk] using hk
    exact getD_set_true (hc k o ho h2 e he hb)
def closedB (md : Region.Mode) (ops : Array Oper) (done : Array Bool) : Bool :=
  (List.range ops.size).all fun k => match ops[k]? with
    | none => true
    | some o => !(done.getD k false) || o.after.all fun e => !(Region.binds md e) || done.getD e.on false
theorem closed_of {done : Array Bool} (h : closedB md ops done = true) : Closed md ops done := by
  intro k o ho hk e he hb
  have hk2 := (Array.getElem?_eq_some_iff.1 ho).1
  have h1 := List.all_eq_true.1 h k (List.mem_range.2 hk2)
  rw [ho] at h1
  simp only [hk, Bool.not_true, Bool.false_or] at h1
  have h2 := Array.all_eq_true'.1 h1 e he
  simp only [hb, Bool.not_true, Bool.false_or] at h2
  exact h2
theorem wpTail_front2 {i : Nat} {oi : Oper} {v : Value} (hi : ops[i]? = some oi) (hsel : ∀ (j : Nat) (o : Oper) cs b, ops[j]? = some o → o.op ≠ .select cs b)
    (hQ : ∀ c a w, Q (.panic c) (a.put oi.dst v) w → Q (.panic c) a w) (nz : Nat) (hz : waitsB md ops i nz z = true) :
    ∀ (n : Nat) (done : Array Bool) (a : Act) (w : World), Closed md ops done → (∀ j oj, ops[j]? = some oj → j ≠ i → done.getD j true = false → (∀ e ∈ oj.after, Region.binds md e = true → e.on ≠ i) → oi.apart ops oj = true) →
      i ∈ Region.ready md ops done → YieldsIf P ops S oi v a → S w → wpTail P md ops Q S z n (done.setIfInBounds i true) (a.put oi.dst v) w → wpTail P md ops Q S z (n + 1) done a w
  | 0, done, a, w, _, _, hr, hy, hS, H => by
    refine ⟨fun e => (by rw [e] at hr; cases hr), fun j hj => ?_⟩
    by_cases e : j = i
    · subst e
      exact hy.wpOp hi hS ⟨fun _ => hS, H⟩
    · have h1 := ready_mono hj e
      rw [H.1] at h1
      cases h1
  | n + 1, done, a, w, hc, hfree, hr, hy, hS, H => by
    refine ⟨fun e => (by rw [e] at hr; cases hr), fun j hj => ?_⟩
    by_cases e : j = i
    · subst e
      exact hy.wpOp hi hS ⟨fun _ => hS, H⟩
    have hid := (mem_ready.1 hr).1
    obtain ⟨hjd, oj, hoj, hwait⟩ := mem_ready.1 hj
    have hno : ∀ d ∈ oj.after, Region.binds md d = true → d.on ≠ i := fun d hd hb heq => not_both hid (by have h := hwait d hd hb; rwa [heq] at h)
    have hjz : j ≠ z := fun e2 => by
      subst e2
      exact not_both hid (waits_done hc nz j oj hoj hwait hz)
    have step := wpOp_putIf hoj (hfree j oj hoj e hjd hno) (fun cs b => hsel i oi cs b hi) (fun cs b => hsel j oj cs b hoj) hQ hy (H.2 j (ready_mono hj e))
    refine wpOp_mono (fun b u hb => ⟨hb.2.1, wpTail_front2 hi hsel hQ nz hz n _ b u (hc.next hj) (fun k ok hok hki hkd hkn => hfree k ok hok hki ?_ hkn) (ready_mono hr (Ne.symm e)) hb.1 (hb.2.1 hjz) ?_⟩) step
    · by_cases hjk : j = k
      · rw [← hjk]; exact hjd
      · rwa [getD_set_ne true hjk] at hkd
    · rw [Array.setIfInBounds_comm _ _ e]
      exact hb.2.2

theorem wpTail_take2 {i : Nat} {oi : Oper} {v : Value} {n : Nat} {done : Array Bool} {a : Act} {w : World} (hi : ops[i]? = some oi)
    (hs : Region.noSelect ops = true) (hf : Region.free md ops done i = true) (hr : (Region.ready md ops done).contains i = true)
    (hz : waitsB md ops i 40 z = true) (hc : closedB md ops done = true)
    (hQ : ∀ c a w, Q (.panic c) (a.put oi.dst v) w → Q (.panic c) a w) (hy : YieldsIf P ops S oi v a) (hS : S w)
    (h : wpTail P md ops Q S z n (done.setIfInBounds i true) (a.put oi.dst v) w) : wpTail P md ops Q S z (n + 1) done a w :=
  wpTail_front2 hi (Region.noSelect_spec hs) hQ 40 hz n done a w (closed_of hc) (Region.free_spec hi hf) (by simpa using hr) hy hS h

/-- The one operation that may come up. -/
theorem wpTail_one {i : Nat} {o : Oper} {n : Nat} {done : Array Bool} {a : Act} {w : World} (hr : Region.ready md ops done = [i]) (ho : ops[i]? = some o) (hw : Region.wanted o (yielded ops a.tmps) = true)
    (h : ∀ K' : Act → World → Prop, Shut (∀ b v, (i ≠ z → S v) → wpTail P md ops Q S z n (done.setIfInBounds i true) b v → K' b v) → Oper.wp P o a w K' Q) : wpTail P md ops Q S z (n + 1) done a w :=
  ⟨fun e => (by rw [e] at hr; cases hr), fun j hj => by
    rw [hr, List.mem_singleton] at hj
    subst hj
    exact wpOp_step ho (fun K' hK => by rw [if_pos hw]; exact h K' (fun b v h1 h2 => hK b v ⟨h1, h2⟩))⟩

/-- Two that may come up; three. -/
theorem wpTail_two {i j : Nat} {o p : Oper} {n : Nat} {done : Array Bool} {a : Act} {w : World} (hr : Region.ready md ops done = [i, j]) (ho : ops[i]? = some o) (hp : ops[j]? = some p)
    (wo : Region.wanted o (yielded ops a.tmps) = true) (wp' : Region.wanted p (yielded ops a.tmps) = true)
    (so : ∀ K' : Act → World → Prop, Shut (∀ b v, (i ≠ z → S v) → wpTail P md ops Q S z n (done.setIfInBounds i true) b v → K' b v) → Oper.wp P o a w K' Q)
    (sp : ∀ K' : Act → World → Prop, Shut (∀ b v, (j ≠ z → S v) → wpTail P md ops Q S z n (done.setIfInBounds j true) b v → K' b v) → Oper.wp P p a w K' Q) : wpTail P md ops Q S z (n + 1) done a w :=
  ⟨fun e => (by rw [e] at hr; cases hr), fun l hl => by
    rw [hr] at hl
    simp only [List.mem_cons, List.not_mem_nil, or_false] at hl
    rcases hl with rfl | rfl
    · exact wpOp_step ho (fun K' hK => by rw [if_pos wo]; exact so K' (fun b v h1 h2 => hK b v ⟨h1, h2⟩))
    · exact wpOp_step hp (fun K' hK => by rw [if_pos wp']; exact sp K' (fun b v h1 h2 => hK b v ⟨h1, h2⟩))⟩
theorem wpTail_three {i j k : Nat} {o p q : Oper} {n : Nat} {done : Array Bool} {a : Act} {w : World} (hr : Region.ready md ops done = [i, j, k]) (ho : ops[i]? = some o) (hp : ops[j]? = some p) (hq : ops[k]? = some q)
    (wo : Region.wanted o (yielded ops a.tmps) = true) (wp' : Region.wanted p (yielded ops a.tmps) = true) (wq : Region.wanted q (yielded ops a.tmps) = true)
    (so : ∀ K' : Act → World → Prop, Shut (∀ b v, (i ≠ z → S v) → wpTail P md ops Q S z n (done.setIfInBounds i true) b v → K' b v) → Oper.wp P o a w K' Q)
    (sp : ∀ K' : Act → World → Prop, Shut (∀ b v, (j ≠ z → S v) → wpTail P md ops Q S z n (done.setIfInBounds j true) b v → K' b v) → Oper.wp P p a w K' Q)
    (sq : ∀ K' : Act → World → Prop, Shut (∀ b v, (k ≠ z → S v) → wpTail P md ops Q S z n (done.setIfInBounds k true) b v → K' b v) → Oper.wp P q a w K' Q) : wpTail P md ops Q S z (n + 1) done a w :=
  ⟨fun e => (by rw [e] at hr; cases hr), fun l hl => by
    rw [hr] at hl
    simp only [List.mem_cons, List.not_mem_nil, or_false] at hl
    rcases hl with rfl | rfl | rfl
    · exact wpOp_step ho (fun K' hK => by rw [if_pos wo]; exact so K' (fun b v h1 h2 => hK b v ⟨h1, h2⟩))
    · exact wpOp_step hp (fun K' hK => by rw [if_pos wp']; exact sp K' (fun b v h1 h2 => hK b v ⟨h1, h2⟩))
    · exact wpOp_step hq (fun K' hK => by rw [if_pos wq]; exact sq K' (fun b v h1 h2 => hK b v ⟨h1, h2⟩))⟩

theorem wpTail_done {done : Array Bool} {a : Act} {w : World} (hr : Region.ready md ops done = []) (h : Q .normal a w) : ∀ n, wpTail P md ops Q S z n done a w
  | 0 => ⟨hr, h⟩
  | _ + 1 => ⟨fun _ => h, fun i hi => (by rw [hr] at hi; cases hi)⟩

theorem wp_region_tail (z : Nat) (S : World → Prop) {id : Nat} {a : Act} {w : World} (hm : P.follows .mixedOrders = true) (hS : S w.drew)
    (h : S w.drew → wpTail P .any ops Q S z ops.size (Array.replicate ops.size false) a w.drew) : (Code.region id ops true).wp P Q a w :=
  wp_region_any hm (wpTail_any _ _ _ _ (h hS))
end
end Go.Proofs.Ytaaadbaakhjkcaa
