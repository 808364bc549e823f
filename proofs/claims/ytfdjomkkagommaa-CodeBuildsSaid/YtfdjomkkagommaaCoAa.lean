/- What code that can be reads and writes; no conditions. -/
import Derived.Test.YtfdjomkkagommaaCoZ
namespace Go.Proofs.Ytfdjomkkagommaa
open Go.RowKit Go.WideShapes Go.ChangeShapes
set_option linter.unusedVariables false
set_option linter.unusedSimpArgs false
set_option maxRecDepth 100000

theorem good_parts {p : Pr} {hs : List Bool} {code : List IV} {ns : Nat} (h : goodP p hs code ns = true) : headB p hs = false ∧ (∀ x ∈ code, registersB p.regs x.i = true) ∧ lastB code = true := by
  unfold goodP at h
  rw [Bool.and_eq_true, Bool.and_eq_true] at h
  obtain ⟨h1, h2, h3⟩ := h
  refine ⟨by simpa using h1, fun x hx => ?_, h3⟩
  obtain ⟨q, hq, he⟩ := List.mem_iff_getElem.1 hx
  have h4 := allFrom_iff.1 h2 q x (by rw [List.getElem?_eq_getElem hq, he])
  unfold insB at h4
  simp only [Bool.and_eq_true] at h4
  exact h4.2.2.2.2.2.2.1
theorem head_regs {p : Pr} {hs : List Bool} (h : headB p hs = false) : 0 ≤ p.regs ∧ p.regs ≤ 65536 := by
  unfold headB at h
  have h2 := of_decide_eq_false h
  omega
/-- What an instruction reads and writes, one behind the other. -/
def useL (i : Ins) : List Int := regsL (readS i) ++ regsL (writtenS i)
theorem use_mem {i : Ins} {r : Int} : r ∈ useL i ↔ ∃ s ∈ readS i ++ writtenS i, ∃ q : Nat, q < s.n.toNat ∧ r = IntKind.i64.wrap (s.f + (q : Int)) := by
  unfold useL regsL partS
  rw [← List.flatMap_append, List.mem_flatMap]
  constructor
  · rintro ⟨s, hs, hr⟩
    obtain ⟨q, hq, rfl⟩ := List.mem_map.1 hr
    exact ⟨s, hs, q, by simpa using hq, rfl⟩
  · rintro ⟨s, hs, q, hq, rfl⟩
    exact ⟨s, hs, List.mem_map.2 ⟨q, by simpa using hq, rfl⟩⟩
theorem bad_iff {regs : Int} {s : Sp} (h0 : 0 ≤ regs ∧ regs ≤ 65536) (hs : spOk s) : badSp regs s = true ↔ 0 < s.n ∧ (s.f < 0 ∨ regs - s.n < s.f) := by
  unfold badSp
  unfold spOk at hs
  rw [IntWalk.i64_in _ (by omega), Bool.and_eq_true, Bool.or_eq_true, decide_eq_true_iff, decide_eq_true_iff, decide_eq_true_iff]
theorem use_ok (i : Ins) : ∀ s ∈ readS i ++ writtenS i, spOk s := fun s hs => by
  rcases List.mem_append.1 hs with h | h
  · exact readS_ok i s h
  · exact writtenS_ok i s h
theorem not_bad {i : Ins} {regs : Int} (h : registersB regs i = true) (h0 : 0 ≤ regs ∧ regs ≤ 65536) : ∀ s ∈ readS i ++ writtenS i, 0 < s.n → 0 ≤ s.f ∧ s.f + s.n ≤ regs := fun s hs hn => by
  unfold registersB at h
  have h2 : (readS i ++ writtenS i).any (badSp regs) = false := by simpa using h
  have h3 := List.any_eq_false.1 h2 s hs
  rw [bad_iff h0 (use_ok i s hs)] at h3
  omega
theorem use_in {i : Ins} {regs r : Int} (h : registersB regs i = true) (h0 : 0 ≤ regs ∧ regs ≤ 65536) (hm : r ∈ useL i) : 0 ≤ r ∧ r < regs := by
  obtain ⟨s, hs, q, hq, rfl⟩ := use_mem.1 hm
  have h4 := not_bad h h0 s hs (by omega)
  rw [IntWalk.i64_in _ (by omega)]
  omega
theorem use_cut {i : Ins} {regs r : Int} (h : registersB regs i = true) (h0 : 0 ≤ regs ∧ regs ≤ 65536) (hm : r ∈ useL i) : registersB r i = false := by
  have hin := use_in h h0 hm
  obtain ⟨s, hs, q, hq, hrq⟩ := use_mem.1 hm
  have h4 := not_bad h h0 s hs (by omega)
  rw [IntWalk.i64_in _ (by omega)] at hrq
  have h5 : badSp r s = true := (bad_iff (by omega) (use_ok i s hs)).2 (by omega)
  unfold registersB
  rw [List.any_eq_true.2 ⟨s, hs, h5⟩]
  rfl
theorem good_not_regs {p : Pr} {hs : List Bool} {code : List IV} {ns : Nat} {x : IV} (hx : x ∈ code) (h : registersB p.regs x.i = false) : goodP p hs code ns = false := by
  cases hg : goodP p hs code ns with
  | false => rfl
  | true => rw [(good_parts hg).2.1 x hx] at h; cases h
theorem good_neg {p : Pr} {hs : List Bool} {code : List IV} {ns : Nat} (h : p.regs < 0) : goodP p hs code ns = false := by
  cases hg : goodP p hs code ns with
  | false => rfl
  | true => have := head_regs (good_parts hg).1; omega
theorem good_last {p : Pr} {hs : List Bool} {code : List IV} {ns : Nat} (x : IV) (h : endsB x.i.op = false) : goodP p hs (code ++ [x]) ns = false := by
  cases hg : goodP p hs (code ++ [x]) ns with
  | false => rfl
  | true =>
    have h2 := (good_parts hg).2.2
    unfold lastB at h2
    rw [List.getLast?_append, List.getLast?_singleton] at h2
    simp [h] at h2
end Go.Proofs.Ytfdjomkkagommaa
