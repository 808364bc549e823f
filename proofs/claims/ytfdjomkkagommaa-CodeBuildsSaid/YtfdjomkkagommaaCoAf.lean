/- What CodeBuilds builds, as mathematics; no conditions. -/
import Derived.Test.YtfdjomkkagommaaCoAe
namespace Go.Proofs.Ytfdjomkkagommaa
open Go.RowKit Go.WideShapes Go.ChangeShapes
set_option linter.unusedVariables false
set_option linter.unusedSimpArgs false
set_option maxRecDepth 100000

/-- The instruction that is built in round q. -/
def bIns (o k n q : Nat) : Ins :=
  { op := if o = 0 then 19 else if o = 1 then 20 else if o = 2 then 37 else 40, d := 0, a := if o = 1 then 3 else 0, b := 0, n := (q : Int), m := 0, s := ⟨#[]⟩, vk := 0, vn := 0, vm := 0, vc := 0, vs := ⟨#[]⟩, args := [], t := 0,
    to_ := if o = 0 ∨ o = 1 then (k : Int) else 0, arms := if o = 2 then [⟨3, 0, 0, 0, 0, (k : Int)⟩, ⟨3, 0, 0, 0, 0, (n : Int)⟩] else [], st := 0, f := 0, l := 0, c := 0, obj := 0, use := 0 }
def rIns (n : Nat) : Ins := { op := 23, d := 0, a := 0, b := 0, n := (n : Int), m := 0, s := ⟨#[]⟩, vk := 0, vn := 0, vm := 0, vc := 0, vs := ⟨#[]⟩, args := [], t := 0, to_ := 0, arms := [], st := 0, f := 0, l := 0, c := 0, obj := 0, use := 0 }
theorem b_cases {o : Nat} (h : o < 4) : o = 0 ∨ o = 1 ∨ o = 2 ∨ o = 3 := by omega
theorem b_len (o k n q : Nat) : (bIns o k n q).arms.length ≤ 20 ∧ (bIns o k n q).args.length ≤ 20 := by
  unfold bIns
  refine ⟨?_, by show 0 ≤ 20; omega⟩
  show (if o = 2 then [(⟨3, 0, 0, 0, 0, (k : Int)⟩ : Arm), ⟨3, 0, 0, 0, 0, (n : Int)⟩] else []).length ≤ 20
  split <;> simp
theorem b_meant {o k n q : Nat} (ho : o < 4) (hk : k ≤ n) : ∀ y ∈ meantI (bIns o k n q), ∃ z : Nat, y = (z : Int) ∧ z ≤ n := by
  rcases b_cases ho with rfl | rfl | rfl | rfl
  · intro y hy
    have : y ∈ [(k : Int)] := hy
    exact ⟨k, List.mem_singleton.1 this, hk⟩
  · intro y hy
    have : y ∈ [(k : Int)] := hy
    exact ⟨k, List.mem_singleton.1 this, hk⟩
  · intro y hy
    have : y ∈ [(k : Int), (n : Int)] := hy
    simp at this
    rcases this with h | h
    · exact ⟨k, h, hk⟩
    · exact ⟨n, h, Nat.le_refl _⟩
  · intro y hy
    have : y ∈ ([] : List Int) := hy
    cases this
theorem b_dest {o k n q : Nat} (ho : o < 4) (hk : k ≤ n) (hq : q < n) (hn : n ≤ 60) : ∀ y ∈ dest (bIns o k n q) (q : Int), 0 ≤ y ∧ y < ((n + 1 : Nat) : Int) := by
  have hw : IntKind.i64.wrap ((q : Int) + 1) = (q : Int) + 1 := IntWalk.i64_in _ (by omega)
  rcases b_cases ho with rfl | rfl | rfl | rfl
  · intro y hy
    have : y ∈ [(k : Int)] := hy
    have := List.mem_singleton.1 this
    omega
  · intro y hy
    have : y ∈ [(k : Int), IntKind.i64.wrap ((q : Int) + 1)] := hy
    rw [hw] at this
    simp at this
    omega
  · intro y hy
    have : y ∈ [(k : Int), (n : Int)] := hy
    simp at this
    omega
  · intro y hy
    have : y ∈ [IntKind.i64.wrap ((q : Int) + 1)] := hy
    rw [hw] at this
    have := List.mem_singleton.1 this
    omega
theorem b_numbers {o k n q : Nat} (ho : o < 4) : numbersB (bIns o k n q) = true := by
  rcases b_cases ho with rfl | rfl | rfl | rfl
  · rfl
  · rfl
  · rfl
  · rfl
theorem b_regs {o k n q : Nat} (ho : o < 4) : registersB 4 (bIns o k n q) = true := by
  rcases b_cases ho with rfl | rfl | rfl | rfl
  · rfl
  · rfl
  · rfl
  · rfl
theorem b_var {o k n q : Nat} (ho : o < 4) : varB [] 0 (bIns o k n q) = true := by
  rcases b_cases ho with rfl | rfl | rfl | rfl
  · rfl
  · rfl
  · rfl
  · rfl
theorem b_op {o k n q : Nat} : 1 ≤ (bIns o k n q).op ∧ (bIns o k n q).op ≤ 41 := by
  show 1 ≤ (if o = 0 then (19 : Int) else if o = 1 then 20 else if o = 2 then 37 else 40) ∧ (if o = 0 then (19 : Int) else if o = 1 then 20 else if o = 2 then 37 else 40) ≤ 41
  split
  · omega
  · split
    · omega
    · split <;> omega
theorem bad_not {l : List Int} {m : Nat} (h : ∀ y ∈ l, 0 ≤ y ∧ y < (m : Int)) : l.any (badTo m) = false := by
  rw [List.any_eq_false]
  intro y hy
  have := h y hy
  unfold badTo
  rw [decide_eq_false (by omega), decide_eq_false (by omega)]
  simp
theorem good_built {p : Pr} (h1 : p.params = 0) (h2 : p.regs = 4) (h3 : p.caps = 0) {n : Nat} {os ks : Nat → Nat} (ho : ∀ q, os q < 4) (hk : ∀ q, ks q ≤ n) (hn : n ≤ 60) {L : List IV} (hL : L.map IV.i = (List.range n).map (fun q => bIns (os q) (ks q) n q) ++ [rIns n]) : goodP p [] L 1 = true := by
  have hlen : L.length = n + 1 := by
    have := congrArg List.length hL
    simpa using this
  have h0 : headB p [] = false := by
    unfold headB
    rw [h1, h2, h3]
    rfl
  have hin : allFrom (insB p [] L.length 1) 0 L = true := by
    rw [allFrom_iff]
    intro q x hx
    have hq := (List.getElem?_eq_some_iff.1 hx).1
    have hxi : (L.map IV.i)[q]? = some x.i := by rw [List.getElem?_map, hx]; rfl
    rw [hL] at hxi
    rw [Nat.zero_add, hlen]
    unfold insB
    rw [h2, h3]
    by_cases hqn : q < n
    · rw [List.getElem?_append_left (by simpa using hqn), List.getElem?_map, List.getElem?_range hqn] at hxi
      injection hxi with hxi
      rw [← hxi, bad_not (fun y hy => b_dest (ho q) (hk q) hqn hn y (mem_next hy)), b_numbers (ho q), b_regs (ho q), b_var (ho q), decide_eq_true b_op.1, decide_eq_true b_op.2]
      rfl
    · obtain rfl : q = n := by omega
      rw [List.getElem?_append_right (by simp)] at hxi
      simp at hxi
      rw [← hxi, bad_not (m := q + 1) (fun y hy => by
        have h := mem_next hy
        have : y ∈ ([] : List Int) := h
        cases this)]
      rfl
  have hla : lastB L = true := by
    have hx := List.getElem?_eq_getElem (l := L) (i := n) (by omega)
    have hxi : (L.map IV.i)[n]? = some L[n].i := by rw [List.getElem?_map, hx]; rfl
    rw [hL, List.getElem?_append_right (by simp)] at hxi
    simp at hxi
    unfold lastB
    rw [List.getLast?_eq_getElem?, hlen, show n + 1 - 1 = n by omega, hx]
    show endsB L[n].i.op = true
    rw [← hxi]
    rfl
  unfold goodP
  rw [h0, hin, hla]
  rfl
/-- The labels' places behind i rounds. -/
def labL (n i : Nat) : List Int := (List.range i).map (fun q : Nat => (q : Int)) ++ List.replicate (n + 1 - i) (-1)
theorem labL_len {n i : Nat} (h : i ≤ n + 1) : (labL n i).length = n + 1 := by unfold labL; simp; omega
theorem labL_zero (n : Nat) : labL n 0 = List.replicate (n + 1) (-1) := by unfold labL; simp
theorem labL_set {n i : Nat} (h : i ≤ n) : (labL n i).set i (i : Int) = labL n (i + 1) := by
  unfold labL
  rw [List.set_append_right _ _ (by simp), List.length_map, List.length_range, Nat.sub_self, show n + 1 - i = (n + 1 - (i + 1)) + 1 by omega, List.replicate_succ, List.set_cons_zero, List.range_succ, List.map_append, List.append_assoc]
  rfl
theorem labL_at {n q : Nat} (h : q ≤ n) : (labL n (n + 1))[q]? = some (q : Int) := by
  unfold labL
  rw [List.getElem?_append_left (by simp; omega), List.getElem?_map, List.getElem?_range (by omega)]
  rfl
/-- The builder behind i rounds. -/
structure BI (n i : Nat) (os ks : Nat → Nat) (b : Bd) : Prop where
  put : b.put = (i : Int)
  regs : b.regs = 4
  labs : b.labels = labL n i
  code : b.code.map IV.i = (List.range i).map (fun q => bIns (os q) (ks q) n q)
  stmts : b.stmts.length = 1
  bey : b.beyond = []
  stmt : b.stmt = 0
theorem BI.len {n i : Nat} {os ks : Nat → Nat} {b : Bd} (h : BI n i os ks b) : b.code.length = i := by
  have := congrArg List.length h.code
  simpa using this
theorem BI.el {n i : Nat} {os ks : Nat → Nat} {b : Bd} (h : BI n i os ks b) : ∀ x ∈ b.code, ∃ q, q < i ∧ x.i = bIns (os q) (ks q) n q := fun x hx => by
  obtain ⟨q, hq, he⟩ := List.mem_iff_getElem.1 hx
  have h2 : (b.code.map IV.i)[q]? = some x.i := by rw [List.getElem?_map, List.getElem?_eq_getElem hq, he]; rfl
  have hl := h.len
  rw [h.code, List.getElem?_map, List.getElem?_range (by omega)] at h2
  injection h2 with h2
  exact ⟨q, by omega, h2.symm⟩
/-- A round's mark. -/
theorem BI.mark {n i : Nat} {os ks : Nat → Nat} {b : Bd} (h : BI n i os ks b) (hi : i ≤ n) : (markB b (i : Int)).put = (i : Int) ∧ (markB b (i : Int)).regs = 4 ∧ (markB b (i : Int)).labels = labL n (i + 1) ∧ (markB b (i : Int)).code = b.code ∧ (markB b (i : Int)).stmts = b.stmts ∧ (markB b (i : Int)).beyond = [] ∧ (markB b (i : Int)).stmt = 0 ∧ (markB b (i : Int)).lv = b.lv ∧ (markB b (i : Int)).cv = b.cv ∧ (markB b (i : Int)).ends = b.ends := by
  unfold markB
  rw [if_pos ⟨by omega, by rw [h.labs, labL_len (by omega)]; omega⟩]
  refine ⟨h.put, h.regs, ?_, rfl, rfl, h.bey, h.stmt, rfl, rfl, rfl⟩
  show b.labels.set (i : Int).toNat b.put = _
  rw [h.put, h.labs]
  exact labL_set hi
theorem BI.round {n i : Nat} {os ks : Nat → Nat} {b : Bd} (h : BI n i os ks b) (hi : i ≤ n) (av rv cv : Value) : BI n (i + 1) os ks (putB (markB b (i : Int)) (bIns (os i) (ks i) n i) av rv cv) := by
  obtain ⟨e1, e2, e3, e4, e5, e6, e7, _⟩ := h.mark hi
  refine ⟨by show (markB b (i : Int)).put + 1 = _; rw [e1]; omega, e2, e3, ?_, by show (markB b (i : Int)).stmts.length = 1; rw [e5]; exact h.stmts, e6, e7⟩
  show ((markB b (i : Int)).code ++ [(⟨{ bIns (os i) (ks i) n i with st := (markB b (i : Int)).stmt }, av, rv⟩ : IV)]).map IV.i = _
  rw [e4, e7, List.map_append, h.code, List.range_succ, List.map_append]
  rfl
/-- The builder at the end. -/
structure BE (n : Nat) (os ks : Nat → Nat) (b : Bd) : Prop where
  put : b.put = ((n + 1 : Nat) : Int)
  regs : b.regs = 4
  labs : b.labels = labL n (n + 1)
  code : b.code.map IV.i = (List.range n).map (fun q => bIns (os q) (ks q) n q) ++ [rIns n]
  stmts : b.stmts.length = 1
  bey : b.beyond = []
  ends : b.ends = true
theorem BI.last {n : Nat} {os ks : Nat → Nat} {b : Bd} (h : BI n n os ks b) (av rv cv : Value) : BE n os ks (putB (markB b (n : Int)) (rIns n) av rv cv) := by
  obtain ⟨e1, e2, e3, e4, e5, e6, e7, _⟩ := h.mark (Nat.le_refl n)
  refine ⟨by show (markB b (n : Int)).put + 1 = _; rw [e1]; omega, e2, e3, ?_, by show (markB b (n : Int)).stmts.length = 1; rw [e5]; exact h.stmts, e6, rfl⟩
  show ((markB b (n : Int)).code ++ [(⟨{ rIns n with st := (markB b (n : Int)).stmt }, av, rv⟩ : IV)]).map IV.i = _
  rw [e4, e7, List.map_append, h.code]
  rfl
section
variable {n : Nat} {os ks : Nat → Nat} {b : Bd} (h : BE n os ks b)
include h
theorem BE.label {z : Nat} (hz : z ≤ n) : labelAt b (z : Int) = (z : Int) := labelAt_at (by rw [h.labs]; exact labL_at hz)
theorem BE.stands {z : Nat} (hz : z ≤ n) : standsB b (z : Int) = true := by
  unfold standsB
  rw [h.label hz, h.labs, labL_len (Nat.le_refl _), h.put, decide_eq_true (by omega), decide_eq_true (by omega), decide_eq_true (by omega)]
  rfl
theorem BE.len : b.code.length = n + 1 := by
  have := congrArg List.length h.code
  simpa using this
theorem BE.el : ∀ x ∈ b.code, (∃ q, q < n ∧ x.i = bIns (os q) (ks q) n q) ∨ x.i = rIns n := fun x hx => by
  have h2 : x.i ∈ b.code.map IV.i := List.mem_map.2 ⟨x, hx, rfl⟩
  rw [h.code] at h2
  rcases List.mem_append.1 h2 with h2 | h2
  · obtain ⟨q, hq, he⟩ := List.mem_map.1 h2
    exact .inl ⟨q, List.mem_range.1 hq, he.symm⟩
  · exact .inr (List.mem_singleton.1 h2)
theorem BE.lost (ho : ∀ q, os q < 4) (hk : ∀ q, ks q ≤ n) : lostB b = false := by
  unfold lostB
  rw [List.any_eq_false]
  intro x hx
  have : standB b (meantI x.i) = true := by
    unfold standB
    rw [List.all_eq_true]
    intro y hy
    rcases h.el x hx with ⟨q, _, he⟩ | he
    · rw [he] at hy
      obtain ⟨z, rfl, hz⟩ := b_meant (ho q) (hk q) y hy
      exact h.stands hz
    · rw [he] at hy
      have : y ∈ ([] : List Int) := hy
      cases this
  simp [this]
theorem BE.beyond : standB b b.beyond = true := by rw [h.bey]; rfl
theorem BE.long (hn : n ≤ 60) : longB b = false := by
  unfold longB
  rw [h.regs, h.put, decide_eq_false (by omega), decide_eq_false (by omega)]
  rfl
theorem BE.placed (ho : ∀ q, os q < 4) (hk : ∀ q, ks q ≤ n) : ∀ x ∈ b.code, placedI b x.i = x.i := fun x hx => by
  rcases h.el x hx with ⟨q, _, he⟩ | he
  · rw [he]
    have h1 := h.label (hk q)
    have h2 := h.label (Nat.le_refl n)
    have hoq := ho q
    obtain ⟨o, heo⟩ : ∃ o, o = os q := ⟨_, rfl⟩
    obtain ⟨k, hek⟩ : ∃ k, k = ks q := ⟨_, rfl⟩
    rw [← heo] at hoq ⊢
    rw [← hek] at h1 ⊢
    rcases b_cases hoq with rfl | rfl | rfl | rfl
    · show ({ bIns 0 k n q with to_ := labelAt b (k : Int) } : Ins) = _
      rw [h1]; rfl
    · show ({ bIns 1 k n q with to_ := labelAt b (k : Int) } : Ins) = _
      rw [h1]; rfl
    · show ({ bIns 2 k n q with arms := [⟨3, 0, 0, 0, 0, labelAt b (k : Int)⟩, ⟨3, 0, 0, 0, 0, labelAt b (n : Int)⟩] } : Ins) = _
      rw [h1, h2]; rfl
    · rfl
  · rw [he]
    rfl
theorem BE.fin (ho : ∀ q, os q < 4) (hk : ∀ q, ks q ≤ n) {L : List IV} (hL : L.map IV.i = b.code.map (fun x => placedI b x.i)) : L.map IV.i = (List.range n).map (fun q => bIns (os q) (ks q) n q) ++ [rIns n] := by
  rw [hL, ← h.code]
  exact List.map_congr_left (fun x hx => h.placed ho hk x hx)
end
end Go.Proofs.Ytfdjomkkagommaa
