/- Where blocks begin; what isn't great is small; no conditions. -/
import Derived.Test.YtaaadbaakhjkcaaFlS
namespace Go.Proofs.Ytaaadbaakhjkcaa
open Go.RowKit Go.WideShapes Go.ChangeShapes
set_option linter.unusedVariables false
set_option linter.unusedSimpArgs false
set_option maxRecDepth 100000

def stA (l : List (Nat × Nat)) (n b : Nat) : Nat := match l[b]? with | some x => x.1 | none => n
theorem sta_zero {B : Nat → Bool} {n : Nat} {l : List (Nat × Nat)} (h : BlsOk B n l) (hl : 0 < l.length) : stA l n 0 = 0 := by
  have hx := List.getElem?_eq_getElem hl
  unfold stA
  rw [hx]
  exact h.first _ hx
theorem sta_at {l : List (Nat × Nat)} {n b : Nat} {x : Nat × Nat} (hx : l[b]? = some x) : stA l n b = x.1 := by unfold stA; rw [hx]
theorem sta_next {B : Nat → Bool} {n : Nat} {l : List (Nat × Nat)} (h : BlsOk B n l) {b : Nat} {x : Nat × Nat} (hx : l[b]? = some x) : stA l n (b + 1) = x.2 := by
  unfold stA
  cases hy : l[b + 1]? with
  | some y => exact (h.next b x y hx hy).symm
  | none =>
    refine (h.last x ?_).symm
    rw [List.getLast?_eq_getElem?]
    have h1 : l.length ≤ b + 1 := List.getElem?_eq_none_iff.1 hy
    have h2 : b < l.length := by
      rcases Nat.lt_or_ge b l.length with h3 | h3
      · exact h3
      · rw [List.getElem?_eq_none h3] at hx; cases hx
    rw [show l.length - 1 = b by omega]
    exact hx
theorem sta_end {l : List (Nat × Nat)} {n b : Nat} (h : l.length ≤ b) : stA l n b = n := by unfold stA; rw [List.getElem?_eq_none h]
theorem small_of9 {hs : List Bool} {code : List IV} {ns : Nat} (h : greatC9 hs code ns = false) : code.length ≤ 60 ∧ ∀ x ∈ code, x.i.arms.length ≤ 100 ∧ x.i.args.length ≤ 100 := by
  unfold greatC9 at h
  rw [Bool.or_eq_false_iff, Bool.or_eq_false_iff, Bool.or_eq_false_iff] at h
  obtain ⟨h1, h2, h3, h4⟩ := h
  refine ⟨by have := of_decide_eq_false h1; omega, fun x hx => ?_⟩
  have h5 := List.any_eq_false.1 h4 x hx
  have h6 : greatX9 x.i = false := by simpa using h5
  unfold greatX9 at h6
  rw [Bool.or_eq_false_iff, Bool.or_eq_false_iff] at h6
  have h7 := of_decide_eq_false h6.1
  have h8 := of_decide_eq_false h6.2.1
  omega
/-- A graph that Of answered, with its parts' forms. -/
structure GrF (w : World) (p : Pr) (hs : List Bool) (code : List IV) (ns : Nat) (B : Nat → Bool) (Ab Aa Ao : Option Addr) (cb ca co kb n lo : Nat) (R : Nat → Value) (o : List Nat) : Prop where
  g : Gr p hs code ns B
  ord : OrdOk (nxN code B) o
  at_ : GrAt w code B (.slice Ab kb cb) (.slice Aa n ca) (.slice Ao lo co) R o
  kbl : kb = (bls B code.length).length
  nl : n = code.length
  lol : lo = o.length
theorem grf_of {w : World} {p : Pr} {hs : List Bool} {code : List IV} {ns : Nat} {B : Nat → Bool} {vb va vo : Value} {R : Nat → Value} {i : Nat} (hg : goodP p hs code ns = true) (hn : code.length ≤ 1000) (hB : B = begU code code.length) (hp : (oiter (nxN code B) i ostart).path = []) (ha : GrAt w code B vb va vo R (oiter (nxN code B) i ostart).left.reverse) :
    ∃ Ab cb Aa ca Ao co kb n lo o, vb = .slice Ab kb cb ∧ va = .slice Aa n ca ∧ vo = .slice Ao lo co ∧ GrF w p hs code ns B Ab Aa Ao cb ca co kb n lo R o := by
  obtain ⟨Ab, cb, hvb⟩ := ha.bl.form
  obtain ⟨Aa, ca, hva⟩ := ha.at_.form
  obtain ⟨Ao, co, hvo⟩ := ha.or_.form
  rw [blV_len] at hvb
  rw [List.length_map, List.length_range] at hva
  rw [List.length_map] at hvo
  refine ⟨Ab, cb, Aa, ca, Ao, co, _, _, _, _, hvb, hva, hvo, ⟨hg, hn, hB⟩, ord_ok (fun k y hy => ?_) hp, by rw [← hvb, ← hva, ← hvo]; exact ha, rfl, rfl, rfl⟩
  unfold nxN at hy
  rw [gr_nxt] at hy
  obtain ⟨z, _, rfl⟩ := List.mem_map.1 hy
  omega
section
variable {w : World} {p : Pr} {hs : List Bool} {code : List IV} {ns : Nat} {B : Nat → Bool} {Ab Aa Ao : Option Addr} {cb ca co kb n lo : Nat} {R : Nat → Value} {o : List Nat} (f : GrF w p hs code ns B Ab Aa Ao cb ca co kb n lo R o)
include f
theorem GrF.below {w' : World} {b : Nat} (hb : Below b w w') (hB : w.heap.size ≤ b) : GrF w' p hs code ns B Ab Aa Ao cb ca co kb n lo R o := ⟨f.g, f.ord, f.at_.below hb hB, f.kbl, f.nl, f.lol⟩
theorem GrF.some_ {b : Nat} (hb : b < kb) : ∃ x, (bls B code.length)[b]? = some x := ⟨_, List.getElem?_eq_getElem (by rw [← f.kbl]; exact hb)⟩
theorem GrF.kpos : 0 < kb := by rw [f.kbl]; exact f.g.klen
theorem GrF.kle : kb ≤ 1000 := by rw [f.kbl]; have := bls_le B code.length; have := f.g.len; omega
/-- The four cells of a block. -/
theorem GrF.cells {b : Nat} {x : Nat × Nat} (hx : (bls B code.length)[b]? = some x) : ∃ bb ob, Ab = some ⟨bb, ob, none⟩ ∧ bb < w.heap.size ∧ w.cell? ⟨bb, ob + b * 4, none⟩ = some (.int .i64 (x.1 : Int)) ∧ w.cell? ⟨bb, ob + b * 4 + 1, none⟩ = some (.int .i64 (x.2 : Int)) ∧ w.cell? ⟨bb, ob + b * 4 + 2, none⟩ = some (R (2 * b)) ∧ w.cell? ⟨bb, ob + b * 4 + 3, none⟩ = some (R (2 * b + 1)) := by
  have hb : b < (blV (bls B code.length) R).length := by
    rw [blV_len]
    rcases Nat.lt_or_ge b (bls B code.length).length with h1 | h1
    · exact h1
    · rw [List.getElem?_eq_none h1] at hx; cases hx
  obtain ⟨bb, ob, y, h1, h2, h3, h4⟩ := RowAt.at_ f.at_.bl (i := b) hb
  rw [blV_at _ hx] at h3
  injection h3 with h3
  subst h3
  exact ⟨bb, ob, h1, h2, h4 0 _ rfl, h4 1 _ rfl, h4 2 _ rfl, h4 3 _ rfl⟩
/-- The row of those with which a block goes on. -/
theorem GrF.nexts {b : Nat} (hb : b < kb) : ∃ A c, R (2 * b) = .slice A (nxB code B b).length c ∧ IntsAt w (R (2 * b)) ((nxB code B b).map (fun q : Nat => (q : Int))) := by
  have h := f.at_.rws (2 * b) (by rw [← f.kbl]; omega)
  rw [gr_nxt] at h
  obtain ⟨A, c, hv⟩ := h.form
  rw [List.length_map] at hv
  exact ⟨A, c, hv, h⟩
theorem GrF.prevs (hl : ∀ x ∈ code, x.i.arms.length ≤ 100 ∧ x.i.args.length ≤ 100) {b : Nat} (hb : b < kb) : ∃ (L : List Int) (A : Option Addr) (c : Nat), R (2 * b + 1) = .slice A L.length c ∧ IntsAt w (R (2 * b + 1)) L ∧ L.length ≤ 110000 ∧ ∀ y, y ∈ L ↔ ∃ q : Nat, y = (q : Int) ∧ q < kb ∧ b ∈ nxB code B q := by
  have h := f.at_.rws (2 * b + 1) (by rw [← f.kbl]; omega)
  obtain ⟨A, c, hv⟩ := h.form
  refine ⟨_, A, c, hv, h, ?_, fun y => by rw [gr_prv, ← f.kbl]⟩
  have h1 := rowsU_len (nxB_len hl B) (2 * b + 1) (bls B code.length).length
  have h2 := f.kle
  rw [f.kbl] at h2
  have h3 : 102 * (bls B code.length).length ≤ 102 * 1000 := Nat.mul_le_mul_left _ h2
  omega
theorem GrF.ord_lt {q : Nat} (h : q ∈ o) : q < kb := by
  have hr := (f.ord.mem q).1 h
  cases hr with
  | refl => exact f.kpos
  | step _ hy =>
    unfold nxN at hy
    rw [gr_nxt] at hy
    obtain ⟨z, hz, e⟩ := List.mem_map.1 hy
    have e2 : z = q := by omega
    subst e2
    rw [f.kbl]
    exact nxB_lt f.g.good f.g.zero _ z hz
/-- Whoever stands in the order, but the first one, has one ahead that goes on with it. -/
theorem GrF.ord_prev {i q : Nat} (hq : o[i]? = some q) (hi : i ≠ 0) : ∃ r, r ∈ o.take i ∧ r < kb ∧ q ∈ nxB code B r := by
  rcases f.ord.ahead i q hq with h | ⟨j, r, hj, hr, hm⟩
  · exact absurd h hi
  · unfold nxN at hm
    rw [gr_nxt] at hm
    obtain ⟨z, hz, e⟩ := List.mem_map.1 hm
    have e2 : z = q := by omega
    subst e2
    refine ⟨r, ?_, f.ord_lt (List.mem_of_getElem? hr), hz⟩
    exact List.mem_of_getElem? (i := j) (by rw [List.getElem?_take_of_lt hj]; exact hr)
theorem GrF.ord_new {i q : Nat} (hq : o[i]? = some q) : q ∉ o.take i := by
  intro hm
  obtain ⟨j, hj, hjq⟩ := List.mem_iff_getElem.1 hm
  rw [List.length_take] at hj
  rw [List.getElem_take] at hjq
  have h1 : o[j]? = some q := by rw [List.getElem?_eq_getElem (by omega), hjq]
  have := (List.getElem?_inj (h₀ := by omega) (h₁ := f.ord.nd)).1 (h1.trans hq.symm)
  omega
theorem GrF.ord_rch {b : Nat} {x : Nat × Nat} (hx : (bls B code.length)[b]? = some x) : b ∈ o ↔ Rch code 0 x.1 := by
  rw [f.ord.mem, f.g.rch (N := nxN code B) (fun k => by unfold nxN; exact gr_nxt code B k) hx]
theorem GrF.nx_lt {b y : Nat} (h : y ∈ nxB code B b) : y < kb := by rw [f.kbl]; exact nxB_lt f.g.good f.g.zero b y h
end
end Go.Proofs.Ytaaadbaakhjkcaa
