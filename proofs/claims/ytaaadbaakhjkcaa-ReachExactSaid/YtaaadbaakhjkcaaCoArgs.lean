/- Arguments that hold funcs, instructions and rows of them, opened; conditions: none but that they can be read as data. -/
import Derived.Test.YtaaadbaakhjkcaaCoM
import Derived.Deep.Slices
import Derived.Deep.Fields
import Derived.Lib.SmallJoins
import Derived.ChangeSame
import Derived.ChangeSlices
import Derived.ChangeMaps5
import Derived.Carry
namespace Go.Proofs.Ytaaadbaakhjkcaa
open Go.ChangeShapes Go.WideShapes Go.Deep Go.RowKit Go.Joins
set_option linter.unusedVariables false
set_option linter.unusedSimpArgs false
set_option maxRecDepth 100000

theorem ex_rowC {α : Type} {n : Nat} {p : Nat → α → Prop} (h : ∀ i, i < n → ∃ x, p i x) : ∃ l : List α, l.length = n ∧ ∀ i, i < n → ∃ x, l[i]? = some x ∧ p i x := by
  induction n with
  | zero => exact ⟨[], rfl, fun i hi => by omega⟩
  | succ n ih =>
    obtain ⟨l, hl, hp⟩ := ih fun i hi => h i (by omega)
    obtain ⟨x, hx⟩ := h n (by omega)
    refine ⟨l ++ [x], by simp [hl], fun i hi => ?_⟩
    rcases Nat.lt_or_ge i n with h1 | h1
    · obtain ⟨y, hy, hp⟩ := hp i h1
      exact ⟨y, by rw [List.getElem?_append_left (by omega)]; exact hy, hp⟩
    · obtain rfl : i = n := by omega
      refine ⟨x, ?_, hx⟩
      rw [← hl, List.getElem?_concat_length]
theorem list7C {α : Type} {l : List α} (h : l.length = 7) : ∃ a0 a1 a2 a3 a4 a5 a6, l = [a0, a1, a2, a3, a4, a5, a6] := by
  match l, h with
  | [a0, a1, a2, a3, a4, a5, a6], _ => exact ⟨_, _, _, _, _, _, _, rfl⟩
theorem list6C {α : Type} {l : List α} (h : l.length = 6) : ∃ a0 a1 a2 a3 a4 a5, l = [a0, a1, a2, a3, a4, a5] := by
  match l, h with
  | [a0, a1, a2, a3, a4, a5], _ => exact ⟨_, _, _, _, _, _, rfl⟩
theorem list22C {α : Type} {l : List α} (h : l.length = 22) : ∃ a0 a1 a2 a3 a4 a5 a6 a7 a8 a9 a10 a11 a12 a13 a14 a15 a16 a17 a18 a19 a20 a21, l = [a0, a1, a2, a3, a4, a5, a6, a7, a8, a9, a10, a11, a12, a13, a14, a15, a16, a17, a18, a19, a20, a21] := by
  match l, h with
  | [a0, a1, a2, a3, a4, a5, a6, a7, a8, a9, a10, a11, a12, a13, a14, a15, a16, a17, a18, a19, a20, a21], _ => exact ⟨_, _, _, _, _, _, _, _, _, _, _, _, _, _, _, _, _, _, _, _, _, _, rfl⟩
theorem list11C {α : Type} {l : List α} (h : l.length = 11) : ∃ a0 a1 a2 a3 a4 a5 a6 a7 a8 a9 a10, l = [a0, a1, a2, a3, a4, a5, a6, a7, a8, a9, a10] := by
  match l, h with
  | [a0, a1, a2, a3, a4, a5, a6, a7, a8, a9, a10], _ => exact ⟨_, _, _, _, _, _, _, _, _, _, _, rfl⟩
section
variable {H : Type} {enc : TypeId × Value → H} {P : Program} {W : World} {spare : Nat → Bool} {held : Bool}
theorem trod_fieldC {t : TypeId} {fs : Array Field} {fuel : Nat} {cs : List Value} {x : DataW H × List MemPlace} (ht : P.underlying t = some (.struct fs)) (h : DataW.trod enc P W 0 spare held fuel t cs = some x) (i : Nat) (f : Field) (hi : fs[i]? = some f) :
    ∃ (n : Nat) (y : DataW H × List MemPlace), DataW.trod enc P W 0 spare held n f.type ((cs.drop f.offset).take (P.cellsOf f.type)) = some y := by
  obtain ⟨xs, n, _, _, _, hl, hf⟩ := DataW.trod_struct ht h
  have hlt : i < xs.length := by rw [hl]; exact (Array.getElem?_eq_some_iff.1 hi).1
  exact ⟨n, xs[i], by rw [hf i f hi, List.getElem?_eq_getElem hlt]⟩
theorem addr_spotC {a : Addr} {v : Value} (h : W.cell? (a.add 0) = some v) : ∃ b off, a = ⟨b, off, none⟩ ∧ b < W.heap.size := by
  obtain ⟨b, off, spot⟩ := a
  have hspot : spot = none := by simpa [Addr.add] using World.cell?_spot h
  subst hspot
  exact ⟨b, off, rfl, World.block_lt_of_cell? W _ h⟩
theorem open_formC {t e : TypeId} {fuel : Nat} {v : Value} {x : DataW H × List MemPlace} (ht : P.underlying t = some (.slice e)) (h : DataW.trod enc P W 0 spare held fuel t [v] = some x) : ∃ A n c, v = .slice A n c := by
  rcases open_slice ht h with ⟨h0, _⟩ | ⟨a, len, cap, m, n', D, Pl, hcs, _⟩
  · simp only [List.cons.injEq, and_true] at h0
    exact ⟨_, _, _, h0⟩
  · simp only [List.cons.injEq, and_true] at hcs
    exact ⟨_, _, _, hcs⟩
theorem open_rowsC {α : Type} (cells : α → List Value) {s : Nat} (hs : ∀ x, (cells x).length = s) (hpos : 0 < s) (Q : α → Prop) {t e : TypeId} {fuel : Nat} {v : Value} {x : DataW H × List MemPlace}
    (ht : P.underlying t = some (.slice e)) (hC : P.cellsOf e = s) (h : DataW.trod enc P W 0 spare held fuel t [v] = some x)
    (hel : ∀ (cs : List Value) (m : Nat) (y : DataW H × List MemPlace), cs.length = s → DataW.trod enc P W 0 spare held m e cs = some y → ∃ x, cs = cells x ∧ Q x) :
    ∃ xs : List α, RowAt s cells W v xs ∧ ∀ x ∈ xs, Q x := by
  rcases open_slice ht h with ⟨h0, _⟩ | ⟨a, len, cap, m, n', D, Pl, hcs, _, hl, hm, hmm, _, hf⟩
  · simp only [List.cons.injEq, and_true] at h0
    rw [h0]
    exact ⟨[], ⟨none, 0, rfl, Nat.le_refl _, fun i x hx => by simp at hx⟩, fun x hx => by cases hx⟩
  · simp only [List.cons.injEq, and_true] at hcs
    have hnm : len ≤ m := by rw [hmm]; split <;> omega
    have hv : ∀ i, i < len → ∃ v : α, (∀ j u, (cells v)[j]? = some u → W.cell? (a.add (i * s + j)) = some u) ∧ Q v := by
      intro i hi
      obtain ⟨cs', hc, htr⟩ := hf i (by omega)
      rw [hC] at hc
      obtain ⟨_, hlen, hat⟩ := World.cells?_some hc
      obtain ⟨v, rfl, hq⟩ := hel cs' _ _ hlen htr
      refine ⟨v, fun j u hu => ?_, hq⟩
      have hj : j < s := by have := (List.getElem?_eq_some_iff.1 hu).1; rwa [hs] at this
      have := hat j hj
      rw [add_of_add] at this
      rw [this, hu]
    obtain ⟨vs, hlen, hp⟩ := ex_rowC hv
    refine ⟨vs, ⟨some a, cap, by rw [hlen]; exact hcs, by rw [hlen]; exact hl, fun i x hx => ?_⟩, fun v hv => ?_⟩
    · have hi : i < len := by rw [← hlen]; exact (List.getElem?_eq_some_iff.1 hx).1
      obtain ⟨y, hy, hc, _⟩ := hp i hi
      rw [hx] at hy
      injection hy with hy
      subst hy
      obtain ⟨x0, _, hc0, _⟩ := hp 0 (by omega)
      have h0 : 0 < (cells x0).length := by rw [hs]; exact hpos
      have h1 := hc0 0 _ (List.getElem?_eq_getElem h0)
      rw [Nat.zero_mul] at h1
      obtain ⟨b, off, rfl, hb⟩ := addr_spotC h1
      refine ⟨b, off, rfl, hb, fun j u hu => ?_⟩
      have := hc j u hu
      rw [Go.WideShapes.add_plain, ← Nat.add_assoc] at this
      exact this
    · obtain ⟨i, hi, he⟩ := List.mem_iff_getElem.1 hv
      obtain ⟨v', hv', _, hs'⟩ := hp i (by omega)
      rw [List.getElem?_eq_getElem hi, he] at hv'
      injection hv' with hv'
      rw [hv']
      exact hs'
end
section
variable {H : Type} {enc : TypeId × Value → H} {W : World} {spare : Nat → Bool} {held : Bool}
theorem open_intsC {fuel : Nat} {v : Value} {x : DataW H × List MemPlace} (h : DataW.trod enc Try.prog W 0 spare held fuel 23 [v] = some x) : ∃ l, IntsAt W v l := by
  obtain ⟨l, ⟨A, c, hv, hc, hat⟩, _⟩ := open_rowsC (fun b : Int => [Value.int .i64 b]) (s := 1) (fun _ => rfl) (by omega) (fun _ => True) Try.underlying23 (by kernel_rfl) h (fun cs m y hl ht => by
    match cs, hl with
    | [u], _ =>
      obtain ⟨k, q0, _⟩ := DataW.trod_int Try.underlying3 ht
      exact ⟨k, q0, trivial⟩)
  refine ⟨l, A, c, hv, hc, fun i b hi => ?_⟩
  obtain ⟨blk, off, hA, hb, hcell⟩ := hat i b hi
  exact ⟨blk, off, hA, hb, by have := hcell 0 _ rfl; simpa using this⟩
theorem open_armC {cs : List Value} {m : Nat} {y : DataW H × List MemPlace} (hl : cs.length = 6) (h : DataW.trod enc Try.prog W 0 spare held m 62 cs = some y) : ∃ x : Arm, cs = x.enc := by
  obtain ⟨a0, a1, a2, a3, a4, a5, rfl⟩ := list6C hl
  have e1 : Try.prog.cellsOf 3 = 1 := by kernel_rfl
  obtain ⟨n0, y0, t0⟩ := trod_fieldC Try.underlying62 h 0 _ rfl
  obtain ⟨n1, y1, t1⟩ := trod_fieldC Try.underlying62 h 1 _ rfl
  obtain ⟨n2, y2, t2⟩ := trod_fieldC Try.underlying62 h 2 _ rfl
  obtain ⟨n3, y3, t3⟩ := trod_fieldC Try.underlying62 h 3 _ rfl
  obtain ⟨n4, y4, t4⟩ := trod_fieldC Try.underlying62 h 4 _ rfl
  obtain ⟨n5, y5, t5⟩ := trod_fieldC Try.underlying62 h 5 _ rfl
  simp [e1] at t0 t1 t2 t3 t4 t5
  obtain ⟨k0, q0, _⟩ := DataW.trod_int Try.underlying3 t0
  obtain ⟨k1, q1, _⟩ := DataW.trod_int Try.underlying3 t1
  obtain ⟨k2, q2, _⟩ := DataW.trod_int Try.underlying3 t2
  obtain ⟨k3, q3, _⟩ := DataW.trod_int Try.underlying3 t3
  obtain ⟨k4, q4, _⟩ := DataW.trod_int Try.underlying3 t4
  obtain ⟨k5, q5, _⟩ := DataW.trod_int Try.underlying3 t5
  simp only [List.cons.injEq, and_true] at q0 q1 q2 q3 q4 q5
  subst q0 q1 q2 q3 q4 q5
  exact ⟨⟨k0, k1, k2, k3, k4, k5⟩, rfl⟩
theorem open_insC {cs : List Value} {m : Nat} {y : DataW H × List MemPlace} (hl : cs.length = 22) (h : DataW.trod enc Try.prog W 0 spare held m 45 cs = some y) : ∃ x : IV, cs = x.enc ∧ InsOk W x.i x.av x.rv := by
  obtain ⟨a0, a1, a2, a3, a4, a5, a6, a7, a8, a9, a10, a11, a12, a13, a14, a15, a16, a17, a18, a19, a20, a21, rfl⟩ := list22C hl
  have e1 : Try.prog.cellsOf 3 = 1 := by kernel_rfl
  have e2 : Try.prog.cellsOf 9 = 1 := by kernel_rfl
  have e3 : Try.prog.cellsOf 40 = 5 := by kernel_rfl
  have e4 : Try.prog.cellsOf 43 = 3 := by kernel_rfl
  have e5 : Try.prog.cellsOf 23 = 1 := by kernel_rfl
  have e6 : Try.prog.cellsOf 41 = 1 := by kernel_rfl
  obtain ⟨n0, y0, t0⟩ := trod_fieldC Try.underlying45 h 0 _ rfl
  obtain ⟨n1, y1, t1⟩ := trod_fieldC Try.underlying45 h 1 _ rfl
  obtain ⟨n2, y2, t2⟩ := trod_fieldC Try.underlying45 h 2 _ rfl
  obtain ⟨n3, y3, t3⟩ := trod_fieldC Try.underlying45 h 3 _ rfl
  obtain ⟨n4, y4, t4⟩ := trod_fieldC Try.underlying45 h 4 _ rfl
  obtain ⟨n5, y5, t5⟩ := trod_fieldC Try.underlying45 h 5 _ rfl
  obtain ⟨n6, y6, t6⟩ := trod_fieldC Try.underlying45 h 6 _ rfl
  obtain ⟨n7, y7, t7⟩ := trod_fieldC Try.underlying45 h 7 _ rfl
  obtain ⟨n8, y8, t8⟩ := trod_fieldC Try.underlying45 h 8 _ rfl
  obtain ⟨n9, y9, t9⟩ := trod_fieldC Try.underlying45 h 9 _ rfl
  obtain ⟨n10, y10, t10⟩ := trod_fieldC Try.underlying45 h 10 _ rfl
  obtain ⟨n11, y11, t11⟩ := trod_fieldC Try.underlying45 h 11 _ rfl
  obtain ⟨n12, y12, t12⟩ := trod_fieldC Try.underlying45 h 12 _ rfl
  obtain ⟨n13, y13, t13⟩ := trod_fieldC Try.underlying45 h 13 _ rfl
  obtain ⟨n14, y14, t14⟩ := trod_fieldC Try.underlying45 h 14 _ rfl
  obtain ⟨n15, y15, t15⟩ := trod_fieldC Try.underlying45 h 15 _ rfl
  simp [e1, e2, e3, e4, e5, e6] at t0 t1 t2 t3 t4 t5 t6 t7 t8 t9 t10 t11 t12 t13 t14 t15
  obtain ⟨m0, z0, s0⟩ := trod_fieldC Try.underlying40 t7 0 _ rfl
  obtain ⟨m1, z1, s1⟩ := trod_fieldC Try.underlying40 t7 1 _ rfl
  obtain ⟨m2, z2, s2⟩ := trod_fieldC Try.underlying40 t7 2 _ rfl
  obtain ⟨m3, z3, s3⟩ := trod_fieldC Try.underlying40 t7 3 _ rfl
  obtain ⟨m4, z4, s4⟩ := trod_fieldC Try.underlying40 t7 4 _ rfl
  obtain ⟨o0, w0, r0⟩ := trod_fieldC Try.underlying43 t13 0 _ rfl
  obtain ⟨o1, w1, r1⟩ := trod_fieldC Try.underlying43 t13 1 _ rfl
  obtain ⟨o2, w2, r2⟩ := trod_fieldC Try.underlying43 t13 2 _ rfl
  simp [e1, e2] at s0 s1 s2 s3 s4 r0 r1 r2
  obtain ⟨k0, q0, _⟩ := DataW.trod_int Try.underlying3 t0
  obtain ⟨k1, q1, _⟩ := DataW.trod_int Try.underlying3 t1
  obtain ⟨k2, q2, _⟩ := DataW.trod_int Try.underlying3 t2
  obtain ⟨k3, q3, _⟩ := DataW.trod_int Try.underlying3 t3
  obtain ⟨k4, q4, _⟩ := DataW.trod_int Try.underlying3 t4
  obtain ⟨k5, q5, _⟩ := DataW.trod_int Try.underlying3 t5
  obtain ⟨k7, q7, _⟩ := DataW.trod_int Try.underlying3 s0
  obtain ⟨k8, q8, _⟩ := DataW.trod_int Try.underlying3 s1
  obtain ⟨k9, q9, _⟩ := DataW.trod_int Try.underlying3 s2
  obtain ⟨k10, q10, _⟩ := DataW.trod_int Try.underlying3 s3
  obtain ⟨k13, q13, _⟩ := DataW.trod_int Try.underlying3 t9
  obtain ⟨k14, q14, _⟩ := DataW.trod_int Try.underlying3 t10
  obtain ⟨k16, q16, _⟩ := DataW.trod_int Try.underlying3 t12
  obtain ⟨k17, q17, _⟩ := DataW.trod_int Try.underlying3 r0
  obtain ⟨k18, q18, _⟩ := DataW.trod_int Try.underlying3 r1
  obtain ⟨k19, q19, _⟩ := DataW.trod_int Try.underlying3 r2
  obtain ⟨k20, q20, _⟩ := DataW.trod_int Try.underlying3 t14
  obtain ⟨k21, q21, _⟩ := DataW.trod_int Try.underlying3 t15
  obtain ⟨k6, q6, _⟩ := DataW.trod_string Try.underlying9 t6
  obtain ⟨k11, q11, _⟩ := DataW.trod_string Try.underlying9 s4
  obtain ⟨ks, hks⟩ := open_intsC t8
  obtain ⟨rs, hrs, _⟩ := open_rowsC Arm.enc (s := 6) (fun _ => rfl) (by omega) (fun _ => True) Try.underlying41 (by kernel_rfl) t11 (fun cs m y hl ht => by
    obtain ⟨x, hx⟩ := open_armC hl ht
    exact ⟨x, hx, trivial⟩)
  simp only [List.cons.injEq, and_true] at q0 q1 q2 q3 q4 q5 q7 q8 q9 q10 q13 q14 q16 q17 q18 q19 q20 q21 q6 q11
  subst q0 q1 q2 q3 q4 q5 q7 q8 q9 q10 q13 q14 q16 q17 q18 q19 q20 q21 q6 q11
  exact ⟨⟨⟨k0, k1, k2, k3, k4, k5, k6, k7, k8, k9, k10, k11, ks, k13, k14, rs, k16, k17, k18, k19, k20, k21⟩, a12, a15⟩, rfl, ⟨hks, hrs⟩⟩
theorem open_procC {r : Reach} {b0 : Nat} {v : Value} {d : DataW H} {pl : List MemPlace} (hv : Value.okWide Try.prog W r b0 29 v) (h : DataW.Trod enc Try.prog W 0 spare held 29 v d pl) :
    ∃ (p : Pr) (hs : List Bool) (code : List IV) (ns : Nat), v = p.val ∧ PrOk W p hs code ns ∧ p.arr.all (·.oneCell') = true := by
  obtain ⟨cs, rfl, hsz⟩ := okWide_struct Try.underlying29 hv
  obtain ⟨l⟩ := cs
  obtain ⟨a0, a1, a2, a3, a4, a5, a6, a7, a8, a9, a10, rfl⟩ := list11C (l := l) (hsz.trans (show Try.prog.cellsOf 29 = 11 by kernel_rfl))
  obtain ⟨fuel, hf⟩ := h
  have e1 : Try.prog.cellsOf 3 = 1 := by kernel_rfl
  have e2 : Try.prog.cellsOf 9 = 1 := by kernel_rfl
  have e3 : Try.prog.cellsOf 22 = 1 := by kernel_rfl
  have e4 : Try.prog.cellsOf 25 = 1 := by kernel_rfl
  have e5 : Try.prog.cellsOf 23 = 1 := by kernel_rfl
  have e6 : Try.prog.cellsOf 24 = 1 := by kernel_rfl
  have e7 : Try.prog.cellsOf 26 = 1 := by kernel_rfl
  have e8 : Try.prog.cellsOf 27 = 1 := by kernel_rfl
  obtain ⟨n0, y0, t0⟩ := trod_fieldC Try.underlying29 hf 0 _ rfl
  obtain ⟨n1, y1, t1⟩ := trod_fieldC Try.underlying29 hf 1 _ rfl
  obtain ⟨n2, y2, t2⟩ := trod_fieldC Try.underlying29 hf 2 _ rfl
  obtain ⟨n3, y3, t3⟩ := trod_fieldC Try.underlying29 hf 3 _ rfl
  obtain ⟨n4, y4, t4⟩ := trod_fieldC Try.underlying29 hf 4 _ rfl
  obtain ⟨n5, y5, t5⟩ := trod_fieldC Try.underlying29 hf 5 _ rfl
  obtain ⟨n6, y6, t6⟩ := trod_fieldC Try.underlying29 hf 6 _ rfl
  obtain ⟨n7, y7, t7⟩ := trod_fieldC Try.underlying29 hf 7 _ rfl
  obtain ⟨n8, y8, t8⟩ := trod_fieldC Try.underlying29 hf 8 _ rfl
  obtain ⟨n9, y9, t9⟩ := trod_fieldC Try.underlying29 hf 9 _ rfl
  obtain ⟨n10, y10, t10⟩ := trod_fieldC Try.underlying29 hf 10 _ rfl
  simp [Value.cells, e1, e2, e3, e4, e5, e6, e7, e8] at t0 t1 t2 t3 t4 t5 t6 t7 t8 t9 t10
  obtain ⟨k1, q1, _⟩ := DataW.trod_int Try.underlying3 t1
  obtain ⟨k2, q2, _⟩ := DataW.trod_int Try.underlying3 t2
  obtain ⟨k5, q5, _⟩ := DataW.trod_int Try.underlying3 t5
  obtain ⟨k7, q7, _⟩ := DataW.trod_int Try.underlying3 t7
  obtain ⟨k0, q0, _⟩ := DataW.trod_string Try.underlying9 t0
  obtain ⟨vs, hvs, hvq⟩ := open_rowsC (fun l : {l : List Value // l.length = 7} => l.val) (s := 7) (fun l => l.property) (by omega) (fun l => ∃ b : Bool, l.val[2]? = some (.bool b)) Try.underlying22 (by kernel_rfl) t3 (fun cs m y hl ht => by
    refine ⟨⟨cs, hl⟩, rfl, ?_⟩
    obtain ⟨b0, b1, b2, b3, b4, b5, b6, rfl⟩ := list7C hl
    have e9 : Try.prog.cellsOf 4 = 1 := by kernel_rfl
    obtain ⟨n9, y9, t9⟩ := trod_fieldC Try.underlying100 ht 2 _ rfl
    simp [e9] at t9
    obtain ⟨bb, qb, _⟩ := DataW.trod_bool Try.underlying4 t9
    simp only [List.cons.injEq, and_true] at qb
    subst qb
    exact ⟨bb, rfl⟩)
  obtain ⟨is, his, hiq⟩ := open_rowsC IV.enc (s := 22) (fun _ => rfl) (by omega) (fun x => InsOk W x.i x.av x.rv) Try.underlying24 (by kernel_rfl) t6 (fun cs m y hl ht => open_insC hl ht)
  obtain ⟨A4, m4, c4, rfl⟩ := open_formC Try.underlying23 t4
  obtain ⟨A8, m8, c8, rfl⟩ := open_formC Try.underlying25 t8
  obtain ⟨A9, m9, c9, rfl⟩ := open_formC Try.underlying26 t9
  obtain ⟨A10, m10, c10, rfl⟩ := open_formC Try.underlying27 t10
  simp only [List.cons.injEq, and_true] at q0 q1 q2 q5 q7
  subst q0 q1 q2 q5 q7
  obtain ⟨Av, cv, hv3, _, hva⟩ := hvs
  obtain ⟨Ac, cc, hv6⟩ := his.form
  refine ⟨⟨k0, k1, k2, k5, k7, a3, .slice A4 m4 c4, a6, .slice A8 m8 c8, .slice A9 m9 c9, .slice A10 m10 c10⟩, vs.map (fun l => match l.val[2]? with | some (Value.bool b) => b | _ => false), is, m8, rfl, ⟨⟨Av, cv, by rw [List.length_map]; exact hv3, fun k b hk => ?_⟩, his, hiq, ⟨_, _, rfl⟩⟩, ?_⟩
  · rw [List.getElem?_map] at hk
    cases hl : vs[k]? with
    | none => rw [hl] at hk; cases hk
    | some l =>
      rw [hl] at hk
      obtain ⟨bb, hb⟩ := hvq l (List.mem_of_getElem? hl)
      simp only [Option.map_some, hb] at hk
      injection hk with hk
      subst hk
      obtain ⟨blk, off, hA, hlt, hc⟩ := hva k l hl
      exact ⟨blk, off, hA, hlt, hc 2 _ hb⟩
  · have h3 : a3 = .slice Av vs.length cv := hv3
    have h6 : a6 = .slice Ac is.length cc := hv6
    rw [h3, h6]
    simp [Value.oneCell']
end
end Go.Proofs.Ytaaadbaakhjkcaa
