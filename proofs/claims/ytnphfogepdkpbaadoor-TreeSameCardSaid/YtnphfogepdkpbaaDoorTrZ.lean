/- What the rows give: the library's table; nodes that come as an argument, opened; conditions: none but that they can be read as data. -/
import Derived.Test.YtnphfogepdkpbaaDoorTrV
import Derived.Test.YtnphfogepdkpbaaDoorRows
import Derived.Lib.LaidU8
import Derived.Deep.Slices
import Derived.Deep.Fields
import Derived.Lib.SmallJoins
import Derived.ChangeSame
import Derived.ChangeSlices
import Derived.ChangeMaps5
import Derived.Carry
import Derived.Stop.Joined
import Derived.Stop.LaidErr
import Derived.MakeChecks
import Derived.HandedShaped
namespace Go.Proofs.YtnphfogepdkpbaaDoor
open Go.ChangeShapes Go.WideShapes Go.Deep Go.RowKit Go.Joins
set_option linter.unusedVariables false
set_option linter.unusedSimpArgs false
set_option maxRecDepth 100000

theorem returns_and_shaped {H : Type} {enc : TypeId × Value → H} {C : Checked} {os : Os} {f : FuncId} {fn : Func} {s : ChangeSpec} {conds : List PathCond} {apart fresh handsOn again : Bool} {X : World → Array Value → Prop}
    (hX : ∀ (w w' : World) (args : Array Value), w.heap = w'.heap → X w args → X w' args)
    (own : ownKnob C.prog.godebug = none) (started : os.Started) (noInit : C.prog.inits.idxOf? f = none) (hfn : C.prog.funcs[f]? = some fn)
    (witness : ∃ (w : World) (tape : Tape) (i : Input), w.os = os ∧ (w.forCall tape i).Shaped C.prog ∧ i.vars = [] ∧ Input.okWide C.prog (w.forCall tape i) .any w.heap.size f i ∧
      ((s.pre enc C.prog fn conds apart (w.forCall tape i).memory i.args ∧ X (w.forCall tape i).memory i.args) ∧ sizedMet enc C.prog fn (OpenSpec.ofChange s) apart (w.forCall tape i).memory i.args) ∧ Assume.holds {} C.prog (lone (Frame.enter C.prog f i.args .normal) [] (w.forCall tape i)))
    (contract : ∀ (W : World) (base : Nat) (args : Array Value) (ds gs : List (DataW H)) (before : List MemPlace),
      (∀ (j : Nat) t v, fn.params[j]? = some t → args[j]? = some v → Value.okWide C.prog W .any base t v) →
      DataW.Whole enc C.prog fn.params.toList s.vars apart W args.toList ds gs before →
      (DataW.weightsEach C.prog (fn.params.toList ++ s.plain.varTypes C.prog) (ds ++ gs)).all (· ≤ reachBytes) = true → X W args → W.ShapedOpen C.prog →
      Calls C.prog f args W fun e W' => ∃ v, e = .returned v ∧ s.post enc C.prog fn apart fresh handsOn again W args v W') :
    ReturnsInHanded {} C os f .any (fun w args => (s.pre enc C.prog fn conds apart w args ∧ X w args) ∧ sizedMet enc C.prog fn (OpenSpec.ofChange s) apart w args) (s.post enc C.prog fn apart fresh handsOn again) := by
  refine returnsInHanded_of_calls own started noInit witness ?_
  intro w tape i _ hsh _ hok hpre hholds
  obtain ⟨_, _, _, fn', hfn', _, _, _, _, hval⟩ := hok
  obtain rfl : fn' = fn := Option.some.inj (hfn'.symm.trans hfn)
  obtain ⟨⟨⟨ds, gs, before, hw, hc⟩, hx⟩, hz⟩ := hpre
  have hw' := DataW.Whole.of_heap (w' := w.forCall tape i) (by rfl) hw
  refine (contract (w.forCall tape i) w.heap.size i.args ds gs before hval hw' (hz.weights hw) (hX _ _ _ (by rfl) hx) hsh).mono fun e W' ⟨v, he, hp⟩ => ?_
  subst he
  exact ChangeSpec.post_blind hp

theorem pow_datum : (Rows.laid_internal_strconv_uint64pow10 : DataW Unit) = Lib.tabData .u64 Lib.pow10Tab := by kernel_rfl
theorem pow_of {W : World} {l : List (String × DataW Unit)} (hL : laidMetH Tryd.prog (("math/bits.deBruijn32tab", Rows.laid_math_bits_deBruijn32tab) :: ("math/bits.deBruijn64tab", Rows.laid_math_bits_deBruijn64tab) :: ("internal/strconv.uint64pow10", Rows.laid_internal_strconv_uint64pow10) :: l) W)
    (hp : ((("math/bits.deBruijn32tab", Rows.laid_math_bits_deBruijn32tab) :: ("math/bits.deBruijn64tab", Rows.laid_math_bits_deBruijn64tab) :: ("internal/strconv.uint64pow10", Rows.laid_internal_strconv_uint64pow10) :: l).all fun x => x.2.handleName?.isNone) = true) : powT W := by
  rw [MakeChecks.laidMetH_plain _ _ _ hp] at hL
  have h3 := laidMet.tail (laidMet.tail hL)
  rw [pow_datum] at h3
  exact Lib.tabIs_of_head (g := 0) (t := 87) (e := 78) (n := 20) (by kernel_rfl) (by kernel_rfl) Tryd.underlying87 Tryd.underlying78 (by kernel_rfl) (by kernel_rfl) h3
theorem ex_row {α : Type} {n : Nat} {p : Nat → α → Prop} (h : ∀ i, i < n → ∃ x, p i x) : ∃ l : List α, l.length = n ∧ ∀ i, i < n → ∃ x, l[i]? = some x ∧ p i x := by
  induction n with
  | zero => exact ⟨[], rfl, fun i hi => by omega⟩
  | succ n ih =>
    obtain ⟨l, hl, hp⟩ := ih fun i hi => h i (by omega)
    obtain ⟨x, hx⟩ := h n (by omega)
    refine ⟨l ++ [x], by simp [hl], fun i hi => ?_⟩
    rcases Nat.lt_or_ge i n with h1 | h1
    · obtain ⟨y, hy, hp⟩ := hp i h1
      exact ⟨y, by rw [List.getElem?_append_left (by omega)]; exact hy, hp⟩
    · obtain rfl : i = n := by omega
      refine ⟨x, ?_, hx⟩
      rw [← hl, List.getElem?_concat_length]
theorem list6 {α : Type} {l : List α} (h : l.length = 6) : ∃ a b c d e f, l = [a, b, c, d, e, f] := by
  match l, h with
  | [a, b, c, d, e, f], _ => exact ⟨a, b, c, d, e, f, rfl⟩
section
variable {H : Type} {enc : TypeId × Value → H} {P : Program} {W : World} {spare : Nat → Bool} {held : Bool}
theorem trod_fieldF {t : TypeId} {fs : Array Field} {fuel : Nat} {cs : List Value} {x : DataW H × List MemPlace} (ht : P.underlying t = some (.struct fs)) (h : DataW.trod enc P W 0 spare held fuel t cs = some x) (i : Nat) (f : Field) (hi : fs[i]? = some f) :
    ∃ (n : Nat) (y : DataW H × List MemPlace), DataW.trod enc P W 0 spare held n f.type ((cs.drop f.offset).take (P.cellsOf f.type)) = some y := by
  obtain ⟨xs, n, _, _, _, hl, hf⟩ := DataW.trod_struct ht h
  have hlt : i < xs.length := by rw [hl]; exact (Array.getElem?_eq_some_iff.1 hi).1
  exact ⟨n, xs[i], by rw [hf i f hi, List.getElem?_eq_getElem hlt]⟩
theorem addr_spot {a : Addr} {v : Value} (h : W.cell? (a.add 0) = some v) : ∃ b off, a = ⟨b, off, none⟩ ∧ b < W.heap.size := by
  obtain ⟨b, off, spot⟩ := a
  have hspot : spot = none := by simpa [Addr.add] using World.cell?_spot h
  subst hspot
  exact ⟨b, off, rfl, World.block_lt_of_cell? W _ h⟩
theorem add_two (a : Addr) (i j : Nat) : (a.add i).add j = a.add (i + j) := by
  unfold Addr.add
  by_cases hi : i = 0
  · subst hi; simp
  · by_cases hj : j = 0
    · subst hj; simp
    · rw [if_neg hi, if_neg hj, if_neg (by omega), Nat.add_assoc]
end
section
variable {H : Type} {enc : TypeId × Value → H} {W : World} {spare : Nat → Bool} {held : Bool}
theorem open_kids {fuel : Nat} {v : Value} {x : DataW H × List MemPlace} (h : DataW.trod enc Tryd.prog W 0 spare held fuel 32 [v] = some x) : ∃ l, IntsAt W v l := by
  rcases open_ints Tryd.underlying32 Tryd.underlying3 (by kernel_rfl) h with ⟨h0, _⟩ | ⟨a, len, cap, zs, hcs, _, hl, hm, hz, _, hat, _⟩
  · simp only [List.cons.injEq, and_true] at h0
    rw [h0]
    exact ⟨[], zero_ints W⟩
  · simp only [List.cons.injEq, and_true] at hcs
    have hle : len ≤ zs.length := by rw [hz]; split <;> omega
    have hln : (zs.take len).length = len := by rw [List.length_take]; omega
    refine ⟨zs.take len, some a, cap, by rw [hln]; exact hcs, by rw [hln]; exact hl, fun i b hi => ?_⟩
    have hil := (List.getElem?_eq_some_iff.1 hi).1
    rw [hln] at hil
    obtain ⟨blk, off, rfl, hlt⟩ := addr_spot (hat 0 (by omega))
    have hc := hat i (by omega)
    rw [Go.WideShapes.add_plain] at hc
    refine ⟨blk, off, rfl, hlt, ?_⟩
    rw [hc, List.getD_eq_getElem?_getD, ← List.getElem?_take_of_lt (by omega : i < len), hi]
    rfl
/-- Nodes that come as an argument. -/
theorem open_nodes {fuel : Nat} {A : Option Addr} {n c : Nat} {x : DataW H × List MemPlace} (h : DataW.trod enc Tryd.prog W 0 spare held fuel 22 [.slice A n c] = some x) :
    ∃ l : List Nd, l.length = n ∧ NodesAt W (.slice A l.length c) l := by
  rcases open_slice Tryd.underlying22 h with ⟨h0, _⟩ | ⟨a, len, cap, m, n', D, Pl, hcs, _, hl, hm, hmm, _, hf⟩
  · simp only [List.cons.injEq, Value.slice.injEq, and_true] at h0
    obtain ⟨rfl, rfl, rfl⟩ := h0
    exact ⟨[], rfl, ⟨none, 0, rfl, Nat.le_refl _, fun i t hi => by simp at hi⟩⟩
  · simp only [List.cons.injEq, Value.slice.injEq, and_true] at hcs
    obtain ⟨rfl, rfl, rfl⟩ := hcs
    have hnm : n ≤ m := by rw [hmm]; split <;> omega
    have e1 : Tryd.prog.cellsOf 3 = 1 := by kernel_rfl
    have e2 : Tryd.prog.cellsOf 31 = 3 := by kernel_rfl
    have e3 : Tryd.prog.cellsOf 9 = 1 := by kernel_rfl
    have e4 : Tryd.prog.cellsOf 32 = 1 := by kernel_rfl
    have hv : ∀ i, i < n → ∃ t : Nd, ∃ kv, W.cell? (a.add (i * 6)) = some (.int .i64 t.kind) ∧ W.cell? (a.add (i * 6 + 1)) = some (.int .i64 t.f) ∧ W.cell? (a.add (i * 6 + 2)) = some (.int .i64 t.l) ∧ W.cell? (a.add (i * 6 + 3)) = some (.int .i64 t.c) ∧
        W.cell? (a.add (i * 6 + 4)) = some (.string t.text) ∧ W.cell? (a.add (i * 6 + 5)) = some kv ∧ IntsAt W kv t.kids := by
      intro i hi
      obtain ⟨cs', hc, htr⟩ := hf i (by omega)
      rw [show Tryd.prog.cellsOf 34 = 6 by kernel_rfl] at hc
      obtain ⟨_, hlen, hat⟩ := World.cells?_some hc
      obtain ⟨v0, v1, v2, v3, v4, v5, rfl⟩ := list6 hlen
      obtain ⟨n0, y0, t0⟩ := trod_fieldF Tryd.underlying34 htr 0 _ rfl
      obtain ⟨n1, y1, t1⟩ := trod_fieldF Tryd.underlying34 htr 1 _ rfl
      obtain ⟨n2, y2, t2⟩ := trod_fieldF Tryd.underlying34 htr 2 _ rfl
      obtain ⟨n3, y3, t3⟩ := trod_fieldF Tryd.underlying34 htr 3 _ rfl
      simp [e1, e2, e3, e4] at t0 t1 t2 t3
      obtain ⟨p0, z0, s0⟩ := trod_fieldF Tryd.underlying31 t1 0 _ rfl
      obtain ⟨p1, z1, s1⟩ := trod_fieldF Tryd.underlying31 t1 1 _ rfl
      obtain ⟨p2, z2, s2⟩ := trod_fieldF Tryd.underlying31 t1 2 _ rfl
      simp [e1] at s0 s1 s2
      obtain ⟨k, q0, _⟩ := DataW.trod_int Tryd.underlying3 t0
      obtain ⟨x1, q1, _⟩ := DataW.trod_int Tryd.underlying3 s0
      obtain ⟨x2, q2, _⟩ := DataW.trod_int Tryd.underlying3 s1
      obtain ⟨x3, q3, _⟩ := DataW.trod_int Tryd.underlying3 s2
      obtain ⟨s, q4, _⟩ := DataW.trod_string Tryd.underlying9 t2
      obtain ⟨ks, hks⟩ := open_kids t3
      simp only [List.cons.injEq, and_true] at q0 q1 q2 q3 q4
      subst q0 q1 q2 q3 q4
      have a0 := hat 0 (by decide)
      have a1 := hat 1 (by decide)
      have a2 := hat 2 (by decide)
      have a3 := hat 3 (by decide)
      have a4 := hat 4 (by decide)
      have a5 := hat 5 (by decide)
      rw [add_two] at a0 a1 a2 a3 a4 a5
      exact ⟨⟨k, x1, x2, x3, s, ks⟩, v5, a0, a1, a2, a3, a4, a5, hks⟩
    obtain ⟨l, hll, hp⟩ := ex_row hv
    subst hll
    refine ⟨l, rfl, ⟨some a, c, rfl, hl, fun i t hi => ?_⟩⟩
    have hil : i < l.length := (List.getElem?_eq_some_iff.1 hi).1
    obtain ⟨t', ht', kv, c0, c1, c2, c3, c4, c5, hb⟩ := hp i hil
    rw [hi] at ht'
    injection ht' with ht'
    subst ht'
    obtain ⟨_, _, _, hc0, _⟩ := hp 0 (by omega)
    rw [Nat.zero_mul] at hc0
    obtain ⟨blk, off, rfl, hlt⟩ := addr_spot hc0
    rw [Go.WideShapes.add_plain] at c0 c1 c2 c3 c4 c5
    exact ⟨blk, off, kv, rfl, hlt, c0, by rw [Nat.add_assoc]; exact c1, by rw [Nat.add_assoc]; exact c2, by rw [Nat.add_assoc]; exact c3, by rw [Nat.add_assoc]; exact c4, by rw [Nat.add_assoc]; exact c5, hb⟩
end
end Go.Proofs.YtnphfogepdkpbaaDoor
