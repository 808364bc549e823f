/- shape of package tree; conditions: the tree is in memory, the map is the call's own, the library's table. -/
import Derived.Test.YtnphfogepdkpbaaDoorTrN
import Derived.Test.YtnphfogepdkpbaaDoorTail
import Derived.Test.YtnphfogepdkpbaaDoorStr
import Derived.Lib.SlBytesRow
import Derived.Laws.Slices
namespace Go.Proofs.YtnphfogepdkpbaaDoor
open Go.RowKit Go.WideShapes Go.ChangeShapes
set_option linter.unusedVariables false
set_option linter.unusedSimpArgs false
set_option maxRecDepth 100000

theorem own_backT {w : World} {B : Nat} {l : List UInt8} {v : Value} (h : w.ownsRow B 5 1 v l.length (Lib.byteCells l)) : (convert 74 9 v).run Tryd.prog w = .ok (.string ⟨l.toArray⟩) w := by
  rcases h.2 with ⟨rfl, h0⟩ | ⟨g, cap, cur, rfl, _, hg, _⟩
  · have hl : l = [] := List.eq_nil_of_length_eq_zero h0
    subst hl
    first
    | have h := run_convert_bytes_nil (P := Tryd.prog) (w := w) 74 5 Tryd.underlying74 Tryd.underlying5 0 0 9 Tryd.underlying9
      exact h
    | exact run_convert_bytes_back w 74 9 5 ⟨g, 0, none⟩ cap [] Tryd.underlying74 Tryd.underlying5 Tryd.underlying9 (fun j hj => absurd hj (by simp))
  · exact run_convert_bytes_back w 74 9 5 ⟨g, 0, none⟩ cap l Tryd.underlying74 Tryd.underlying5 Tryd.underlying9 (fun j hj => by
      have h1 := h.cells (g := g) rfl j (.int .u8 (l[j]'hj).toNat) (by unfold Lib.byteCells; simp [hj])
      exact h1)
abbrev powT (w : World) : Prop := Lib.TabIs Tryd.prog w "internal/strconv.uint64pow10" .u64 Lib.pow10Tab
theorem powT.below {w w' : World} (h : powT w) (hb : Below w.heap.size w w') : powT w' := (Lib.tabBelow_of_tabIs h) w' hb
def NumP (w : World) (B : Nat) (l : List UInt8) (e : Ending) (w' : World) : Prop := ∃ v', e = .returned v' ∧ w'.ownsRow B 5 1 v' l.length (Lib.byteCells l) ∧ Below B w w'
/-- A number that is put behind bytes. -/
theorem append_num (B : Nat) (n : Nat) (sv : Value) (l : List UInt8) (w0 w : World) (hown : w.ownsRow B 5 1 sv l.length (Lib.byteCells l)) (hB : B ≤ w.heap.size) (hl : l.length ≤ 100000000000000) (hn : n ≤ 1000000000) (h0 : powT w0) (hb : Below B w0 w) (hBw : B = w0.heap.size) :
    Calls Tryd.prog 39 #[sv, .int .i64 (n : Int), .int .i64 10] w (NumP w B (l ++ Lib.decDigits n)) := by
  subst hBw
  refine (Any.strconv_AppendInt_10 Tryd.laysM176 w0.heap.size l.length (n : Int) (by omega) (by omega) sv (Lib.byteCells l) w hown hB (by omega) ((Lib.tabBelow_of_tabIs h0).on hb)).mono ?_
  rintro e w' ⟨v', rfl, ho, hbb, _⟩
  refine ⟨v', rfl, ?_, hbb⟩
  rw [Lib.itoa_nonneg] at ho
  have e : Lib.byteCells (l ++ Lib.decDigits n) = Lib.byteCells l ++ Lib.byteCells (Lib.decDigits n) := by unfold Lib.byteCells; simp
  rw [List.length_append, e]
  exact ho

theorem dd_len : ∀ u : Nat, (Lib.decDigits u).length ≤ u + 1 := by
  intro u
  induction u using Nat.strongRecOn with
  | _ u ih =>
    rw [Lib.decDigits]
    split
    · simp
    · rw [List.length_append]
      have := ih (u / 10) (by omega)
      simp
      omega
theorem nums_len (N : Nat) : ∀ ns : List Nat, (∀ n ∈ ns, n ≤ N) → (numsL ns).length ≤ ns.length * (N + 2)
  | [], _ => by simp [numsL]
  | n :: ns, h => by
    have h1 := nums_len N ns (fun x hx => h x (by simp [hx]))
    have h2 := dd_len n
    have h3 := h n (by simp)
    have e : numsL (n :: ns) = 32 :: (Lib.decDigits n ++ numsL ns) := by simp [numsL]
    rw [e, List.length_cons, List.length_append, List.length_cons, Nat.succ_mul]
    omega
/-- Texts of nodes are not too long. -/
def TX (L : List Nd) : Prop := ∀ n ∈ L, n.text.size ≤ 100000
structure ShI (w0 W : World) (mb g g2 i : Nat) (M : Nat → Bool) (L : List Nd) (tbl0 : List (ByteArray × Nat)) (sig0 : Nat → List Lab) (tbl : List (ByteArray × Nat)) (sig : Nat → List Lab) (num : Nat → Nat) (k c : Nat) : Prop where
  be : Below w0.heap.size w0 W
  mk_ : ∃ cs : Array Value, Blk W g 4 cs ∧ ∀ j, j ≤ i → cs[j]? = some (.bool (M j))
  of_ : ∃ cs : Array Value, Blk W g2 3 cs ∧ cs.size = i + 1 ∧ ∀ j, j ≤ i → cs[j]? = some (.int .i64 (num j : Nat))
  mp : MP W mb tbl
  tb : Tb tbl sig
  n0 : num 0 = 0
  nk : ∀ j, 1 ≤ j → j < k → M j = true → 1 ≤ num j ∧ num j ≤ tbl.length ∧ sig (num j) = S L j
  nb : ∀ j, num j ≤ tbl.length
  lo : w0.heap.size ≤ g ∧ w0.heap.size ≤ g2 ∧ w0.heap.size ≤ mb
  ex : ∀ a, a ≤ tbl0.length → sig a = sig0 a
  ln : tbl0.length ≤ tbl.length ∧ tbl.length ≤ tbl0.length + c
section
variable {w0 W V : World} {mb g g2 i k c : Nat} {M : Nat → Bool} {L : List Nd} {tbl0 tbl : List (ByteArray × Nat)} {sig0 sig : Nat → List Lab} {num : Nat → Nat}
theorem ShI.later (h : ShI w0 W mb g g2 i M L tbl0 sig0 tbl sig num k c) (hb : Below W.heap.size W V) : ShI w0 V mb g g2 i M L tbl0 sig0 tbl sig num k c := by
  obtain ⟨h1, ⟨c1, a1, a2⟩, ⟨c2, b1, b2, b3⟩, h4, h5, h6, h7, h8, h9, h10, h11⟩ := h
  exact ⟨h1.trans (hb.mono h1.size), ⟨c1, a1.below hb a1.lt, a2⟩, ⟨c2, b1.below hb b1.lt, b2, b3⟩, h4.same (hb.block _ h4.lt), h5, h6, h7, h8, h9, h10, h11⟩
theorem ShI.skip (h : ShI w0 W mb g g2 i M L tbl0 sig0 tbl sig num k c) (hM : M k = false) : ShI w0 W mb g g2 i M L tbl0 sig0 tbl sig num (k + 1) (c + 1) :=
  ⟨h.be, h.mk_, h.of_, h.mp, h.tb, h.n0, fun j h1 h2 h3 => h.nk j h1 (Nat.lt_of_le_of_ne (by omega) (fun e => by rw [e, hM] at h3; cases h3)) h3, h.nb, h.lo, h.ex, h.ln.1, by have := h.ln.2; omega⟩
theorem ShI.numOk (h : ShI w0 W mb g g2 i M L tbl0 sig0 tbl sig num k c) (hL : OkL L) (hC : Cl L i 0 M) (h1 : 1 ≤ k) (h2 : k ≤ i) (hM : M k = true) : NumOk L k num tbl.length sig :=
  ⟨h.n0, fun c hc => by
    have hc1 := thr_lt hL h1 hc
    exact h.nk c hc1.1 hc1.2 (hC.2 k (by omega) h2 hM c hc)⟩
/-- The number of the node is known, and written. -/
theorem ShI.hit (h : ShI w0 W mb g g2 i M L tbl0 sig0 tbl sig num k c) (hk : 1 ≤ k) (hki : k ≤ i) {r : Nat} (hr : 1 ≤ r ∧ r ≤ tbl.length ∧ sig r = S L k) : ShI w0 (W.setCell ⟨g2, k, none⟩ (.int .i64 (r : Nat))) mb g g2 i M L tbl0 sig0 tbl sig (fun j => if j = k then r else num j) (k + 1) c := by
  obtain ⟨h1, ⟨c1, a1, a2⟩, ⟨c2, b1, b2, b3⟩, h4, h5, h6, h7, h8, h9, h10, h11⟩ := h
  refine ⟨h1.setCell (p := ⟨g2, k, none⟩) h9.2.1 _, ⟨c1, a1.far (p := ⟨g2, k, none⟩) (Blk.ne_ a1 b1 (by decide)) _, a2⟩, ⟨_, b1.set_ k _, by simpa using b2, fun j hj => ?_⟩, h4.same (Below.heap_setCell W ⟨g2, k, none⟩ _ mb (fun e => h4.ne_blk b1 e.symm)), h5, by show (if 0 = k then r else num 0) = 0; rw [if_neg (by omega)]; exact h6, fun j g1 g2' g3 => ?_, fun j => ?_, h9, h10, h11⟩
  · show _ = some (Value.int .i64 ((if j = k then r else num j : Nat) : Int))
    by_cases e : j = k
    · subst e
      rw [if_pos rfl, Array.getElem?_setIfInBounds_self_of_lt (by omega)]
    · rw [if_neg e, Array.getElem?_setIfInBounds_ne (by omega)]
      exact b3 j hj
  · show 1 ≤ (if j = k then r else num j) ∧ (if j = k then r else num j) ≤ tbl.length ∧ sig (if j = k then r else num j) = S L j
    by_cases e : j = k
    · subst e
      rw [if_pos rfl]
      exact hr
    · rw [if_neg e]
      exact h7 j g1 (by omega) g3
  · show (if j = k then r else num j) ≤ tbl.length
    split
    · exact hr.2.1
    · exact h8 j
theorem ShI.more (h : ShI w0 W mb g g2 i M L tbl0 sig0 tbl sig num k c) : ShI w0 W mb g g2 i M L tbl0 sig0 tbl sig num k (c + 1) :=
  ⟨h.be, h.mk_, h.of_, h.mp, h.tb, h.n0, h.nk, h.nb, h.lo, h.ex, h.ln.1, by have := h.ln.2; omega⟩
/-- A key is new. -/
theorem ShI.push (h : ShI w0 W mb g g2 i M L tbl0 sig0 tbl sig num k c) (hL : OkL L) (h1 : 1 ≤ k) (h2 : k ≤ L.length) (hn : NumOk L k num tbl.length sig) (hk : ∀ p ∈ tbl, p.1 ≠ shKey L k num)
    {V : World} (hm : MP V mb (tbl ++ [(shKey L k num, tbl.length + 1)])) (hg : W.grownBy V (some mb)) :
    ∃ sig', sig' (tbl.length + 1) = S L k ∧ ShI w0 V mb g g2 i M L tbl0 sig0 (tbl ++ [(shKey L k num, tbl.length + 1)]) sig' num k (c + 1) := by
  obtain ⟨sig', s1, s2, s3⟩ := tb_push h.tb hL h1 h2 hn (fun j p hp => hk p (List.mem_of_getElem? hp))
  obtain ⟨g1, ⟨c1, a1, a2⟩, ⟨c2, b1, b2, b3⟩, g4, g5, g6, g7, g8, g9, g10, g11⟩ := h
  have ex : ∀ {q : Nat} {t : TypeId} {cs : Array Value}, Blk W q t cs → Blk V q t cs := fun hq => hq.grown hg (fun e => g4.ne_blk hq (by injection e))
  refine ⟨sig', s2, g1.grown hg g1.size (fun q hq => by injection hq with hq; rw [← hq]; exact g9.2.2), ⟨c1, ex a1, a2⟩, ⟨c2, ex b1, b2, b3⟩, hm, s3, g6, fun j q1 q2 q3 => ?_, fun j => by have := g8 j; rw [List.length_append]; omega, g9, fun a ha => by rw [s1 a (by have := g11.1; omega)]; exact g10 a ha, by rw [List.length_append]; have := g11.1; omega, by rw [List.length_append, List.length_singleton]; have := g11.2; omega⟩
  have := g7 j q1 q2 q3
  exact ⟨this.1, by rw [List.length_append]; omega, by rw [s1 _ this.2.1]; exact this.2.2⟩
end
end Go.Proofs.YtnphfogepdkpbaaDoor
