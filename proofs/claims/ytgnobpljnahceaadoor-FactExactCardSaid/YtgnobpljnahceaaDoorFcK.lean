/- A changed byte changes the sum, as plain mathematics; a row of bytes made of a text, one of them changed; conditions: none. -/
import Derived.Test.YtgnobpljnahceaaDoorFcJ
import Derived.Laws.IdiomStrings
namespace Go.Proofs.YtgnobpljnahceaaDoor
open Go.RowKit Go.WideShapes Go.ChangeShapes Go.Shelf
set_option linter.unusedVariables false
set_option linter.unusedSimpArgs false
set_option maxRecDepth 100000

theorem mul_back {x : Nat} (hx : x < 18446744073709551616) : x * 1099511628211 % 18446744073709551616 * 14886173955864302971 % 18446744073709551616 = x := by
  omega
theorem xor_same {h a b : Nat} (e : h ^^^ a = h ^^^ b) : a = b := by
  have e2 := congrArg (h ^^^ ·) e
  simpa [← Nat.xor_assoc] using e2
theorem fstep_xor {h h' : Nat} {a b : UInt8} (hh : h < 18446744073709551616) (hh' : h' < 18446744073709551616) (e : fstep h a = fstep h' b) : h ^^^ a.toNat = h' ^^^ b.toNat := by
  have e1 := mul_back (xor_lt64 h a hh)
  have e2 := mul_back (xor_lt64 h' b hh')
  unfold fstep at e
  rw [e] at e1
  exact e1.symm.trans e2
theorem fnvF_inj : ∀ (l : Bs) {h h' : Nat}, h < 18446744073709551616 → h' < 18446744073709551616 → fnvF h l = fnvF h' l → h = h'
  | [], h, h', _, _, e => e
  | b :: l, h, h', hh, hh', e => by
    have e2 := fstep_xor hh hh' (fnvF_inj l (fstep_lt h b) (fstep_lt h' b) e)
    rw [Nat.xor_comm h, Nat.xor_comm h'] at e2
    exact xor_same e2
theorem fnv_app (p l : Bs) : fnv (p ++ l) = fnvF (fnv p) l := by unfold fnv fnvF; rw [List.foldl_append]
/-- A byte that is changed changes the sum. -/
theorem fnv_ne {p q : Bs} {a b : UInt8} (hab : a ≠ b) : fnv (p ++ a :: q) ≠ fnv (p ++ b :: q) := by
  intro e
  rw [fnv_app, fnv_app] at e
  have e2 := fnvF_inj q (fstep_lt _ a) (fstep_lt _ b) e
  have e3 := xor_same (fstep_xor (fnv_lt p) (fnv_lt p) e2)
  exact hab (UInt8.toNat_inj.1 e3)
theorem set_parts {l : Bs} {k : Nat} (hk : k < l.length) (b : UInt8) : l = l.take k ++ l[k] :: l.drop (k + 1) ∧ l.set k b = l.take k ++ b :: l.drop (k + 1) :=
  ⟨by rw [← List.drop_eq_getElem_cons hk, List.take_append_drop], List.set_eq_take_append_cons_drop.trans (if_pos hk)⟩
/-- The byte that stands there behind the change. -/
def turnB (c : UInt8) (m : Nat) : UInt8 := UInt8.ofNat (c.toNat ^^^ m)
theorem turn_toNat (c : UInt8) {m : Nat} (hm : m < 256) : (turnB c m).toNat = c.toNat ^^^ m := by
  have h : c.toNat ^^^ m < 256 := Nat.xor_lt_two_pow (n := 8) c.toNat_lt hm
  unfold turnB
  rw [UInt8.toNat_ofNat']
  exact Nat.mod_eq_of_lt h
theorem turn_ne (c : UInt8) {m : Nat} (hm : m < 256) (h0 : 0 < m) : turnB c m ≠ c := by
  intro e
  have h := congrArg UInt8.toNat e
  rw [turn_toNat c hm] at h
  have h2 := xor_same (h.trans (Nat.xor_zero c.toNat).symm)
  omega
theorem turn_run (c : UInt8) {m : Nat} (hm : m < 256) : bits .xor .u8 (c.toNat : Int) (m : Int) = ((turnB c m).toNat : Int) := by
  have hc := c.toNat_lt
  have hx : c.toNat ^^^ m < 2 ^ 8 := Nat.xor_lt_two_pow (by omega) (by omega)
  have h1 : (BitVec.ofInt 8 (c.toNat : Int)).toNat = c.toNat := by
    rw [BitVec.ofInt_natCast, BitVec.toNat_ofNat]; exact Nat.mod_eq_of_lt (by omega)
  have h2 : (BitVec.ofInt 8 (m : Int)).toNat = m := by
    rw [BitVec.ofInt_natCast, BitVec.toNat_ofNat]; exact Nat.mod_eq_of_lt (by omega)
  rw [turn_toNat c hm]
  show IntKind.u8.wrap ((BitVec.ofInt 8 (c.toNat : Int) ^^^ BitVec.ofInt 8 (m : Int)).toNat : Int) = _
  rw [BitVec.toNat_xor, h1, h2, IntKind.wrap_u8]
  omega

/-- A block that holds a text's bytes, none of them kept from being written. -/
def BA (w : World) (g : Nat) (l : Bs) : Prop := ∃ cur : Array Value, w.heap[g]? = some (.cells cur 5 (cur.size, cur.size + 1)) ∧ l.length ≤ cur.size ∧ ∀ (j : Nat) (hj : j < l.length), cur[j]? = some (.int .u8 (l[j].toNat : Int))
theorem BA.lt {w : World} {g : Nat} {l : Bs} (h : BA w g l) : g < w.heap.size := by
  obtain ⟨cur, h1, _⟩ := h
  exact (Array.getElem?_eq_some_iff.1 h1).1
theorem BA.cell {w : World} {g : Nat} {l : Bs} (h : BA w g l) (j : Nat) (hj : j < l.length) : w.cell? ⟨g, j, none⟩ = some (.int .u8 (l[j].toNat : Int)) := by
  obtain ⟨cur, h1, h2, h3⟩ := h
  unfold World.cell?
  rw [h1]
  exact h3 j hj
theorem BA.frozen {w : World} {g : Nat} {l : Bs} (h : BA w g l) (j : Nat) (hj : j < l.length) : w.frozen? ⟨g, j, none⟩ = false := by
  obtain ⟨cur, h1, h2, h3⟩ := h
  unfold World.frozen?
  rw [h1]
  simp
  omega
theorem BA.below {w w' : World} {B g : Nat} {l : Bs} (h : BA w g l) (hb : Below B w w') (hg : g < B) : BA w' g l := by
  obtain ⟨cur, h1, h2⟩ := h
  exact ⟨cur, (hb.block g hg).trans h1, h2⟩
theorem BA.set_ {w : World} {g : Nat} {l : Bs} (h : BA w g l) (k : Nat) (b : UInt8) : BA (w.setCell ⟨g, k, none⟩ (.int .u8 (b.toNat : Int))) g (l.set k b) := by
  obtain ⟨cur, h1, h2, h3⟩ := h
  refine ⟨cur.setIfInBounds k (.int .u8 (b.toNat : Int)), ?_, by simpa using h2, fun j hj => ?_⟩
  · unfold World.setCell
    simp [Array.getElem?_modify, h1]
  · rw [List.length_set] at hj
    rw [Array.getElem?_setIfInBounds, List.getElem_set]
    split
    · next e => subst e; simp; omega
    · next e => exact h3 j hj
theorem BA.new (w : World) (s : ByteArray) (cap : Nat) : BA (w.drew.alloc (.cells (bytesRow s cap) 5 ((bytesRow s cap).size, (bytesRow s cap).size + 1))) w.heap.size s.data.toList := by
  refine ⟨bytesRow s cap, ?_, ?_, fun j hj => ?_⟩
  · exact heap_alloc_new w.drew _
  · unfold bytesRow; simp
  · unfold bytesRow
    rw [Array.getElem?_append_left (by simpa using hj)]
    rw [Array.getElem?_map]
    simp at hj
    simp [hj]
theorem BA.back {w : World} {g cap : Nat} {l : Bs} (h : BA w g l) : (convert 39 9 (.slice (some ⟨g, 0, none⟩) l.length cap)).run Tryd.prog w = .ok (.string ⟨l.toArray⟩) w :=
  run_convert_bytes_back w 39 9 5 ⟨g, 0, none⟩ cap l Tryd.underlying39 Tryd.underlying5 Tryd.underlying9 (fun j hj => by
    have e : (⟨g, 0, none⟩ : Addr).add j = ⟨g, j, none⟩ := by unfold Addr.add; split <;> simp_all
    rw [e]
    exact h.cell j hj)
end Go.Proofs.YtgnobpljnahceaaDoor
