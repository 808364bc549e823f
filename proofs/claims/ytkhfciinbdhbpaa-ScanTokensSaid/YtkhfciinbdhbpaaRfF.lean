/- The reference's Tokens; conditions: the text's size. -/
import Derived.Test.YtkhfciinbdhbpaaRfE
namespace Go.Proofs.Ytkhfciinbdhbpaa
open Go.RowKit Go.WideShapes Go.ChangeShapes
set_option linter.unusedVariables false
set_option linter.unusedSimpArgs false
set_option maxRecDepth 100000

set_option maxHeartbeats 2000000 in
theorem rtok_long (f : Int) (s : ByteArray) (hs : 65536 < s.size) (w : World) :
    Calls Try.prog 10 #[.int .i64 f, .string s] w fun e w' => e = .returned (.tuple #[.slice none 0 0, .int .i64 3, .agg (posA f 1 1)]) ∧ Below w.heap.size w w' := by
  obtain ⟨rb, hrb⟩ : ∃ n, n = w.heap.size := ⟨_, rfl⟩
  obtain ⟨W0, hW0⟩ : ∃ W : World, W = w.alloc (.cells (posA 0 0 0) 26) := ⟨_, rfl⟩
  have hB : Blk W0 rb 26 (posA 0 0 0) := by rw [hW0, hrb]; exact Blk.new _ _ _
  have hBW : Below w.heap.size w W0 := by rw [hW0]; exact (Below.refl _ _).alloc (Nat.le_refl _) _
  have HB := hide hB
  have HBW := hide hBW
  have HRB := hide hrb
  have HW := hide hW0
  have i1 : (65536 : Int) < (s.size : Int) := by omega
  clear hB hBW hrb hW0
  go_enter Try.func10, Try.ntmps10
  go_wp2_with fail
  refine ret_ttp (v := .slice none 0 0) (v2 := .int .i64 3) rfl rfl rfl rfl rfl (Blk.new w 26 (posA f 1 1)) ⟨rfl, (Below.refl _ _).alloc (Nat.le_refl _) _⟩

theorem ne_after {v v' : Value} {g n : Nat} (h : v'.ownBlock = v.ownBlock ∨ v'.ownBlock = some n) (hne : v.ownBlock ≠ some g) (hn : g < n) : v'.ownBlock ≠ some g := by
  rcases h with h | h
  · rw [h]; exact hne
  · rw [h]
    intro e
    injection e with e
    omega
theorem own_setRow {w : World} {B e sz n g : Nat} {v : Value} {xs : List Value} (h : w.ownsRow B e sz v n xs) (hn : v.ownBlock ≠ some g) (cs : Array Value) : (w.setRow g cs).ownsRow B e sz v n xs := by
  obtain ⟨h1, h2⟩ := h
  refine ⟨h1, ?_⟩
  rcases h2 with h2 | ⟨g', cap, cur, hv, hg, hh, r⟩
  · exact .inl h2
  · subst hv
    exact .inr ⟨g', cap, cur, rfl, hg, (setRow_other w g g' cs (fun e => hn (by simp [Value.ownBlock, e]))).trans hh, r⟩
theorem blk_setRow {w : World} {g : Nat} {t : TypeId} {old : Array Value} (h : Blk w g t old) (cs : Array Value) : Blk (w.setRow g cs) g t cs := setRow_heap w g old cs t (0, 0) h
theorem far_setRow {w : World} {g g' : Nat} {t : TypeId} {old : Array Value} (h : Blk w g' t old) (hne : g' ≠ g) (cs : Array Value) : Blk (w.setRow g cs) g' t old := (setRow_other w g g' cs hne).trans h
theorem below_row {B g : Nat} {w0 w : World} (hb : Below B w0 w) (hg : B ≤ g) (cs : Array Value) : Below B w0 (w.setRow g cs) :=
  ⟨hb.os, hb.tape, hb.output, by rw [size_setRow]; exact hb.size, fun k hk => (setRow_other w g k cs (by omega)).trans (hb.block k hk)⟩
theorem tokP_all (k : Int) (t : ByteArray) (f a b : Int) : (tokP k t f a b).all (·.oneCell') = true := by simp [Value.oneCell']
theorem tokP_size (k : Int) (t : ByteArray) (f a b : Int) : (Try.prog.info? 41).map (·.size) = some (tokP k t f a b).size := tok_size
theorem step_tok {ops : Array Oper} {rest : List Oper} {o : Oper} {a : Act} {w : World} {Q : Exit → Act → World → Prop} (hgd : o.guard = none) (x y : Operand) (ho : o.op = .store 41 x y)
    (hd : o.dst = none) {g : Nat} {k k0 : Int} {t t0 : ByteArray} {f p q f0 p0 q0 : Int} (hx : a.eval x = .pointer (some ⟨g, 0, none⟩)) (hy : a.eval y = .agg (tokP k t f p q))
    (hg : Blk w g 41 (tokP k0 t0 f0 p0 q0)) {w' : World} (hw : w' = w.setRow g (tokP k t f p q))
    (h : wpList Try.prog ops Q rest a w') : wpList Try.prog ops Q (o :: rest) a w :=
  wpList_store_row hgd 41 x y ho g (tokP k t f p q) hx hy 41 (tokP k0 t0 f0 p0 q0) hg (tokP_size k t f p q) rfl (tokP_all k t f p q) (by rw [← hw, hd]; exact h)
theorem gapR_zero {l : Bs} {nl : Bool} (h : gapR l = some (0, nl)) : nl = false := by
  cases l with
  | nil => simp [gapR] at h; exact h
  | cons b l =>
    rw [gapR_cons] at h
    split at h
    · cases h
    split at h
    · cases h
    split at h
    · injection h with h; injection h with _ h; exact h.symm
    split at h
    · cases hc : cend l.tail with
      | none => rw [hc] at h; cases h
      | some n => rw [hc] at h; injection h with h; injection h with h _; omega
    · injection h with h; injection h with _ h; exact h.symm

end Go.Proofs.Ytkhfciinbdhbpaa
