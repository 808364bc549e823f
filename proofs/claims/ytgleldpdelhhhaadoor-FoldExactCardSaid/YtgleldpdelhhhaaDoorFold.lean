/- Package fold: constants as values, and what its small funcs answer; conditions: none but that numbers are of 64 bits. -/
import Derived.Test.YtgleldpdelhhhaaDoorWideC
import Derived.Test.YtgleldpdelhhhaaDoorWideA
namespace Go.Proofs.YtgleldpdelhhhaaDoor
open Go.RowKit Go.WideShapes Go.ChangeShapes
set_option linter.unusedVariables false
set_option maxRecDepth 100000

/-- Blocks of the call's own, the youngest first. -/
structure CB (w : World) (gs : List (Nat × TypeId × Array Value)) (wr : World) : Prop where
  bl : ∀ p ∈ gs, Blk wr p.1 p.2.1 p.2.2
  low : Below w.heap.size w wr
theorem CB.nil (w : World) : Hid (CB w [] w) := hide ⟨fun p hp => (by cases hp), Below.refl _ _⟩
theorem CB.next {w W W' : World} {gs : List (Nat × TypeId × Array Value)} (hb : Below W.heap.size W W') (h : Hid (CB w gs W)) : Hid (CB w gs W') :=
  hide ⟨fun p hp => (h.out.bl p hp).below hb (h.out.bl p hp).lt, h.out.low.trans (hb.mono h.out.low.size)⟩
theorem CB.at_ {w W : World} {gs : List (Nat × TypeId × Array Value)} (h : Hid (CB w gs W)) {g : Nat} {t : TypeId} {cs : Array Value} (hg : (g, t, cs) ∈ gs) : Blk W g t cs := h.out.bl _ hg
theorem CB.add {w W : World} {gs : List (Nat × TypeId × Array Value)} (t : TypeId) (cs : Array Value) (h : Hid (CB w gs W)) : Hid (CB w ((W.heap.size, t, cs) :: gs) (W.alloc (.cells cs t))) :=
  hide ⟨fun p hp => by
    rcases List.mem_cons.1 hp with rfl | hp
    · exact Blk.new _ _ _
    · exact (h.out.bl p hp).alloc _, h.out.low.alloc h.out.low.size _⟩
theorem CB.drew {w W : World} {gs : List (Nat × TypeId × Array Value)} (h : Hid (CB w gs W)) : Hid (CB w gs W.drew) := hide ⟨fun p hp => (h.out.bl p hp).drew, h.out.low.drew⟩

/-- A constant. -/
abbrev kon (k h l : Int) (b : Bool) (s : ByteArray) : Value := .agg #[.int .i64 k, .int .u64 h, .int .u64 l, .bool b, .string s]
abbrev konA (k h l : Int) (b : Bool) (s : ByteArray) : Array Value := #[.int .i64 k, .int .u64 h, .int .u64 l, .bool b, .string s]
theorem kon_size : (Tryd.prog.info? 26).map (·.size) = some 5 := by kernel_rfl
theorem kon_und : ((Tryd.prog.underlying 26).map fun d => (match d with | .struct _ | .array _ _ => true | _ => false)) = some true := by kernel_rfl
theorem ret_k {fn : Func} {t : Tmp} (hf : fn.results = #[.cell t 26]) {R : Ending → World → Prop} {a : Act} {wf : World} {g : Nat} {k h l : Int} {b : Bool} {s : ByteArray} (hp : a.tmps.getD t undef = .pointer (some ⟨g, 0, none⟩)) (hd : a.defers = [])
    (hb : Blk wf g 26 (konA k h l b s)) (hr : R (.returned (kon k h l b s)) wf) : bodyPost Tryd.prog fn R .ret a wf := by
  have hu := kon_und
  cases hq : Tryd.prog.underlying 26 with
  | none => rw [hq] at hu; cases hu
  | some d =>
    rw [hq] at hu
    exact bodyPost_ret (results_cell_row hf _ _ _ _ _ _ d hp hb hq (by cases d <;> simp_all) kon_size) hd hr
theorem ret_kt {fn : Func} {t p : Tmp} (hf : fn.results = #[.cell t 26, .tmp p]) {R : Ending → World → Prop} {a : Act} {wf : World} {g : Nat} {k h l : Int} {b : Bool} {s : ByteArray} {v : Value} (hp : a.tmps.getD t undef = .pointer (some ⟨g, 0, none⟩)) (hs : a.tmps.getD p undef = v) (hd : a.defers = [])
    (hb : Blk wf g 26 (konA k h l b s)) (hr : R (.returned (.tuple #[kon k h l b s, v])) wf) : bodyPost Tryd.prog fn R .ret a wf := by
  have hu := kon_und
  cases hq : Tryd.prog.underlying 26 with
  | none => rw [hq] at hu; cases hu
  | some d =>
    rw [hq] at hu
    have h := results_cell_tmp hf a.tmps wf _ _ _ _ d hp hb hq (by cases d <;> simp_all) kon_size
    rw [hs] at h
    exact bodyPost_ret h hd hr

theorem truth_any (b : Bool) (w : World) : Calls Tryd.prog 22 #[.bool b] w fun e w' => e = .returned (kon 2 0 0 b ⟨#[]⟩) ∧ Below w.heap.size w w' := by
  go_enter Tryd.func22, Tryd.ntmps22
  go_wp2_with fail
  exact ret_k rfl rfl rfl (Blk.new _ _ _) ⟨rfl, (Below.refl _ _).alloc (Nat.le_refl _) _⟩
theorem text_any (s : ByteArray) (w : World) : Calls Tryd.prog 18 #[.string s] w fun e w' => e = .returned (kon 3 0 0 false s) ∧ Below w.heap.size w w' := by
  go_enter Tryd.func18, Tryd.ntmps18
  go_wp2_with fail
  exact ret_k rfl rfl rfl (Blk.new _ _ _) ⟨rfl, (Below.refl _ _).alloc (Nat.le_refl _) _⟩
theorem number_any (h l : Int) (w : World) : Calls Tryd.prog 40 #[wv h l] w fun e w' => e = .returned (kon 1 h l false ⟨#[]⟩) ∧ Below w.heap.size w w' := by
  go_enter Tryd.func40, Tryd.ntmps40
  go_wp2_with fail
  exact ret_k rfl rfl rfl (blk_at1 _ _ _) ⟨rfl, below2 _ _ _⟩
theorem none_any (e : Int) (w : World) : Calls Tryd.prog 23 #[.int .i64 e] w fun r w' => r = .returned (.tuple #[kon 0 0 0 false ⟨#[]⟩, .int .i64 e]) ∧ Below w.heap.size w w' := by
  go_enter Tryd.func23, Tryd.ntmps23
  go_wp2_with fail
  exact ret_kt rfl rfl rfl rfl (Blk.new _ _ _) ⟨rfl, (Below.refl _ _).alloc (Nat.le_refl _) _⟩
end Go.Proofs.YtgleldpdelhhhaaDoor
