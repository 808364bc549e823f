/- What the calls of package scope do, each by a contract: hasScope, isKind, Here, Find, Open; conditions: the scopes are ones of the call's own. -/
import Derived.Test.YtllddgfmjmblmaaScope
import Derived.Deep.RegionHeld3
import Derived.Deep.RegionLaw
namespace Go.Proofs.Ytllddgfmjmblmaa
open Go.RowKit Go.WideShapes Go.ChangeShapes
set_option linter.unusedVariables false
set_option maxRecDepth 100000

/-- An object as data. -/
structure ObjV where
  k : Int
  name : ByteArray
  t : Int
  node : Int
  num : Int
  ck : Int
  hi : Int
  lo : Int
  b : Bool
  s : ByteArray
  f : Int
  l : Int
  c : Int
def ObjV.cells (o : ObjV) : List Value := [.int .i64 o.k, .string o.name, .int .i64 o.t, .int .i64 o.node, .int .i64 o.num, .int .i64 o.ck, .int .u64 o.hi, .int .u64 o.lo, .bool o.b, .string o.s, .int .i64 o.f, .int .i64 o.l, .int .i64 o.c]
def ObjV.val (o : ObjV) : Value := .agg #[.int .i64 o.k, .string o.name, .int .i64 o.t, .int .i64 o.node, .int .i64 o.num, .int .i64 o.ck, .int .u64 o.hi, .int .u64 o.lo, .bool o.b, .string o.s, .int .i64 o.f, .int .i64 o.l, .int .i64 o.c]
theorem objInfo : (Try.prog.info? 42).map (fun i => (i.zero, i.size, i.bytes)) = some (some (.agg #[.int .i64 0, .string ByteArray.empty, .int .i64 0, .int .i64 0, .int .i64 0, .int .i64 0, .int .u64 0, .int .u64 0, .bool false, .string ByteArray.empty, .int .i64 0, .int .i64 0, .int .i64 0]), 13, 120) := by kernel_rfl
theorem intInfo7 : (Try.prog.info? 3).map (fun i => (i.zero, i.size, i.bytes)) = some (some (.int .i64 0), 1, 8) := by kernel_rfl

/-- Scopes of the call's own: block b holds them. -/
structure SC (w : World) (B b gm : Nat) (vo vj : Value) (outer : List Int) (objs : List ObjV) (tbl : List ((Int × ByteArray) × Nat)) : Prop where
  bl : Blk w b 106 #[vo, vj, .map (some gm)]
  ou : w.ownsRow B 3 1 vo outer.length (outer.map (Value.int .i64))
  ob : w.ownsRow B 42 13 vj objs.length (objs.flatMap ObjV.cells)
  mp : MP w gm tbl
  bb : B ≤ b
  bm : B ≤ gm

theorem own_form7 {w : World} {B e s n : Nat} {v : Value} {xs : List Value} (h : w.ownsRow B e s v n xs) : ∃ A c, v = .slice A n c := by
  rcases h.2 with ⟨rfl, rfl⟩ | ⟨g, cap, cur, rfl, _⟩
  · exact ⟨_, _, rfl⟩
  · exact ⟨_, _, rfl⟩
theorem own_below7 {w w' : World} {B e s n : Nat} {v : Value} {xs : List Value} (h : w.ownsRow B e s v n xs) (hb : Below w.heap.size w w') : w'.ownsRow B e s v n xs :=
  h.kept (row := none) ⟨hb.os, hb.tape, hb.output, hb.size, fun i hi _ => hb.block i hi⟩ (by cases hv : v.ownBlock <;> simp)
theorem MP.lt {w : World} {b : Nat} {tbl : List ((Int × ByteArray) × Nat)} (h : MP w b tbl) : b < w.heap.size := by
  obtain ⟨_, _, es, clock, hb, _⟩ := h
  exact (Array.getElem?_eq_some_iff.1 hb).1
theorem MP.same {w w' : World} {b : Nat} {tbl : List ((Int × ByteArray) × Nat)} (h : MP w b tbl) (hs : w'.heap[b]? = w.heap[b]?) : MP w' b tbl := by
  obtain ⟨h1, h2, es, clock, hb, h3⟩ := h
  exact ⟨h1, h2, es, clock, hs.trans hb, h3⟩

section
variable {w w' : World} {B b gm : Nat} {vo vj : Value} {outer : List Int} {objs : List ObjV} {tbl : List ((Int × ByteArray) × Nat)}
theorem SC.below (h : SC w B b gm vo vj outer objs tbl) (hb : Below w.heap.size w w') : SC w' B b gm vo vj outer objs tbl :=
  ⟨h.bl.below hb h.bl.lt, own_below7 h.ou hb, own_below7 h.ob hb, h.mp.same (hb.block _ h.mp.lt), h.bb, h.bm⟩
theorem SC.drewN (h : SC w B b gm vo vj outer objs tbl) (q : Nat) : SC (w.drewN q) B b gm vo vj outer objs tbl := ⟨h.bl.drewN q, h.ou, h.ob, h.mp, h.bb, h.bm⟩
theorem SC.cells (h : SC w B b gm vo vj outer objs tbl) : w.cell? ⟨b, 0, none⟩ = some vo ∧ w.cell? ⟨b, 1, none⟩ = some vj ∧ w.cell? ⟨b, 2, none⟩ = some (.map (some gm)) := ⟨h.bl.cell 0, h.bl.cell 1, h.bl.cell 2⟩

theorem ret_b7 {a b : Bool} (h : a = b) : Ending.returned (.bool a) = Ending.returned (.bool b) := by rw [h]
/-- Whether there is such a scope. -/
def hasB (n : Nat) (at' : Int) : Bool := decide (1 ≤ at' ∧ at' ≤ n)

set_option maxHeartbeats 1000000 in
theorem has_scope (h : SC w B b gm vo vj outer objs tbl) (at' : Int) :
    Calls Try.prog 53 #[.pointer (some ⟨b, 0, none⟩), .int .i64 at'] w fun e w' => e = .returned (.bool (hasB outer.length at')) ∧ w = w' := by
  obtain ⟨c0, c1, c2⟩ := h.cells
  obtain ⟨A, c, rfl⟩ := own_form7 h.ou
  clear h
  obtain ⟨r, hr⟩ : ∃ r, r = hasB outer.length at' := ⟨_, rfl⟩
  rw [← hr]
  have HRB := hide hr
  clear hr
  go_enter Try.func53, Try.ntmps53
  go_wp2_with fail
  all_goals go_ret
  all_goals exact ⟨ret_b7 (by rw [HRB.out]; unfold hasB; first | (apply decide_eq_decide.2; omega) | (symm; apply decide_eq_false; omega)), rfl⟩

theorem is_kind (k : Int) (w : World) : Calls Try.prog 55 #[.int .i64 k] w fun e w' => e = .returned (.bool (decide (1 ≤ k ∧ k ≤ 9))) ∧ w = w' := by
  obtain ⟨r, hr⟩ : ∃ r, r = decide (1 ≤ k ∧ k ≤ 9) := ⟨_, rfl⟩
  rw [← hr]
  have HRB := hide hr
  clear hr
  go_enter Try.func55, Try.ntmps55
  go_wp2_with fail
  all_goals go_ret
  all_goals exact ⟨ret_b7 (by rw [HRB.out]; first | (apply decide_eq_decide.2; omega) | (symm; apply decide_eq_false; omega)), rfl⟩

set_option maxHeartbeats 1000000 in
theorem here_any (h : SC w B b gm vo vj outer objs tbl) (at' : Int) (name : ByteArray) (hk : KeyOk (at', name)) :
    Calls Try.prog 18 #[.pointer (some ⟨b, 0, none⟩), .int .i64 at', .string name] w fun e w' => e = .returned (looked (look tbl (at', name))) ∧ w = w' := by
  obtain ⟨c0, c1, c2⟩ := h.cells
  have hl := map_look h.mp hk
  unfold keyV looked at hl
  simp only at hl
  unfold looked
  obtain ⟨r, hr⟩ : ∃ r : Int, r = (((look tbl (at', name)).getD 0 : Nat) : Int) := ⟨_, rfl⟩
  obtain ⟨ok, hok⟩ : ∃ ok : Bool, ok = (look tbl (at', name)).isSome := ⟨_, rfl⟩
  rw [← hr, ← hok] at hl ⊢
  clear h hr hok
  go_enter Try.func18, Try.ntmps18
  go_wp2_with fail
  go_ret2
  exact ⟨rfl, rfl⟩
end

end Go.Proofs.Ytllddgfmjmblmaa
