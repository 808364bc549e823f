/- What ScopeExact answers; conditions: none but that the arguments can be read as data. -/
import Derived.Test.YtllddgfmjmblmaaScK
import Derived.Laws.StructEq
namespace Go.Proofs.Ytllddgfmjmblmaa
open Go.RowKit Go.WideShapes Go.ChangeShapes
set_option linter.unusedVariables false
set_option maxRecDepth 100000

theorem blk_st13 {W : World} {g : Nat} {t : TypeId} {o : ObjV} (h : Blk W g t zeroO.arr) : Blk (st13 W g 0 o) g t o.arr := by
  have h0 := h.set_ 0 (.int .i64 o.k)
  have h1 := h0.set_ 1 (.string o.name)
  have h2 := h1.set_ 2 (.int .i64 o.t)
  have h3 := h2.set_ 3 (.int .i64 o.node)
  have h4 := h3.set_ 4 (.int .i64 o.num)
  have h5 := h4.set_ 5 (.int .i64 o.ck)
  have h6 := h5.set_ 6 (.int .u64 o.hi)
  have h7 := h6.set_ 7 (.int .u64 o.lo)
  have h8 := h7.set_ 8 (.bool o.b)
  have h9 := h8.set_ 9 (.string o.s)
  have ha := h9.set_ 10 (.int .i64 o.f)
  have hb := ha.set_ 11 (.int .i64 o.l)
  have hc := hb.set_ 12 (.int .i64 o.c)
  simp [zeroO] at hc
  unfold st13
  simpa using hc
set_option maxHeartbeats 1000000 in
theorem obj_neq (o : ObjV) (W : World) : (binOp .neq 42 (.agg o.arr) (.agg o.arr)).run Try.prog W = .ok (.bool false) W := by
  rw [run_neq_struct]
  go_simp
def RN (w : World) (B : Nat) (A : Option Addr) (n : Nat) (xs : List ByteArray) : Prop := xs.length = n ∧ Reads w B 1 A n (xs.flatMap fun s => [Value.string s]) ∧ ∀ x ∈ xs, x.size ≤ maxLen
theorem RN.below {w w' : World} {B n : Nat} {A : Option Addr} {xs : List ByteArray} (h : RN w B A n xs) (hb : Below B w w') : RN w' B A n xs := ⟨h.1, h.2.1.below hb, h.2.2⟩
theorem RN.at_ {w : World} {B n : Nat} {A : Option Addr} {xs : List ByteArray} (h : RN w B A n xs) {k : Nat} (hk : k < n) :
    ∃ (rb ro : Nat) (s : ByteArray), A = some ⟨rb, ro, none⟩ ∧ rb < B ∧ w.cell? ⟨rb, ro + k, none⟩ = some (.string s) ∧ s.size ≤ maxLen := by
  obtain ⟨b, off, e, hb, hc⟩ := h.2.1.spot (by omega) (by omega)
  have hl : k < xs.length := by have := h.1; omega
  refine ⟨b, off, xs[k], e, hb, hc _ _ ?_, h.2.2 _ (List.getElem_mem hl)⟩
  have := at_flat (f := fun s => [Value.string s]) (s := 1) (fun _ => rfl) xs k _ (List.getElem?_eq_getElem hl) 0 _ rfl
  simpa using this

theorem RS.lcell {w : World} {B r n gl cl : Nat} {xo xi xl : Value} {outer ins : List Int} {objs : List ObjV} (h : RS w B r xo xi xl outer ins objs) (hxl : xl = .slice (some ⟨gl, 0, none⟩) n cl) (q : Nat) (o : ObjV) (hx : objs[q]? = some o) (j : Nat) (u : Value) (hu : o.cells[j]? = some u) :
    w.cell? ⟨gl, (q + 1) * 13 + j, none⟩ = some u := by
  obtain ⟨gl2, cl2, hv, _, _, hcc⟩ := own_cell h.ob (by omega)
  rw [hxl] at hv
  obtain rfl : gl = gl2 := by
    injection hv with hv _ _
    injection hv with hv
    injection hv
  exact hcc _ _ (objects_at (zeroO :: objs) (q + 1) o (by rw [List.getElem?_cons_succ]; exact hx) j u hu)
/-- Both, and old memory as it was. -/
structure BO (w0 : World) (B b r gm : Nat) (vo vj xo xi xl : Value) (outer ins : List Int) (objs : List ObjV) (tbl : List ((Int × ByteArray) × Nat)) (W : World) : Prop where
  sc : SC W B b gm vo vj outer objs tbl
  rs : RS W B r xo xi xl outer ins objs
  be : Below w0.heap.size w0 W
section
variable {w0 w w' : World} {B b r gm : Nat} {vo vj xo xi xl : Value} {outer ins : List Int} {objs : List ObjV} {tbl : List ((Int × ByteArray) × Nat)}
theorem BO.below (h : BO w0 B b r gm vo vj xo xi xl outer ins objs tbl w) (hb : Below w.heap.size w w') : BO w0 B b r gm vo vj xo xi xl outer ins objs tbl w' := ⟨h.sc.below hb, h.rs.below hb, h.be.trans (hb.mono h.be.size)⟩
theorem BO.drewN (h : BO w0 B b r gm vo vj xo xi xl outer ins objs tbl w) (q : Nat) : BO w0 B b r gm vo vj xo xi xl outer ins objs tbl (w.drewN q) := ⟨h.sc.drewN q, h.rs.drewN q, below_drewN h.be q⟩
theorem BO.st13 (h : BO w0 B b r gm vo vj xo xi xl outer ins objs tbl w) (o : ObjV) (g : Nat) (hn : g ∉ fpS b gm vo vj) (hm : g ∉ fpR r xo xi xl) (hl : w0.heap.size ≤ g) : BO w0 B b r gm vo vj xo xi xl outer ins objs tbl (st13 w g 0 o) :=
  ⟨h.sc.fr (L := [g]) (fr_st13 (Fr.refl _ _) (by simp) _ _) (fun x hx hx' => by simp at hx'; subst hx'; exact hn hx), h.rs.fr (L := [g]) (fr_st13 (Fr.refl _ _) (by simp) _ _) (fun x hx hx' => by simp at hx'; subst hx'; exact hm hx), below_st13 h.be hl _ _⟩
/-- What Object answers. -/
def objO (objs : List ObjV) (z : Int) : ObjV := if hasB objs.length z then objs.getD (z - 1).toNat zeroO else zeroO
theorem object_z (h : SC w B b gm vo vj outer objs tbl) (z : Int) (hn : objs.length ≤ 70000) :
    Calls Try.prog 12 #[.pointer (some ⟨b, 0, none⟩), .int .i64 z] w fun e w' => e = .returned (objO objs z).val ∧ Below w.heap.size w w' := by
  unfold objO
  cases hz : hasB objs.length z with
  | false => exact object_no h z hz
  | true =>
    rw [hasB_iff] at hz
    have hl : (z - 1).toNat < objs.length := by omega
    have hx := List.getElem?_eq_getElem hl
    have e : objs.getD (z - 1).toNat zeroO = objs[(z - 1).toNat] := by rw [List.getD_eq_getElem?_getD, hx]; rfl
    have := object_at h (z - 1).toNat _ hx hn
    rw [show (((z - 1).toNat : Nat) : Int) + 1 = z by omega] at this
    rw [if_pos rfl, e]
    exact this
structure DS (w0 : World) (B b r gm : Nat) (vo vj xo xi xl : Value) (outer ins : List Int) (objs : List ObjV) (tbl : List ((Int × ByteArray) × Nat)) (g : Nat) (o : ObjV) (W : World) : Prop where
  bo : BO w0 B b r gm vo vj xo xi xl outer ins objs tbl W
  bl : Blk W g 42 o.arr
theorem DS.cells {g : Nat} {o : ObjV} {W : World} (h : DS w0 B b r gm vo vj xo xi xl outer ins objs tbl g o W) :
    W.cell? ⟨g, 0, none⟩ = some (.int .i64 o.k) ∧ W.cell? ⟨g, 1, none⟩ = some (.string o.name) ∧ W.cell? ⟨g, 2, none⟩ = some (.int .i64 o.t) ∧ W.cell? ⟨g, 3, none⟩ = some (.int .i64 o.node) ∧ W.cell? ⟨g, 4, none⟩ = some (.int .i64 o.num) ∧ W.cell? ⟨g, 5, none⟩ = some (.int .i64 o.ck) ∧ W.cell? ⟨g, 6, none⟩ = some (.int .u64 o.hi) ∧ W.cell? ⟨g, 7, none⟩ = some (.int .u64 o.lo) ∧ W.cell? ⟨g, 8, none⟩ = some (.bool o.b) ∧ W.cell? ⟨g, 9, none⟩ = some (.string o.s) ∧ W.cell? ⟨g, 10, none⟩ = some (.int .i64 o.f) ∧ W.cell? ⟨g, 11, none⟩ = some (.int .i64 o.l) ∧ W.cell? ⟨g, 12, none⟩ = some (.int .i64 o.c) := ⟨h.bl.cell 0, h.bl.cell 1, h.bl.cell 2, h.bl.cell 3, h.bl.cell 4, h.bl.cell 5, h.bl.cell 6, h.bl.cell 7, h.bl.cell 8, h.bl.cell 9, h.bl.cell 10, h.bl.cell 11, h.bl.cell 12⟩
theorem DS.drew {g : Nat} {o : ObjV} {W : World} (h : DS w0 B b r gm vo vj xo xi xl outer ins objs tbl g o W) : DS w0 B b r gm vo vj xo xi xl outer ins objs tbl g o W.drew := ⟨h.bo.drewN 1, h.bl.drew⟩
theorem DS.call {g : Nat} {o : ObjV} {z : Int} {v : Value} (hv : o.val = v) (ho : objO objs z = o) (hn : objs.length ≤ 70000) (W : World) (h : DS w0 B b r gm vo vj xo xi xl outer ins objs tbl g o W) :
    Calls Try.prog 12 #[.pointer (some ⟨b, 0, none⟩), .int .i64 z] W fun e W' => e = .returned v ∧ DS w0 B b r gm vo vj xo xi xl outer ins objs tbl g o W' := by
  refine (object_z h.bo.sc z hn).mono ?_
  rintro e w' ⟨rfl, hb⟩
  rw [ho, hv]
  exact ⟨rfl, h.bo.below hb, h.bl.below hb h.bl.lt⟩
end

theorem bool3 {x : Int} {b : Bool} (h : b = decide (x ≠ 0)) : decide (x = 0) = (!b) ∧ (x == 0) = (!b) ∧ (x != 0) = b := by
  subst h
  by_cases e : x = 0
  · subst e; exact ⟨rfl, rfl, rfl⟩
  · have h1 : decide (x = 0) = false := decide_eq_false e
    have h2 : (x == 0) = false := h1
    have h3 : decide (x ≠ 0) = true := decide_eq_true e
    refine ⟨by rw [h1, h3]; rfl, by rw [h2, h3]; rfl, by unfold bne; rw [h2, h3]; rfl⟩
section
variable {w0 wr : World} {B b r gm : Nat} {vo vj xo xi xl : Value} {outer ins : List Int} {objs : List ObjV} {tbl : List ((Int × ByteArray) × Nat)}
theorem names_any {n : Nat} (hI : Inv n outer ins objs tbl) (hb : BO w0 B b r gm vo vj xo xi xl outer ins objs tbl wr) (hn : objs.length ≤ 70000) (ho : outer.length ≤ 70000) (z : Int) (nm : ByteArray) (hkey : KeyOk (z, nm)) :
    ∃ (fi fa : Int) (fs : Bool) (li : Int) (ls : Bool), fs = decide (fi ≠ 0) ∧ ls = decide (li ≠ 0) ∧
      (Calls Try.prog 16 #[.pointer (some ⟨b, 0, none⟩), .int .i64 z, .string nm] wr fun e w' => e = .returned (.tuple #[.int .i64 fi, .int .i64 fa, .bool fs]) ∧ ∃ q, w' = wr.drewN q) ∧
      (∀ q, Calls Try.prog 17 #[.pointer (some ⟨r, 0, none⟩), .int .i64 z, .string nm] (wr.drewN q) fun e w' => e = .returned (.tuple #[.int .i64 fi, .int .i64 fa]) ∧ wr.drewN q = w') ∧
      (∀ q, Calls Try.prog 18 #[.pointer (some ⟨b, 0, none⟩), .int .i64 z, .string nm] (wr.drewN q) fun e w' => e = .returned (.tuple #[.int .i64 li, .bool ls]) ∧ wr.drewN q = w') ∧
      (∀ q, Calls Try.prog 19 #[.pointer (some ⟨r, 0, none⟩), .int .i64 z, .string nm] (wr.drewN q) fun e w' => e = .returned (.int .i64 li) ∧ wr.drewN q = w') := by
  refine ⟨fnI (find outer tbl nm z), fnA (find outer tbl nm z), (find outer tbl nm z).isSome, lkI (look tbl (z, nm)), (look tbl (z, nm)).isSome, ?_, ?_, find_any hb.sc hI.ok ho z nm hkey, fun q => ref_find (hb.rs.drewN q) hI.lk hI.ok hn ho z nm, fun q => here_any (hb.sc.drewN q) z nm hkey, fun q => ref_here (hb.rs.drewN q) hI.lk hn z nm⟩
  · cases hf : find outer tbl nm z with
    | none => rfl
    | some p =>
      have := (find_pos hI.ok hI.lk _ _ (Nat.le_refl _) p hf).1
      symm
      exact decide_eq_true (by simp [fnI]; omega)
  · cases hl : look tbl (z, nm) with
    | none => rfl
    | some i =>
      have := (hI.lk.some_ _ _ _ hl).1
      symm
      exact decide_eq_true (by simp [lkI]; omega)
theorem names_lt {n : Nat} (hI : Inv n outer ins objs tbl) (hb : BO w0 B b r gm vo vj xo xi xl outer ins objs tbl wr) (hn : objs.length ≤ 70000) (ho : outer.length ≤ 70000) (z : Int) (nm : ByteArray) (hkey : KeyOk (z, nm)) (hz : z < 1) :
    ∃ (fi fa : Int) (fs : Bool) (li : Int) (ls : Bool), fs = decide (fi ≠ 0) ∧ ls = decide (li ≠ 0) ∧ li = 0 ∧
      (Calls Try.prog 16 #[.pointer (some ⟨b, 0, none⟩), .int .i64 z, .string nm] wr fun e w' => e = .returned (.tuple #[.int .i64 fi, .int .i64 fa, .bool fs]) ∧ ∃ q, w' = wr.drewN q) ∧
      (∀ q, Calls Try.prog 17 #[.pointer (some ⟨r, 0, none⟩), .int .i64 z, .string nm] (wr.drewN q) fun e w' => e = .returned (.tuple #[.int .i64 fi, .int .i64 fa]) ∧ wr.drewN q = w') ∧
      (∀ q, Calls Try.prog 18 #[.pointer (some ⟨b, 0, none⟩), .int .i64 z, .string nm] (wr.drewN q) fun e w' => e = .returned (.tuple #[.int .i64 li, .bool ls]) ∧ wr.drewN q = w') ∧
      (∀ q, Calls Try.prog 19 #[.pointer (some ⟨r, 0, none⟩), .int .i64 z, .string nm] (wr.drewN q) fun e w' => e = .returned (.int .i64 li) ∧ wr.drewN q = w') := by
  have h0 : look tbl (z, nm) = none := look_none fun p hp e => by have := hI.ia p hp; rw [e] at this; simp at this; omega
  have hfi : (find outer tbl nm z).isSome = decide (fnI (find outer tbl nm z) ≠ 0) := by
    cases hf : find outer tbl nm z with
    | none => rfl
    | some p =>
      have := (find_pos hI.ok hI.lk _ _ (Nat.le_refl _) p hf).1
      symm
      exact decide_eq_true (by simp [fnI]; omega)
  have hh := fun q => here_any (hb.sc.drewN q) z nm hkey
  have hr := fun q => ref_here (hb.rs.drewN q) hI.lk hn z nm
  simp only [h0] at hh hr
  exact ⟨fnI (find outer tbl nm z), fnA (find outer tbl nm z), (find outer tbl nm z).isSome, 0, false, hfi, rfl, rfl, find_any hb.sc hI.ok ho z nm hkey, fun q => ref_find (hb.rs.drewN q) hI.lk hI.ok hn ho z nm, hh, hr⟩
end

def ExRel (w0 : World) (B b r gm : Nat) (vo vj xo xi xl : Value) (outer ins : List Int) (objs : List ObjV) (tbl : List ((Int × ByteArray) × Nat)) (top : Int) (i : Value) (wr : World) : Prop :=
  ∃ z : Int, -1 ≤ z ∧ z ≤ top ∧ i = .int .i64 z ∧ BO w0 B b r gm vo vj xo xi xl outer ins objs tbl wr
def NmRel (w0 : World) (B b r gm : Nat) (vo vj xo xi xl : Value) (outer ins : List Int) (objs : List ObjV) (tbl : List ((Int × ByteArray) × Nat)) (m : Nat) (i : Value) (wr : World) : Prop :=
  ∃ k : Nat, k ≤ m ∧ i = .int .i64 k ∧ BO w0 B b r gm vo vj xo xi xl outer ins objs tbl wr

set_option maxHeartbeats 4000000 in
theorem exact_law (n c m d : Nat) (A A2 : Option Addr) (xs : List ActV) (ns : List ByteArray) (w : World) (hR : RA w w.heap.size A n xs) (hn : n ≤ 9223372036854775807) (hN : RN w w.heap.size A2 m ns) (hm : m ≤ 9223372036854775807) :
    Calls Try.prog 3 #[.slice A n c, .slice A2 m d] w fun e w' => e = .returned (.bool true) ∧ Below w.heap.size w w' := by
  have HR := hide hR
  have HN := hide hN
  have hnn := hn
  clear hR hN
  go_enter Try.func3, Try.ntmps3
  go_wp2_with fail
  refine (awake07 _).mono ?_
  rintro e w1 ⟨rfl, hb1⟩
  have HB1 := hide hb1
  have HLD := hide (laid_any n c A xs w1 ((HR.out.below hb1).more hb1.size) hnn)
  clear hb1 hn hnn
  by_cases h10 : 10 < m
  · have h4 : decide (10 < (m : Int)) = true := decide_eq_true (by omega)
    go_wp2_with fail
    go_ret
    exact ⟨rfl, HB1.out⟩
  have h4 : decide (10 < (m : Int)) = false := decide_eq_false (by omega)
  go_wp2_with fail
  clear h4
  refine HLD.out.mono ?_
  rintro e w2 ⟨b, r, outer, ins, objs, tbl, rfl, hI, hL, hW⟩
  obtain ⟨gm, vo, vj, xo, xi, xl, hs, hr, ap⟩ := hL
  have hl1 := hI.l1
  have hl0 := hI.l0
  have hl2 := hI.l2
  have hlb : (outer.length : Int) ≤ 61 := by omega
  have hlb0 : (1 : Int) ≤ (outer.length : Int) := by omega
  have hlc : (objs.length : Int) ≤ 78 := by omega
  have hlc0 : (0 : Int) ≤ (objs.length : Int) := by omega
  obtain ⟨B, hB⟩ : ∃ B, B = w1.heap.size := ⟨_, rfl⟩
  have hwB : w.heap.size ≤ B := by rw [hB]; exact HB1.out.size
  rw [← hB] at hs hr hW
  have hbo : BO w B b r gm vo vj xo xi xl outer ins objs tbl w2 := ⟨hs, hr, HB1.out.trans (hW.mono hwB)⟩
  have HI := hide hI
  have HBO := hide hbo
  have HWB := hide hwB
  have HLN := hide (And.intro hl1 hl2)
  obtain ⟨A1, k1, hvj⟩ := own_form7 hs.ob
  obtain ⟨c0, c1, c2⟩ := hr.cells
  obtain ⟨go, co, hxo, ho1, ho2, _⟩ := own_cell hr.ou (by omega)
  obtain ⟨gl, cl, hxl, hg1, hg2, _⟩ := own_cell hr.ob (by omega)
  rw [hxo] at c0
  rw [hxl] at c2
  have HXO := hide hxo
  have HXL := hide hxl
  have HSL := hide (fun q => scope_len (hs.drewN q))
  clear hs hr ap hW HB1 HLD HR hI hl1 hl2 hB hwB hbo hvj hxo hxl ho1 ho2 hg1 hg2
  go_wp2_with fail
  go_quiet ((go_at_call 11; exact quiet_left (HSL.out _)))
  have HE0 := hide (show ExRel w B b r gm vo vj xo xi xl outer ins objs tbl ((objs.length : Int) + 2) (.int .i64 (-1)) (w2.drewN nq) from ⟨-1, by omega, by omega, rfl, HBO.out.drewN nq⟩)
  clear HSL HBO c0 c1 c2
  go_wp2_with fail
  go_loopw [8] (fun i wr => ExRel w B b r gm vo vj xo xi xl outer ins objs tbl ((objs.length : Int) + 2) i wr) (fun i _ => ((objs.length : Int) + 2 - intOf i).toNat)
  case atStart => exact HE0.out
  case round =>
    obtain ⟨z, hz1, hz2, rfl, hbo⟩ := hrel
    obtain ⟨c0, c1, c2⟩ := hbo.rs.cells
    rw [HXO.out] at c0
    rw [HXL.out] at c2
    have HBO := hide hbo
    by_cases hlt : z ≤ (objs.length : Int) + 1
    · have s0 : decide (z ≤ (objs.length : Int) + 1) = true := decide_eq_true hlt
      obtain ⟨W1, hW1⟩ : ∃ W, W = wr.alloc (.cells zeroO.arr 42) := ⟨_, rfl⟩
      obtain ⟨g, hg⟩ : ∃ g, g = wr.heap.size := ⟨_, rfl⟩
      have hB1 : Blk W1 g 42 zeroO.arr := by rw [hW1, hg]; exact Blk.new _ _ _
      have hbo1 : BO w B b r gm vo vj xo xi xl outer ins objs tbl W1 := by rw [hW1]; exact hbo.below ((Below.refl _ _).alloc (Nat.le_refl _) _)
      have HGN := hide (show g ∉ fpS b gm vo vj from fun x => by have := (hbo.sc.fp g x).2; omega)
      have HGM := hide (show g ∉ fpR r xo xi xl from fun x => by have := (hbo.rs.fp g x).2; omega)
      have HGL := hide (show w.heap.size ≤ g by rw [hg]; exact hbo.be.size)
      have HGE := hide hg
      have HBL := hide hB1
      have HBO1 := hide hbo1
      unfold zeroO ObjV.arr at hW1
      have HWE := hide hW1
      cases ha : hasB objs.length z with
      | false =>
        have hob : objO objs z = zeroO := by unfold objO; rw [ha]; rfl
        have HOB := hide (fun W h => DS.call (w0 := w) (B := B) (b := b) (r := r) (gm := gm) (vo := vo) (vj := vj) (xo := xo) (xi := xi) (xl := xl) (outer := outer) (ins := ins) (tbl := tbl) (g := g) (v := .agg #[.int .i64 0, .string ⟨#[]⟩, .int .i64 0, .int .i64 0, .int .i64 0, .int .i64 0, .int .u64 0, .int .u64 0, .bool false, .string ⟨#[]⟩, .int .i64 0, .int .i64 0, .int .i64 0]) rfl hob (by omega) W h)
        have hqn : ∀ W, (binOp .neq 42 (.agg #[.int .i64 0, .string ⟨#[]⟩, .int .i64 0, .int .i64 0, .int .i64 0, .int .i64 0, .int .u64 0, .int .u64 0, .bool false, .string ⟨#[]⟩, .int .i64 0, .int .i64 0, .int .i64 0]) (.agg #[.int .i64 0, .string ⟨#[]⟩, .int .i64 0, .int .i64 0, .int .i64 0, .int .i64 0, .int .u64 0, .int .u64 0, .bool false, .string ⟨#[]⟩, .int .i64 0, .int .i64 0, .int .i64 0])).run Try.prog W = .ok (.bool false) W := fun W => obj_neq zeroO W
        have hds : DS w B b r gm vo vj xo xi xl outer ins objs tbl g zeroO W1 := ⟨hbo1, hB1⟩
        have hd1 := hds.drew
        have hcase : z < 1 ∨ (1 ≤ z ∧ (objs.length : Int) + 1 ≤ z) := by
          have : ¬ (1 ≤ z ∧ z ≤ objs.length) := fun h => by rw [hasB_iff.2 h] at ha; cases ha
          omega
        clear hbo hW1 hg hB1 hbo1 ha hob
        rcases hcase with hc | ⟨hc, hc'⟩
        · have s1 : decide (1 ≤ z) = false := decide_eq_false (by omega)
          clear hc
          go_upto_region 14 with (fail)
          rw [← HWE.out]
          rw [← HGE.out]
          go_region_held3 (fun W => W.cell? ⟨g, 0, none⟩ = some (.int .i64 0) ∧ W.cell? ⟨g, 1, none⟩ = some (.string ⟨#[]⟩) ∧ W.cell? ⟨g, 2, none⟩ = some (.int .i64 0) ∧ W.cell? ⟨g, 3, none⟩ = some (.int .i64 0) ∧ W.cell? ⟨g, 4, none⟩ = some (.int .i64 0) ∧ W.cell? ⟨g, 5, none⟩ = some (.int .i64 0) ∧ W.cell? ⟨g, 6, none⟩ = some (.int .u64 0) ∧ W.cell? ⟨g, 7, none⟩ = some (.int .u64 0) ∧ W.cell? ⟨g, 8, none⟩ = some (.bool false) ∧ W.cell? ⟨g, 9, none⟩ = some (.string ⟨#[]⟩) ∧ W.cell? ⟨g, 10, none⟩ = some (.int .i64 0) ∧ W.cell? ⟨g, 11, none⟩ = some (.int .i64 0) ∧ W.cell? ⟨g, 12, none⟩ = some (.int .i64 0))
            (first
              | exact DS.cells hds
              | exact DS.cells (by assumption))
            (first
              | (go_at_call 12; (with_reducible refine (HOB.out _ ?hcd).mono ?_); (case hcd => assumption); rintro e wq ⟨rfl, hq⟩))
          have HE := hide (show ExRel w B b r gm vo vj xo xi xl outer ins objs tbl ((objs.length : Int) + 2) (.int .i64 (z + 1)) wq from ⟨_, by omega, by omega, rfl, hq.bo⟩)
          clear hq hds hd1
          go_wp2_with fail
          go_roundw
          case rel => exact HE.out
          case measure => simp [intOf]; omega
        · have s1 : decide (1 ≤ z) = true := decide_eq_true hc
          have s2 : decide (z < (objs.length : Int) + 1) = false := decide_eq_false (by omega)
          have s3 : decide (z < ((objs.length + 1 : Nat) : Int)) = false := decide_eq_false (by omega)
          have d2 : W1.cell? ⟨r, 2, none⟩ = some (.slice (some ⟨gl, 0, none⟩) (objs.length + 1) cl) := by have h := hds.bo.rs.cells.2.2; rwa [HXL.out] at h
          rw [HWE.out] at d2
          go_upto_region 14 with (fail)
          clear d2 hc hc'
          rw [← HWE.out]
          rw [← HGE.out]
          go_region_held3 (fun W => W.cell? ⟨g, 0, none⟩ = some (.int .i64 0) ∧ W.cell? ⟨g, 1, none⟩ = some (.string ⟨#[]⟩) ∧ W.cell? ⟨g, 2, none⟩ = some (.int .i64 0) ∧ W.cell? ⟨g, 3, none⟩ = some (.int .i64 0) ∧ W.cell? ⟨g, 4, none⟩ = some (.int .i64 0) ∧ W.cell? ⟨g, 5, none⟩ = some (.int .i64 0) ∧ W.cell? ⟨g, 6, none⟩ = some (.int .u64 0) ∧ W.cell? ⟨g, 7, none⟩ = some (.int .u64 0) ∧ W.cell? ⟨g, 8, none⟩ = some (.bool false) ∧ W.cell? ⟨g, 9, none⟩ = some (.string ⟨#[]⟩) ∧ W.cell? ⟨g, 10, none⟩ = some (.int .i64 0) ∧ W.cell? ⟨g, 11, none⟩ = some (.int .i64 0) ∧ W.cell? ⟨g, 12, none⟩ = some (.int .i64 0))
            (first
              | exact DS.cells hds
              | exact DS.cells (by assumption))
            (first
              | (go_at_call 12; (with_reducible refine (HOB.out _ ?hcd).mono ?_); (case hcd => assumption); rintro e wq ⟨rfl, hq⟩))
          have HE := hide (show ExRel w B b r gm vo vj xo xi xl outer ins objs tbl ((objs.length : Int) + 2) (.int .i64 (z + 1)) wq from ⟨_, by omega, by omega, rfl, hq.bo⟩)
          clear hq hds hd1
          go_wp2_with fail
          go_roundw
          case rel => exact HE.out
          case measure => simp [intOf]; omega
      | true =>
        have hz := ha
        rw [hasB_iff] at hz
        obtain ⟨q, hq⟩ : ∃ q : Nat, q = (z - 1).toNat := ⟨_, rfl⟩
        obtain rfl : z = (q : Int) + 1 := by omega
        have hql : q < objs.length := by omega
        obtain ⟨o, hoe⟩ : ∃ o, o = objs[q] := ⟨_, rfl⟩
        have hx : objs[q]? = some o := by rw [hoe]; exact List.getElem?_eq_getElem hql
        have hob : objO objs ((q : Int) + 1) = o := by
          unfold objO
          rw [ha, if_pos rfl, show ((q : Int) + 1 - 1).toNat = q by omega, List.getD_eq_getElem?_getD, hx]
          rfl
        have HOB := hide (fun W h => DS.call (w0 := w) (B := B) (b := b) (r := r) (gm := gm) (vo := vo) (vj := vj) (xo := xo) (xi := xi) (xl := xl) (outer := outer) (ins := ins) (tbl := tbl) (g := g) (v := .agg #[.int .i64 o.k, .string o.name, .int .i64 o.t, .int .i64 o.node, .int .i64 o.num, .int .i64 o.ck, .int .u64 o.hi, .int .u64 o.lo, .bool o.b, .string o.s, .int .i64 o.f, .int .i64 o.l, .int .i64 o.c]) rfl hob (by omega) W h)
        have hqn : ∀ W, (binOp .neq 42 (.agg #[.int .i64 o.k, .string o.name, .int .i64 o.t, .int .i64 o.node, .int .i64 o.num, .int .i64 o.ck, .int .u64 o.hi, .int .u64 o.lo, .bool o.b, .string o.s, .int .i64 o.f, .int .i64 o.l, .int .i64 o.c]) (.agg #[.int .i64 o.k, .string o.name, .int .i64 o.t, .int .i64 o.node, .int .i64 o.num, .int .i64 o.ck, .int .u64 o.hi, .int .u64 o.lo, .bool o.b, .string o.s, .int .i64 o.f, .int .i64 o.l, .int .i64 o.c])).run Try.prog W = .ok (.bool false) W := fun W => obj_neq o W
        have hbst := hbo1.st13 o g HGN.out HGM.out HGL.out
        have hblk : Blk (st13 W1 g 0 o) g 42 o.arr := blk_st13 hB1
        have hds : DS w B b r gm vo vj xo xi xl outer ins objs tbl g o (st13 W1 g 0 o) := ⟨hbst, hblk⟩
        have hla := hbo1.rs.lcell HXL.out q o hx
        have d2 : W1.cell? ⟨r, 2, none⟩ = some (.slice (some ⟨gl, 0, none⟩) (objs.length + 1) cl) := by have h := hbo1.rs.cells.2.2; rwa [HXL.out] at h
        have l0 := hla 0 _ rfl
        have l1 := hla 1 _ rfl
        have l2 := hla 2 _ rfl
        have l3 := hla 3 _ rfl
        have l4 := hla 4 _ rfl
        have l5 := hla 5 _ rfl
        have l6 := hla 6 _ rfl
        have l7 := hla 7 _ rfl
        have l8 := hla 8 _ rfl
        have l9 := hla 9 _ rfl
        have l10 := hla 10 _ rfl
        have l11 := hla 11 _ rfl
        have l12 := hla 12 _ rfl
        simp only [Nat.add_zero] at l0
        have s1 : decide (1 ≤ (q : Int) + 1) = true := decide_eq_true (by omega)
        have s2 : decide ((q : Int) + 1 < (objs.length : Int) + 1) = true := decide_eq_true (by omega)
        have s3 : (q : Int) < (objs.length : Int) := by omega
        have s4 : (q : Int) + 1 < (objs.length : Int) + 1 := by omega
        have s5 : (0 : Int) ≤ (q : Int) + 1 := by omega
        have hto : ((q : Int) + 1).toNat = q + 1 := by omega
        obtain ⟨W2, hW2⟩ : ∃ W, W = st13 W1 g 0 o := ⟨_, rfl⟩
        rw [← hW2] at hds
        unfold st13 at hW2
        simp only [Nat.zero_add] at hW2
        have HW2 := hide hW2
        have HDS := hide hds
        clear hW2 hbo hg hbo1 ha hob hbst hblk hds hla hx hoe hz hq hql hB1
        go_upto_region 12 with (fail)
        rw [← hW1]
        rw [← HGE.out]
        clear hW1
        have k0 := HBL.out.frozen 0
        have y0 := HBL.out.cell 0
        have f0 := HBL.out.frozen 0
        have y1 := HBL.out.cell 1
        have f1 := HBL.out.frozen 1
        have y2 := HBL.out.cell 2
        have f2 := HBL.out.frozen 2
        have y3 := HBL.out.cell 3
        have f3 := HBL.out.frozen 3
        have y4 := HBL.out.cell 4
        have f4 := HBL.out.frozen 4
        have y5 := HBL.out.cell 5
        have f5 := HBL.out.frozen 5
        have y6 := HBL.out.cell 6
        have f6 := HBL.out.frozen 6
        have y7 := HBL.out.cell 7
        have f7 := HBL.out.frozen 7
        have y8 := HBL.out.cell 8
        have f8 := HBL.out.frozen 8
        have y9 := HBL.out.cell 9
        have f9 := HBL.out.frozen 9
        have y10 := HBL.out.cell 10
        have f10 := HBL.out.frozen 10
        have y11 := HBL.out.cell 11
        have f11 := HBL.out.frozen 11
        have y12 := HBL.out.cell 12
        have f12 := HBL.out.frozen 12
        simp [zeroO] at y0 y1 y2 y3 y4 y5 y6 y7 y8 y9 y10 y11 y12
        go_upto_region 14 with (fail)
        rw [← HW2.out]
        have hds := HDS.out
        have hd1 := hds.drew
        clear y0 l0 f0 y1 l1 f1 y2 l2 f2 y3 l3 f3 y4 l4 f4 y5 l5 f5 y6 l6 f6 y7 l7 f7 y8 l8 f8 y9 l9 f9 y10 l10 f10 y11 l11 f11 y12 l12 f12 k0 d2
        go_region_held3 (fun W => W.cell? ⟨g, 0, none⟩ = some (.int .i64 o.k) ∧ W.cell? ⟨g, 1, none⟩ = some (.string o.name) ∧ W.cell? ⟨g, 2, none⟩ = some (.int .i64 o.t) ∧ W.cell? ⟨g, 3, none⟩ = some (.int .i64 o.node) ∧ W.cell? ⟨g, 4, none⟩ = some (.int .i64 o.num) ∧ W.cell? ⟨g, 5, none⟩ = some (.int .i64 o.ck) ∧ W.cell? ⟨g, 6, none⟩ = some (.int .u64 o.hi) ∧ W.cell? ⟨g, 7, none⟩ = some (.int .u64 o.lo) ∧ W.cell? ⟨g, 8, none⟩ = some (.bool o.b) ∧ W.cell? ⟨g, 9, none⟩ = some (.string o.s) ∧ W.cell? ⟨g, 10, none⟩ = some (.int .i64 o.f) ∧ W.cell? ⟨g, 11, none⟩ = some (.int .i64 o.l) ∧ W.cell? ⟨g, 12, none⟩ = some (.int .i64 o.c))
          (first
            | exact DS.cells hds
            | exact DS.cells (by assumption))
          (first
            | (go_at_call 12; (with_reducible refine (HOB.out _ ?hcd).mono ?_); (case hcd => assumption); rintro e wq ⟨rfl, hq⟩))
        have HE := hide (show ExRel w B b r gm vo vj xo xi xl outer ins objs tbl ((objs.length : Int) + 2) (.int .i64 ((q : Int) + 1 + 1)) wq from ⟨_, by omega, by omega, rfl, hq.bo⟩)
        clear hq hds hd1
        go_wp2_with fail
        go_roundw
        case rel => exact HE.out
        case measure => simp [intOf]; omega
    · obtain rfl : z = (objs.length : Int) + 2 := by omega
      have HE1 := hide (show ExRel w B b r gm vo vj xo xi xl outer ins objs tbl ((outer.length : Int) + 2) (.int .i64 (-1)) wr from ⟨-1, by omega, by omega, rfl, hbo⟩)
      have s9 : decide ((objs.length : Int) + 2 ≤ (objs.length : Int) + 1) = false := decide_eq_false (by omega)
      clear hbo HBO c0 c1 hz1 hz2 hlt
      go_wp2_with fail
      clear c2 s9
      go_loopw [10] (fun i wr => ExRel w B b r gm vo vj xo xi xl outer ins objs tbl ((outer.length : Int) + 2) i wr) (fun i _ => ((outer.length : Int) + 2 - intOf i).toNat)
      case atStart => exact HE1.out
      case round =>
        obtain ⟨z, hz1, hz2, rfl, hbo⟩ := hrel
        obtain ⟨c0, c1, c2⟩ := hbo.rs.cells
        rw [HXO.out] at c0
        have HB := hide hbo
        by_cases hlt : z ≤ (outer.length : Int) + 1
        · have s0 : decide (z ≤ (outer.length : Int) + 1) = true := decide_eq_true hlt
          have p1 := within_any hbo.sc HI.out.ok (by omega) z 1
          have p2 := within_any hbo.sc HI.out.ok (by omega) z 2
          have p3 := within_any hbo.sc HI.out.ok (by omega) 1 z
          have r1 := ref_within hbo.rs HI.out.ok (by omega) z 1
          have r2 := ref_within hbo.rs HI.out.ok (by omega) z 2
          have r3 := ref_within hbo.rs HI.out.ok (by omega) 1 z
          obtain ⟨t1, ht1⟩ : ∃ x, x = wth outer 1 z := ⟨_, rfl⟩
          obtain ⟨t2, ht2⟩ : ∃ x, x = wth outer 2 z := ⟨_, rfl⟩
          obtain ⟨t3, ht3⟩ : ∃ x, x = wth outer z 1 := ⟨_, rfl⟩
          rw [← ht1] at p1 r1
          rw [← ht2] at p2 r2
          rw [← ht3] at p3 r3
          have P1 := hide p1
          have P2 := hide p2
          have P3 := hide p3
          have R1 := hide r1
          have R2 := hide r2
          have R3 := hide r3
          clear p1 p2 p3 r1 r2 r3 ht1 ht2 ht3 c1 c2
          cases ha : hasB outer.length z with
          | false =>
            have HOUT := hide (outer_no hbo.sc z ha)
            have hcase : z < 1 ∨ (1 ≤ z ∧ (outer.length : Int) + 1 ≤ z) := by
              have : ¬ (1 ≤ z ∧ z ≤ outer.length) := fun h => by rw [hasB_iff.2 h] at ha; cases ha
              omega
            clear hbo
            rcases hcase with hc | ⟨hc, hc'⟩
            · have s1 : decide (1 ≤ z) = false := decide_eq_false (by omega)
              go_wp2_with fail
              refine HOUT.out.mono ?_
              rintro e w' ⟨rfl, rfl⟩
              go_wp2_with fail
              refine P1.out.mono ?_
              rintro e w' ⟨rfl, rfl⟩
              go_wp2_with fail
              refine R1.out.mono ?_
              rintro e w' ⟨rfl, rfl⟩
              go_wp2_with fail
              refine P2.out.mono ?_
              rintro e w' ⟨rfl, rfl⟩
              go_wp2_with fail
              refine R2.out.mono ?_
              rintro e w' ⟨rfl, rfl⟩
              go_wp2_with fail
              refine P3.out.mono ?_
              rintro e w' ⟨rfl, rfl⟩
              go_wp2_with fail
              refine R3.out.mono ?_
              rintro e w' ⟨rfl, rfl⟩
              clear HOUT P1 R1 P2 R2 P3 R3 c0
              go_wp2_with fail
              go_loopw [12] (fun i wr2 => NmRel w B b r gm vo vj xo xi xl outer ins objs tbl m i wr2) (fun i _ => m - (intOf i).toNat)
              case atStart => exact ⟨0, by omega, rfl, HB.out⟩
              case round =>
                obtain ⟨k, hk, rfl, hb2⟩ := hrel
                by_cases hkm : k < m
                · obtain ⟨rb, ro, nm, rfl, hrb, hnm, hnz⟩ := (HN.out.below hb2.be).at_ hkm
                  have hkey : KeyOk (z, nm) := ⟨WalkArith.wf_i64 ⟨by omega, by omega⟩, hnz⟩
                  obtain ⟨fi, fa, fs, li, ls, hfs, hls, hl0, hfd, hfr, hhe, hrh⟩ := names_lt HI.out hb2 (by have := HLN.out; omega) (by omega) z nm hkey hc
                  obtain ⟨z1, z2, z3⟩ := bool3 hfs
                  obtain ⟨y1, y2, y3⟩ := bool3 hls
                  have HB2 := hide hb2
                  have HFD2 := hide hfd
                  have HFR2 := hide hfr
                  have HHE2 := hide hhe
                  have HRH2 := hide hrh
                  have hn11 : (k : Int) < (m : Int) := by omega
                  clear hkey hb2 hrb hnz hkm hfd hfr hhe hrh hfs hls
                  subst hl0
                  clear y1 y2
                  obtain rfl : ls = false := y3.symm
                  clear y3
                  go_wp2_with fail
                  refine HFD2.out.mono ?_
                  rintro e w' ⟨rfl, q, rfl⟩
                  have HE := hide (show NmRel w B b r gm vo vj xo xi xl outer ins objs tbl m (.int .i64 ((k : Int) + 1)) (wr.drewN q) from ⟨k + 1, by omega, by simp, HB2.out.drewN q⟩)
                  have H1 := hide (HFR2.out q)
                  have H2 := hide (HHE2.out q)
                  have H3 := hide (HRH2.out q)
                  have hn1 : (wr.drewN q).cell? ⟨rb, ro + k, none⟩ = some (.string nm) := hnm
                  obtain ⟨W1, hW1⟩ : ∃ W, W = wr.drewN q := ⟨_, rfl⟩
                  rw [← hW1] at HE H1 H2 H3 hn1 ⊢
                  clear hW1 HFD2 HFR2 HHE2 HRH2 hnm HB2
                  go_wp2_with fail
                  refine H1.out.mono ?_
                  rintro e w' ⟨rfl, rfl⟩
                  go_wp2_with fail
                  refine H2.out.mono ?_
                  rintro e w' ⟨rfl, rfl⟩
                  go_wp2_with fail
                  go_roundw
                  case rel => exact HE.out
                  case measure => simp [intOf]; omega
                · obtain rfl : k = m := by omega
                  have HE := hide (show ExRel w B b r gm vo vj xo xi xl outer ins objs tbl ((outer.length : Int) + 2) (.int .i64 (z + 1)) wr from ⟨_, by omega, by omega, rfl, hb2⟩)
                  clear hb2
                  have hn12 : decide ((k : Int) < (k : Int)) = false := decide_eq_false (by omega)
                  go_wp2_with fail
                  go_roundw
                  case rel => exact HE.out
                  case measure => simp [intOf]; omega
            · have s1 : decide (1 ≤ z) = true := decide_eq_true hc
              have s2 : decide (z < (outer.length : Int) + 1) = false := decide_eq_false (by omega)
              have s3 : decide (z < ((outer.length + 1 : Nat) : Int)) = false := decide_eq_false (by omega)
              go_wp2_with fail
              refine HOUT.out.mono ?_
              rintro e w' ⟨rfl, rfl⟩
              go_wp2_with fail
              refine P1.out.mono ?_
              rintro e w' ⟨rfl, rfl⟩
              go_wp2_with fail
              refine R1.out.mono ?_
              rintro e w' ⟨rfl, rfl⟩
              go_wp2_with fail
              refine P2.out.mono ?_
              rintro e w' ⟨rfl, rfl⟩
              go_wp2_with fail
              refine R2.out.mono ?_
              rintro e w' ⟨rfl, rfl⟩
              go_wp2_with fail
              refine P3.out.mono ?_
              rintro e w' ⟨rfl, rfl⟩
              go_wp2_with fail
              refine R3.out.mono ?_
              rintro e w' ⟨rfl, rfl⟩
              clear HOUT P1 R1 P2 R2 P3 R3 c0
              go_wp2_with fail
              go_loopw [12] (fun i wr2 => NmRel w B b r gm vo vj xo xi xl outer ins objs tbl m i wr2) (fun i _ => m - (intOf i).toNat)
              case atStart => exact ⟨0, by omega, rfl, HB.out⟩
              case round =>
                obtain ⟨k, hk, rfl, hb2⟩ := hrel
                by_cases hkm : k < m
                · obtain ⟨rb, ro, nm, rfl, hrb, hnm, hnz⟩ := (HN.out.below hb2.be).at_ hkm
                  have hkey : KeyOk (z, nm) := ⟨WalkArith.wf_i64 ⟨by omega, by omega⟩, hnz⟩
                  obtain ⟨fi, fa, fs, li, ls, hfs, hls, hfd, hfr, hhe, hrh⟩ := names_any HI.out hb2 (by have := HLN.out; omega) (by omega) z nm hkey
                  obtain ⟨z1, z2, z3⟩ := bool3 hfs
                  obtain ⟨y1, y2, y3⟩ := bool3 hls
                  have HB2 := hide hb2
                  have HFD2 := hide hfd
                  have HFR2 := hide hfr
                  have HHE2 := hide hhe
                  have HRH2 := hide hrh
                  have hn11 : (k : Int) < (m : Int) := by omega
                  clear hkey hb2 hrb hnz hkm hfd hfr hhe hrh hfs hls
                  go_wp2_with fail
                  refine HFD2.out.mono ?_
                  rintro e w' ⟨rfl, q, rfl⟩
                  have HE := hide (show NmRel w B b r gm vo vj xo xi xl outer ins objs tbl m (.int .i64 ((k : Int) + 1)) (wr.drewN q) from ⟨k + 1, by omega, by simp, HB2.out.drewN q⟩)
                  have H1 := hide (HFR2.out q)
                  have H2 := hide (HHE2.out q)
                  have H3 := hide (HRH2.out q)
                  have hn1 : (wr.drewN q).cell? ⟨rb, ro + k, none⟩ = some (.string nm) := hnm
                  obtain ⟨W1, hW1⟩ : ∃ W, W = wr.drewN q := ⟨_, rfl⟩
                  rw [← hW1] at HE H1 H2 H3 hn1 ⊢
                  clear hW1 HFD2 HFR2 HHE2 HRH2 hnm HB2
                  go_wp2_with fail
                  refine H1.out.mono ?_
                  rintro e w' ⟨rfl, rfl⟩
                  go_wp2_with fail
                  refine H2.out.mono ?_
                  rintro e w' ⟨rfl, rfl⟩
                  go_wp2_with fail
                  refine H3.out.mono ?_
                  rintro e w' ⟨rfl, rfl⟩
                  go_wp2_with fail
                  go_roundw
                  case rel => exact HE.out
                  case measure => simp [intOf]; omega
                · obtain rfl : k = m := by omega
                  have HE := hide (show ExRel w B b r gm vo vj xo xi xl outer ins objs tbl ((outer.length : Int) + 2) (.int .i64 (z + 1)) wr from ⟨_, by omega, by omega, rfl, hb2⟩)
                  clear hb2
                  have hn12 : decide ((k : Int) < (k : Int)) = false := decide_eq_false (by omega)
                  go_wp2_with fail
                  go_roundw
                  case rel => exact HE.out
                  case measure => simp [intOf]; omega
          | true =>
            have hou := outer_yes hbo.sc HI.out.ok (by omega) z ha
            have hcl : wr.cell? ⟨go, z.toNat, none⟩ = some (.int .i64 (outer.getD (z - 1).toNat 0)) := by
              obtain ⟨g2, c2, hv, _, _, hcc⟩ := own_cell hbo.rs.ou (by omega)
              rw [HXO.out] at hv
              obtain rfl : go = g2 := by
                injection hv with hv _ _
                injection hv with hv
                injection hv
              exact hcc _ _ (outer_cons HI.out.ok ha)
            obtain ⟨v, hv⟩ : ∃ v, v = outer.getD (z - 1).toNat 0 := ⟨_, rfl⟩
            rw [← hv] at hou hcl
            have HOUT := hide hou
            have hz := ha
            rw [hasB_iff] at hz
            obtain ⟨hza, hzb⟩ := hz
            have s1 : decide (1 ≤ z) = true := decide_eq_true hza
            have s2 : decide (z < (outer.length : Int) + 1) = true := decide_eq_true (by omega)
            have s3 : decide (z < ((outer.length + 1 : Nat) : Int)) = true := decide_eq_true (by omega)
            have s4 : (0 : Int) ≤ z := by omega
            have s5 : z < (outer.length : Int) + 1 := by omega
            clear hbo hou hv
            go_wp2_with fail
            clear hcl
            refine HOUT.out.mono ?_
            rintro e w' ⟨rfl, rfl⟩
            go_wp2_with fail
            refine P1.out.mono ?_
            rintro e w' ⟨rfl, rfl⟩
            go_wp2_with fail
            refine R1.out.mono ?_
            rintro e w' ⟨rfl, rfl⟩
            go_wp2_with fail
            refine P2.out.mono ?_
            rintro e w' ⟨rfl, rfl⟩
            go_wp2_with fail
            refine R2.out.mono ?_
            rintro e w' ⟨rfl, rfl⟩
            go_wp2_with fail
            refine P3.out.mono ?_
            rintro e w' ⟨rfl, rfl⟩
            go_wp2_with fail
            refine R3.out.mono ?_
            rintro e w' ⟨rfl, rfl⟩
            clear HOUT P1 R1 P2 R2 P3 R3 c0
            go_wp2_with fail
            go_loopw [12] (fun i wr2 => NmRel w B b r gm vo vj xo xi xl outer ins objs tbl m i wr2) (fun i _ => m - (intOf i).toNat)
            case atStart => exact ⟨0, by omega, rfl, HB.out⟩
            case round =>
              obtain ⟨k, hk, rfl, hb2⟩ := hrel
              by_cases hkm : k < m
              · obtain ⟨rb, ro, nm, rfl, hrb, hnm, hnz⟩ := (HN.out.below hb2.be).at_ hkm
                have hkey : KeyOk (z, nm) := ⟨WalkArith.wf_i64 ⟨by omega, by omega⟩, hnz⟩
                obtain ⟨fi, fa, fs, li, ls, hfs, hls, hfd, hfr, hhe, hrh⟩ := names_any HI.out hb2 (by have := HLN.out; omega) (by omega) z nm hkey
                obtain ⟨z1, z2, z3⟩ := bool3 hfs
                obtain ⟨y1, y2, y3⟩ := bool3 hls
                have HB2 := hide hb2
                have HFD2 := hide hfd
                have HFR2 := hide hfr
                have HHE2 := hide hhe
                have HRH2 := hide hrh
                have hn11 : (k : Int) < (m : Int) := by omega
                clear hkey hb2 hrb hnz hkm hfd hfr hhe hrh hfs hls
                go_wp2_with fail
                refine HFD2.out.mono ?_
                rintro e w' ⟨rfl, q, rfl⟩
                have HE := hide (show NmRel w B b r gm vo vj xo xi xl outer ins objs tbl m (.int .i64 ((k : Int) + 1)) (wr.drewN q) from ⟨k + 1, by omega, by simp, HB2.out.drewN q⟩)
                have H1 := hide (HFR2.out q)
                have H2 := hide (HHE2.out q)
                have H3 := hide (HRH2.out q)
                have hn1 : (wr.drewN q).cell? ⟨rb, ro + k, none⟩ = some (.string nm) := hnm
                obtain ⟨W1, hW1⟩ : ∃ W, W = wr.drewN q := ⟨_, rfl⟩
                rw [← hW1] at HE H1 H2 H3 hn1 ⊢
                clear hW1 HFD2 HFR2 HHE2 HRH2 hnm HB2
                go_wp2_with fail
                refine H1.out.mono ?_
                rintro e w' ⟨rfl, rfl⟩
                go_wp2_with fail
                refine H2.out.mono ?_
                rintro e w' ⟨rfl, rfl⟩
                go_wp2_with fail
                refine H3.out.mono ?_
                rintro e w' ⟨rfl, rfl⟩
                go_wp2_with fail
                go_roundw
                case rel => exact HE.out
                case measure => simp [intOf]; omega
              · obtain rfl : k = m := by omega
                have HE := hide (show ExRel w B b r gm vo vj xo xi xl outer ins objs tbl ((outer.length : Int) + 2) (.int .i64 (z + 1)) wr from ⟨_, by omega, by omega, rfl, hb2⟩)
                clear hb2
                have hn12 : decide ((k : Int) < (k : Int)) = false := decide_eq_false (by omega)
                go_wp2_with fail
                go_roundw
                case rel => exact HE.out
                case measure => simp [intOf]; omega
        · obtain rfl : z = (outer.length : Int) + 2 := by omega
          have HE := hide hbo.be
          have s9 : decide ((outer.length : Int) + 2 ≤ (outer.length : Int) + 1) = false := decide_eq_false (by omega)
          clear hbo hlt hz1 hz2
          go_wp2_with fail
          go_ret
          exact ⟨rfl, HE.out⟩
end Go.Proofs.Ytllddgfmjmblmaa
