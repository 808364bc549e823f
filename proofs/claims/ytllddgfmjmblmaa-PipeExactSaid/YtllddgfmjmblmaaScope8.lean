/- Len, hasObject and Object of package scope; conditions: the scopes are ones of the call's own. -/
import Derived.Test.YtllddgfmjmblmaaScope5
namespace Go.Proofs.Ytllddgfmjmblmaa
open Go.RowKit Go.WideShapes Go.ChangeShapes
set_option linter.unusedVariables false
set_option maxRecDepth 100000

theorem objects_at (objs : List ObjV) (q : Nat) (o : ObjV) (h : objs[q]? = some o) (j : Nat) (u : Value) (hu : o.cells[j]? = some u) : (objs.flatMap ObjV.cells)[q * 13 + j]? = some u := by
  induction objs generalizing q with
  | nil => simp at h
  | cons x xs ih =>
    cases q with
    | zero =>
      simp at h; subst h
      have hl : j < 13 := by have := (List.getElem?_eq_some_iff.1 hu).1; rwa [cellsO_length] at this
      rw [List.flatMap_cons, List.getElem?_append_left (by rw [cellsO_length]; omega)]
      simpa using hu
    | succ q =>
      rw [List.flatMap_cons, List.getElem?_append_right (by rw [cellsO_length]; omega), cellsO_length]
      have e : (q + 1) * 13 + j - 13 = q * 13 + j := by omega
      rw [e]
      exact ih q (by simpa using h)

theorem obj_size : (Try.prog.info? 42).map (·.size) = some 13 := by kernel_rfl
theorem obj_und : ((Try.prog.underlying 42).map fun d => (match d with | .struct _ | .array _ _ => true | _ => false)) = some true := by kernel_rfl
theorem ret_obj {fn : Func} {t : Tmp} (hf : fn.results = #[.cell t 42]) {R : Ending → World → Prop} {a : Act} {wf : World} {g : Nat} {o : ObjV} (hp : a.tmps.getD t undef = .pointer (some ⟨g, 0, none⟩)) (hd : a.defers = [])
    (hb : Blk wf g 42 o.arr) (h : R (.returned o.val) wf) : bodyPost Try.prog fn R .ret a wf := by
  have hu := obj_und
  cases hq : Try.prog.underlying 42 with
  | none => rw [hq] at hu; cases hu
  | some d =>
    rw [hq] at hu
    exact bodyPost_ret (results_cell_row hf _ _ _ _ _ _ d hp hb hq (by cases d <;> simp_all) obj_size) hd h

section
variable {w : World} {B b gm : Nat} {vo vj : Value} {outer : List Int} {objs : List ObjV} {tbl : List ((Int × ByteArray) × Nat)}
set_option maxHeartbeats 1000000 in
theorem scope_len (h : SC w B b gm vo vj outer objs tbl) :
    Calls Try.prog 11 #[.pointer (some ⟨b, 0, none⟩)] w fun e w' => e = .returned (.int .i64 objs.length) ∧ w = w' := by
  obtain ⟨c0, c1, c2⟩ := h.cells
  obtain ⟨A, c, rfl⟩ := own_form7 h.ob
  clear h
  go_enter Try.func11, Try.ntmps11
  go_wp2_with fail
  go_ret
  exact ⟨rfl, rfl⟩

set_option maxHeartbeats 1000000 in
theorem has_object (h : SC w B b gm vo vj outer objs tbl) (i : Int) :
    Calls Try.prog 52 #[.pointer (some ⟨b, 0, none⟩), .int .i64 i] w fun e w' => e = .returned (.bool (hasB objs.length i)) ∧ w = w' := by
  obtain ⟨c0, c1, c2⟩ := h.cells
  obtain ⟨A, c, rfl⟩ := own_form7 h.ob
  clear h
  obtain ⟨r, hr⟩ : ∃ r, r = hasB objs.length i := ⟨_, rfl⟩
  rw [← hr]
  have HRB := hide hr
  clear hr
  go_enter Try.func52, Try.ntmps52
  go_wp2_with fail
  all_goals go_ret
  all_goals exact ⟨ret_b7 (by rw [HRB.out]; unfold hasB; first | (apply decide_eq_decide.2; omega) | (symm; apply decide_eq_false; omega)), rfl⟩

set_option maxHeartbeats 2000000 in
theorem object_at (h : SC w B b gm vo vj outer objs tbl) (q : Nat) (o : ObjV) (hq : objs[q]? = some o) (hn : objs.length ≤ 70000) :
    Calls Try.prog 12 #[.pointer (some ⟨b, 0, none⟩), .int .i64 ((q : Int) + 1)] w fun e w' => e = .returned o.val ∧ Below w.heap.size w w' := by
  have hql := (List.getElem?_eq_some_iff.1 hq).1
  obtain ⟨W0, hW0⟩ : ∃ W : World, W = w.alloc (.cells #[.int .i64 0, .string ⟨#[]⟩, .int .i64 0, .int .i64 0, .int .i64 0, .int .i64 0, .int .u64 0, .int .u64 0, .bool false, .string ⟨#[]⟩, .int .i64 0, .int .i64 0, .int .i64 0] 42) := ⟨_, rfl⟩
  have h0 : SC W0 B b gm vo vj outer objs tbl := by rw [hW0]; exact h.alloc _
  have hho := has_object h0 ((q : Int) + 1)
  rw [show hasB objs.length ((q : Int) + 1) = true by rw [hasB_iff]; omega] at hho
  obtain ⟨c0, c1, c2⟩ := h0.cells
  rcases h0.ob.2 with ⟨_, hz⟩ | ⟨g, cap, cur, hvj, hgB, hg, hcap, hcm, _, htk⟩
  · omega
  have hcell : ∀ (j : Nat) (u : Value), o.cells[j]? = some u → W0.cell? ⟨g, q * 13 + j, none⟩ = some u := fun j u hu => by
    have h1 := h0.ob.cells (g := g) (by rw [hvj]; rfl) (q * 13 + j) u (objects_at objs q o hq j u hu)
    rw [Addr.add_lit, Nat.zero_add] at h1
    exact h1
  have hbn : Blk W0 w.heap.size 42 #[.int .i64 0, .string ⟨#[]⟩, .int .i64 0, .int .i64 0, .int .i64 0, .int .i64 0, .int .u64 0, .int .u64 0, .bool false, .string ⟨#[]⟩, .int .i64 0, .int .i64 0, .int .i64 0] := by rw [hW0]; exact Blk.new _ _ _
  have hbw : Below w.heap.size w W0 := by rw [hW0]; exact (Below.refl _ _).alloc (Nat.le_refl _) _
  have HHO := hide hho
  have HBN := hide hbn
  have HBW := hide hbw
  have HWE := hide hW0
  have e0 := hcell 0 _ rfl
  have e1 := hcell 1 _ rfl
  have e2 := hcell 2 _ rfl
  have e3 := hcell 3 _ rfl
  have e4 := hcell 4 _ rfl
  have e5 := hcell 5 _ rfl
  have e6 := hcell 6 _ rfl
  have e7 := hcell 7 _ rfl
  have e8 := hcell 8 _ rfl
  have e9 := hcell 9 _ rfl
  have e10 := hcell 10 _ rfl
  have e11 := hcell 11 _ rfl
  have e12 := hcell 12 _ rfl
  simp only [Nat.add_zero] at e0
  have hw1 : IntKind.i64.wrap ((q : Int) + 1 - 1) = q := by rw [show (q : Int) + 1 - 1 = q by omega]; exact IntWalk.i64_in _ (by omega)
  have hlt : (q : Int) < (objs.length : Int) := by omega
  rw [hvj] at c1
  clear h h0 hho hbn hbw hcell hq htk hg
  go_enter Try.func12, Try.ntmps12
  go_wp2_with fail
  rw [← hW0]
  refine HHO.out.mono ?_
  rintro e w' ⟨rfl, rfl⟩
  have p0 := HBN.out.cell 0
  have p1 := HBN.out.cell 1
  have p2 := HBN.out.cell 2
  have p3 := HBN.out.cell 3
  have p4 := HBN.out.cell 4
  have p5 := HBN.out.cell 5
  have p6 := HBN.out.cell 6
  have p7 := HBN.out.cell 7
  have p8 := HBN.out.cell 8
  have p9 := HBN.out.cell 9
  have p10 := HBN.out.cell 10
  have p11 := HBN.out.cell 11
  have p12 := HBN.out.cell 12
  simp at p0 p1 p2 p3 p4 p5 p6 p7 p8 p9 p10 p11 p12
  have f0 := HBN.out.frozen 0
  have f1 := HBN.out.frozen 1
  have f2 := HBN.out.frozen 2
  have f3 := HBN.out.frozen 3
  have f4 := HBN.out.frozen 4
  have f5 := HBN.out.frozen 5
  have f6 := HBN.out.frozen 6
  have f7 := HBN.out.frozen 7
  have f8 := HBN.out.frozen 8
  have f9 := HBN.out.frozen 9
  have f10 := HBN.out.frozen 10
  have f11 := HBN.out.frozen 11
  have f12 := HBN.out.frozen 12
  clear hW0 HWE
  obtain ⟨rb, hrb⟩ : ∃ n, n = w.heap.size := ⟨_, rfl⟩
  rw [← hrb] at HBN HBW p0 p1 p2 p3 p4 p5 p6 p7 p8 p9 p10 p11 p12 f0 f1 f2 f3 f4 f5 f6 f7 f8 f9 f10 f11 f12 ⊢
  have HRB := hide hrb
  clear hrb
  go_wp2_with fail
  refine ret_obj (o := o) rfl rfl rfl (by have h := (((((((((((((HBN.out.set_ 0 (.int .i64 o.k)).set_ 1 (.string o.name)).set_ 2 (.int .i64 o.t)).set_ 3 (.int .i64 o.node)).set_ 4 (.int .i64 o.num)).set_ 5 (.int .i64 o.ck)).set_ 6 (.int .u64 o.hi)).set_ 7 (.int .u64 o.lo)).set_ 8 (.bool o.b)).set_ 9 (.string o.s)).set_ 10 (.int .i64 o.f)).set_ 11 (.int .i64 o.l)).set_ 12 (.int .i64 o.c)); simpa using h) ⟨rfl, (by have h := (((((((((((((HBW.out.setCell (p := ⟨rb, 0, none⟩) (Nat.le_refl _) (.int .i64 o.k)).setCell (p := ⟨rb, 1, none⟩) (Nat.le_refl _) (.string o.name)).setCell (p := ⟨rb, 2, none⟩) (Nat.le_refl _) (.int .i64 o.t)).setCell (p := ⟨rb, 3, none⟩) (Nat.le_refl _) (.int .i64 o.node)).setCell (p := ⟨rb, 4, none⟩) (Nat.le_refl _) (.int .i64 o.num)).setCell (p := ⟨rb, 5, none⟩) (Nat.le_refl _) (.int .i64 o.ck)).setCell (p := ⟨rb, 6, none⟩) (Nat.le_refl _) (.int .u64 o.hi)).setCell (p := ⟨rb, 7, none⟩) (Nat.le_refl _) (.int .u64 o.lo)).setCell (p := ⟨rb, 8, none⟩) (Nat.le_refl _) (.bool o.b)).setCell (p := ⟨rb, 9, none⟩) (Nat.le_refl _) (.string o.s)).setCell (p := ⟨rb, 10, none⟩) (Nat.le_refl _) (.int .i64 o.f)).setCell (p := ⟨rb, 11, none⟩) (Nat.le_refl _) (.int .i64 o.l)).setCell (p := ⟨rb, 12, none⟩) (Nat.le_refl _) (.int .i64 o.c)); exact (congrArg (fun n => Below n w _) HRB.out).mp h)⟩
end

end Go.Proofs.Ytllddgfmjmblmaa
