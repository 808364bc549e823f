/- Within, Outer, Object of package scope; Put of what can't be; what nil answers; conditions: the scopes are ones of the call's own. -/
import Derived.Test.YtllddgfmjmblmaaScB
namespace Go.Proofs.Ytllddgfmjmblmaa
open Go.RowKit Go.WideShapes Go.ChangeShapes
set_option linter.unusedVariables false
set_option maxRecDepth 100000

section
variable {w : World} {B b gm : Nat} {vo vj : Value} {outer : List Int} {objs : List ObjV} {tbl : List ((Int × ByteArray) × Nat)}
set_option maxHeartbeats 2000000 in
theorem within_any (h : SC w B b gm vo vj outer objs tbl) (ho : OuterOk outer) (hl : outer.length ≤ 70000) (at' t : Int) :
    Calls Try.prog 14 #[.pointer (some ⟨b, 0, none⟩), .int .i64 at', .int .i64 t] w fun e w' => e = .returned (.bool (wth outer t at')) ∧ w = w' := by
  have HH := hide h
  have HO := hide ho
  clear h ho
  go_enter Try.func14, Try.ntmps14
  go_wp2_with fail
  go_loop [1] (fun i => ∃ (a : Int), i = .int .i64 a ∧ wth outer t a = wth outer t at') (fun i => (intOf i).toNat)
  case atStart => exact ⟨at', rfl, rfl⟩
  case round =>
    obtain ⟨a, rfl, hf⟩ := hrel
    have HS := hide (has_scope HH.out a)
    have hfe := wth_eq HO.out t a
    cases ha : hasB outer.length a with
    | false =>
      rw [ha] at HS hfe
      have HF := hide (hf.symm.trans hfe)
      clear hf hfe ha
      go_wp2_with fail
      refine HS.out.mono ?_
      rintro e w' ⟨rfl, rfl⟩
      go_wp2_with fail
      refine HS.out.mono ?_
      rintro e w' ⟨rfl, rfl⟩
      go_wp2_with fail
      go_ret
      exact ⟨by rw [HF.out]; rfl, rfl⟩
    | true =>
      rw [ha] at HS hfe
      rw [if_pos rfl] at hfe
      have hoa := outer_at HO.out ha
      rw [hasB_iff] at ha
      by_cases e : a = t
      · subst e
        rw [if_pos rfl] at hfe
        have HF := hide (hf.symm.trans hfe)
        clear hf hfe hoa ha
        go_wp2_with fail
        refine HS.out.mono ?_
        rintro e w' ⟨rfl, rfl⟩
        go_wp2_with fail
        refine HS.out.mono ?_
        rintro e w' ⟨rfl, rfl⟩
        go_wp2_with fail
        go_ret
        exact ⟨by rw [HF.out]; rfl, rfl⟩
      · rw [if_neg e] at hfe
        have HF := hide (hfe.symm.trans hf)
        have hb1 : decide (a = t) = false := decide_eq_false e
        have hb2 : (a == t) = false := hb1
        have hb3 : (a != t) = true := by unfold bne; rw [hb2]; rfl
        obtain ⟨v, hv⟩ : ∃ v, v = outer.getD (a - 1).toNat 0 := ⟨_, rfl⟩
        rw [← hv] at hoa HF
        obtain ⟨c0, c1, c2⟩ := HH.out.cells
        have hou := HH.out.ou
        rcases hou.2 with ⟨_, h0⟩ | ⟨g, cap, cur, hvo, _, hg, hcap, hcm, _, htk⟩
        · omega
        have hcell : w.cell? ⟨g, a.toNat - 1, none⟩ = some (.int .i64 v) := by
          have h := hou.cells (g := g) (by rw [hvo]; rfl) (a - 1).toNat (.int .i64 v) (by rw [List.getElem?_map, hoa.1]; rfl)
          rw [Addr.add_lit, Nat.zero_add, show (a - 1).toNat = a.toNat - 1 by omega] at h
          exact h
        rw [hvo] at c0
        have hw1 : IntKind.i64.wrap (a - 1) = a - 1 := IntWalk.i64_in _ (by omega)
        have hb4 : (0 : Int) ≤ a - 1 := by omega
        have hb5 : a - 1 < (outer.length : Int) := by omega
        have hlt := hoa.2.2
        have hv0 := hoa.2.1
        clear hf hfe hoa hv hou hg htk hvo e
        go_wp2_with fail
        refine HS.out.mono ?_
        rintro e w' ⟨rfl, rfl⟩
        go_wp2_with fail
        go_round
        case rel => exact ⟨v, rfl, HF.out⟩
        case measure => simp [intOf]; omega

set_option maxHeartbeats 2000000 in
theorem outer_yes (h : SC w B b gm vo vj outer objs tbl) (ho : OuterOk outer) (hl : outer.length ≤ 70000) (a : Int) (ha : hasB outer.length a = true) :
    Calls Try.prog 13 #[.pointer (some ⟨b, 0, none⟩), .int .i64 a] w fun e w' => e = .returned (.int .i64 (outer.getD (a - 1).toNat 0)) ∧ w = w' := by
  have HS := hide (has_scope h a)
  have hoa := outer_at ho ha
  rw [ha] at HS
  rw [hasB_iff] at ha
  obtain ⟨v, hv⟩ : ∃ v, v = outer.getD (a - 1).toNat 0 := ⟨_, rfl⟩
  rw [← hv] at hoa ⊢
  obtain ⟨c0, c1, c2⟩ := h.cells
  have hou := h.ou
  rcases hou.2 with ⟨_, h0⟩ | ⟨g, cap, cur, hvo, _, hg, hcap, hcm, _, htk⟩
  · omega
  have hcell : w.cell? ⟨g, a.toNat - 1, none⟩ = some (.int .i64 v) := by
    have h := hou.cells (g := g) (by rw [hvo]; rfl) (a - 1).toNat (.int .i64 v) (by rw [List.getElem?_map, hoa.1]; rfl)
    rw [Addr.add_lit, Nat.zero_add, show (a - 1).toNat = a.toNat - 1 by omega] at h
    exact h
  rw [hvo] at c0
  have hw1 : IntKind.i64.wrap (a - 1) = a - 1 := IntWalk.i64_in _ (by omega)
  have hb4 : (0 : Int) ≤ a - 1 := by omega
  have hb5 : a - 1 < (outer.length : Int) := by omega
  clear hoa hv hou hg htk hvo h
  go_enter Try.func13, Try.ntmps13
  go_wp2_with fail
  refine HS.out.mono ?_
  rintro e w' ⟨rfl, rfl⟩
  go_wp2_with fail
  go_ret
  exact ⟨rfl, rfl⟩

set_option maxHeartbeats 2000000 in
theorem outer_no (h : SC w B b gm vo vj outer objs tbl) (a : Int) (ha : hasB outer.length a = false) :
    Calls Try.prog 13 #[.pointer (some ⟨b, 0, none⟩), .int .i64 a] w fun e w' => e = .returned (.int .i64 0) ∧ w = w' := by
  have HS := hide (has_scope h a)
  rw [ha] at HS
  clear h ha
  go_enter Try.func13, Try.ntmps13
  go_wp2_with fail
  refine HS.out.mono ?_
  rintro e w' ⟨rfl, rfl⟩
  go_wp2_with fail
  go_ret
  exact ⟨rfl, rfl⟩

def zeroO : ObjV := ⟨0, ⟨#[]⟩, 0, 0, 0, 0, 0, 0, false, ⟨#[]⟩, 0, 0, 0⟩
set_option maxHeartbeats 2000000 in
theorem object_no (h : SC w B b gm vo vj outer objs tbl) (i : Int) (hi : hasB objs.length i = false) :
    Calls Try.prog 12 #[.pointer (some ⟨b, 0, none⟩), .int .i64 i] w fun e w' => e = .returned zeroO.val ∧ Below w.heap.size w w' := by
  obtain ⟨W0, hW0⟩ : ∃ W : World, W = w.alloc (.cells zeroO.arr 42) := ⟨_, rfl⟩
  have h0 : SC W0 B b gm vo vj outer objs tbl := by rw [hW0]; exact h.alloc _
  have hho := has_object h0 i
  rw [hi] at hho
  have hbn : Blk W0 w.heap.size 42 zeroO.arr := by rw [hW0]; exact Blk.new _ _ _
  have hbw : Below w.heap.size w W0 := by rw [hW0]; exact (Below.refl _ _).alloc (Nat.le_refl _) _
  have HHO := hide hho
  have HBN := hide hbn
  have HBW := hide hbw
  unfold ObjV.arr zeroO at hW0
  clear h h0 hho hbn hbw hi
  go_enter Try.func12, Try.ntmps12
  go_wp2_with fail
  rw [← hW0]
  refine HHO.out.mono ?_
  rintro e w' ⟨rfl, rfl⟩
  have f0 := HBN.out.frozen 0
  have f1 := HBN.out.frozen 1
  have f2 := HBN.out.frozen 2
  have f3 := HBN.out.frozen 3
  have f4 := HBN.out.frozen 4
  have f5 := HBN.out.frozen 5
  have f6 := HBN.out.frozen 6
  have f7 := HBN.out.frozen 7
  have f8 := HBN.out.frozen 8
  have f9 := HBN.out.frozen 9
  have f10 := HBN.out.frozen 10
  have f11 := HBN.out.frozen 11
  have f12 := HBN.out.frozen 12
  have p0 := HBN.out.cell 0
  have p1 := HBN.out.cell 1
  have p2 := HBN.out.cell 2
  have p3 := HBN.out.cell 3
  have p4 := HBN.out.cell 4
  have p5 := HBN.out.cell 5
  have p6 := HBN.out.cell 6
  have p7 := HBN.out.cell 7
  have p8 := HBN.out.cell 8
  have p9 := HBN.out.cell 9
  have p10 := HBN.out.cell 10
  have p11 := HBN.out.cell 11
  have p12 := HBN.out.cell 12
  simp [zeroO] at p0 p1 p2 p3 p4 p5 p6 p7 p8 p9 p10 p11 p12
  clear hW0
  obtain ⟨rb, hrb⟩ : ∃ n, n = w.heap.size := ⟨_, rfl⟩
  rw [← hrb] at HBN HBW p0 p1 p2 p3 p4 p5 p6 p7 p8 p9 p10 p11 p12 f0 f1 f2 f3 f4 f5 f6 f7 f8 f9 f10 f11 f12 ⊢
  have HRB := hide hrb
  clear hrb
  go_wp2_with fail
  refine ret_obj (o := zeroO) rfl rfl rfl (by have h := (((((((((((((HBN.out.set_ 0 (.int .i64 0)).set_ 1 (.string ⟨#[]⟩)).set_ 2 (.int .i64 0)).set_ 3 (.int .i64 0)).set_ 4 (.int .i64 0)).set_ 5 (.int .i64 0)).set_ 6 (.int .u64 0)).set_ 7 (.int .u64 0)).set_ 8 (.bool false)).set_ 9 (.string ⟨#[]⟩)).set_ 10 (.int .i64 0)).set_ 11 (.int .i64 0)).set_ 12 (.int .i64 0)); simpa [zeroO] using h) ⟨rfl, (by have h := (((((((((((((HBW.out.setCell (p := ⟨rb, 0, none⟩) (Nat.le_refl _) (.int .i64 0)).setCell (p := ⟨rb, 1, none⟩) (Nat.le_refl _) (.string ⟨#[]⟩)).setCell (p := ⟨rb, 2, none⟩) (Nat.le_refl _) (.int .i64 0)).setCell (p := ⟨rb, 3, none⟩) (Nat.le_refl _) (.int .i64 0)).setCell (p := ⟨rb, 4, none⟩) (Nat.le_refl _) (.int .i64 0)).setCell (p := ⟨rb, 5, none⟩) (Nat.le_refl _) (.int .i64 0)).setCell (p := ⟨rb, 6, none⟩) (Nat.le_refl _) (.int .u64 0)).setCell (p := ⟨rb, 7, none⟩) (Nat.le_refl _) (.int .u64 0)).setCell (p := ⟨rb, 8, none⟩) (Nat.le_refl _) (.bool false)).setCell (p := ⟨rb, 9, none⟩) (Nat.le_refl _) (.string ⟨#[]⟩)).setCell (p := ⟨rb, 10, none⟩) (Nat.le_refl _) (.int .i64 0)).setCell (p := ⟨rb, 11, none⟩) (Nat.le_refl _) (.int .i64 0)).setCell (p := ⟨rb, 12, none⟩) (Nat.le_refl _) (.int .i64 0)); exact (congrArg (fun n => Below n w _) HRB.out).mp h)⟩

/-- What Put refuses: no such scope, a kind that there isn't, no name. -/
def putNo (n : Nat) (a : Int) (o : ObjV) : Bool := !hasB n a || !(decide (1 ≤ o.k ∧ o.k ≤ 9)) || decide (o.name = ⟨#[]⟩)
set_option maxHeartbeats 2000000 in
theorem put_no (h : SC w B b gm vo vj outer objs tbl) (a : Int) (o : ObjV) (hno : putNo outer.length a o = true) :
    Calls Try.prog 20 #[.pointer (some ⟨b, 0, none⟩), .int .i64 a, o.val] w fun e w' => e = .returned (.tuple #[.int .i64 0, .int .i64 1]) ∧ Below w.heap.size w w' := by
  obtain ⟨W0, hW0⟩ : ∃ W : World, W = w.alloc (.cells o.arr 42) := ⟨_, rfl⟩
  obtain ⟨bo, hbo⟩ : ∃ n, n = w.heap.size := ⟨_, rfl⟩
  have hb0 : Blk W0 bo 42 o.arr := by rw [hW0, hbo]; exact Blk.new _ _ _
  have h0 : SC W0 B b gm vo vj outer objs tbl := by rw [hW0]; exact h.alloc _
  have hbw : Below w.heap.size w W0 := by rw [hW0]; exact (Below.refl _ _).alloc (Nat.le_refl _) _
  have hsc := has_scope h0 a
  have hki := is_kind o.k W0
  obtain ⟨c1, hc1⟩ : ∃ c, c = hasB outer.length a := ⟨_, rfl⟩
  obtain ⟨c2, hc2⟩ : ∃ c, c = decide (1 ≤ o.k ∧ o.k ≤ 9) := ⟨_, rfl⟩
  unfold putNo at hno
  rw [← hc1] at hsc hno
  rw [← hc2] at hki hno
  have HSC := hide hsc
  have HKI := hide hki
  have HB0 := hide hb0
  have HBW := hide hbw
  have HWE := hide hW0
  have HBE := hide hbo
  have HNO := hide hno
  clear h hsc hki h0 hb0 hbw hc1 hc2 hno
  have hW0' := HWE.out
  have hbo' := HBE.out
  clear hW0 hbo hW0' hbo'
  unfold ObjV.val
  go_enter Try.func20, Try.ntmps20
  cases c1 with
  | false =>
    go_wp2_with fail
    rw [← HWE.out]
    rw [← HBE.out]
    refine HSC.out.mono ?_
    rintro e w' ⟨rfl, rfl⟩
    go_wp2_with fail
    go_ret2
    exact ⟨rfl, HBW.out⟩
  | true =>
    go_wp2_with fail
    rw [← HWE.out]
    rw [← HBE.out]
    refine HSC.out.mono ?_
    rintro e w' ⟨rfl, rfl⟩
    have o0 := HB0.out.cell 0
    have o1 := HB0.out.cell 1
    simp at o0 o1
    go_wp2_with fail
    refine HKI.out.mono ?_
    rintro e w' ⟨rfl, rfl⟩
    cases c2 with
    | false =>
      go_wp2_with fail
      go_ret2
      exact ⟨rfl, HBW.out⟩
    | true =>
      have hn : o.name = ⟨#[]⟩ := by have := HNO.out; simpa using this
      have hb1 : o.name.toList = [] := by rw [hn, ByteArray.toList_eq]
      have hb2 : o.name.toList.isEmpty = true := by rw [hb1]; rfl
      clear hn
      go_wp2_with fail
      go_ret2
      exact ⟨rfl, HBW.out⟩
end

theorem open_nil (a : Int) (w : World) : Calls Try.prog 21 #[.pointer none, .int .i64 a] w fun e w' => e = .returned (.tuple #[.int .i64 0, .int .i64 2]) ∧ w = w' := by
  go_enter Try.func21, Try.ntmps21
  go_wp2_with fail
  go_ret2
  exact ⟨rfl, rfl⟩
theorem put_nil (a : Int) (o : ObjV) (w : World) : Calls Try.prog 20 #[.pointer none, .int .i64 a, o.val] w fun e w' => e = .returned (.tuple #[.int .i64 0, .int .i64 2]) ∧ Below w.heap.size w w' := by
  unfold ObjV.val
  go_enter Try.func20, Try.ntmps20
  go_wp2_with fail
  go_ret2
  exact ⟨rfl, (Below.refl _ _).alloc (Nat.le_refl _) _⟩
theorem has_nil (a : Int) (w : World) : Calls Try.prog 53 #[.pointer none, .int .i64 a] w fun e w' => e = .returned (.bool false) ∧ w = w' := by
  go_enter Try.func53, Try.ntmps53
  go_wp2_with fail
  go_ret
  exact ⟨rfl, rfl⟩
theorem haso_nil (a : Int) (w : World) : Calls Try.prog 52 #[.pointer none, .int .i64 a] w fun e w' => e = .returned (.bool false) ∧ w = w' := by
  go_enter Try.func52, Try.ntmps52
  go_wp2_with fail
  go_ret
  exact ⟨rfl, rfl⟩
theorem here_nil (a : Int) (s : ByteArray) (w : World) : Calls Try.prog 18 #[.pointer none, .int .i64 a, .string s] w fun e w' => e = .returned (.tuple #[.int .i64 0, .bool false]) ∧ w = w' := by
  go_enter Try.func18, Try.ntmps18
  go_wp2_with fail
  go_ret2
  exact ⟨rfl, rfl⟩
theorem len_nil7 (w : World) : Calls Try.prog 11 #[.pointer none] w fun e w' => e = .returned (.int .i64 0) ∧ w = w' := by
  go_enter Try.func11, Try.ntmps11
  go_wp2_with fail
  go_ret
  exact ⟨rfl, rfl⟩
theorem find_nil (a : Int) (s : ByteArray) (w : World) : Calls Try.prog 16 #[.pointer none, .int .i64 a, .string s] w fun e w' => e = .returned (.tuple #[.int .i64 0, .int .i64 0, .bool false]) ∧ w = w' := by
  go_enter Try.func16, Try.ntmps16
  go_wp2_with fail
  go_loop [1] (fun i => ∃ a : Int, i = .int .i64 a) (fun _ => 0)
  case atStart => exact ⟨a, rfl⟩
  case round =>
    obtain ⟨a, rfl⟩ := hrel
    go_wp2_with fail
    refine (has_nil a _).mono ?_
    rintro e w' ⟨rfl, rfl⟩
    go_wp2_with fail
    go_ret3
    exact ⟨rfl, rfl⟩
theorem within_nil (a t : Int) (w : World) : Calls Try.prog 14 #[.pointer none, .int .i64 a, .int .i64 t] w fun e w' => e = .returned (.bool false) ∧ w = w' := by
  go_enter Try.func14, Try.ntmps14
  go_wp2_with fail
  go_loop [1] (fun i => ∃ a : Int, i = .int .i64 a) (fun _ => 0)
  case atStart => exact ⟨a, rfl⟩
  case round =>
    obtain ⟨a, rfl⟩ := hrel
    go_wp2_with fail
    refine (has_nil a _).mono ?_
    rintro e w' ⟨rfl, rfl⟩
    go_wp2_with fail
    refine (has_nil a _).mono ?_
    rintro e w' ⟨rfl, rfl⟩
    go_wp2_with fail
    go_ret
    exact ⟨rfl, rfl⟩
theorem outer_nil (a : Int) (w : World) : Calls Try.prog 13 #[.pointer none, .int .i64 a] w fun e w' => e = .returned (.int .i64 0) ∧ w = w' := by
  go_enter Try.func13, Try.ntmps13
  go_wp2_with fail
  refine (has_nil a _).mono ?_
  rintro e w' ⟨rfl, rfl⟩
  go_wp2_with fail
  go_ret
  exact ⟨rfl, rfl⟩
theorem change_nil (a : Int) (o : ObjV) (w : World) : Calls Try.prog 22 #[.pointer none, .int .i64 a, o.val] w fun e w' => e = .returned (.int .i64 2) ∧ Below w.heap.size w w' := by
  unfold ObjV.val
  go_enter Try.func22, Try.ntmps22
  go_wp2_with fail
  go_ret
  exact ⟨rfl, (Below.refl _ _).alloc (Nat.le_refl _) _⟩
end Go.Proofs.Ytllddgfmjmblmaa
