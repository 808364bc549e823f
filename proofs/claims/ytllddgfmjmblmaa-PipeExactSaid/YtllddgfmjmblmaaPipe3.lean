/- slices.Delete of the first of a row, and Pop of package pipe; conditions: the row is one of the call's own. -/
import Derived.Test.YtllddgfmjmblmaaPipe2
import Derived.Lib.SliceRun
import Derived.Laws.CopyOwn
namespace Go.Proofs.Ytllddgfmjmblmaa
open Go.RowKit Go.WideShapes Go.ChangeShapes
set_option linter.unusedVariables false
set_option maxRecDepth 100000

theorem Blk.row_ {w : World} {g : Nat} {t : TypeId} {cs : Array Value} (h : Blk w g t cs) (cs' : Array Value) : Blk (w.setRow g cs') g t cs' := setRow_heap w g cs cs' t (0, 0) h
theorem step_append_run {P : Program} {ops : Array Oper} {o : Oper} {a : Act} {w w' : World} {K : Act → World → Prop} {Q : Exit → Act → World → Prop} {E : Prop} (hgd : o.guard = none) (s x : Operand) (t : TypeId)
    (ho : o.op = .call { callee := .builtin .append, args := #[s, x], argTypes := #[t, t] }) (v1 v2 v' : Value) (hs : a.eval s = v1) (hx : a.eval x = v2)
    (hrun : (Builtin.append_ #[t, t] o.type #[v1, v2]).run P w = .ok v' w') (h : K (a.put o.dst v') w') :
    if Region.wanted o (yielded ops a.tmps) = true then Oper.wp P o a w K Q else E := by
  have hw : Region.wanted o (yielded ops a.tmps) = true := by simp [Region.wanted, hgd]
  rw [if_pos hw]
  unfold Oper.wp execOp
  simp only [ho, resolve, invoke, builtin, Sem.run_bind, Sem.run_pure, Result.andThen_ok, List.map_toArray, List.map_cons, List.map_nil, hs, hx, hrun]
  exact h

set_option maxHeartbeats 1000000 in
theorem delete_row (n g cap : Nat) (e0 : Value) (es : List Value) (cur : Array Value) (w : World) (hg : Blk w g 66 cur) (hcap : n + 1 ≤ cap) (hcm : cap ≤ 9223372036854775807) (hcs : cur.size = cap) (htk : cur.toList.take (n + 1) = e0 :: es) (h1 : ∀ u ∈ es, u.oneCell' = true) :
    Calls Try.prog 58 #[.slice (some ⟨g, 0, none⟩) (n + 1) cap, .int .i64 0, .int .i64 1] w fun e w' => e = .returned (.slice (some ⟨g, 0, none⟩) n cap) ∧
      ∃ q, w' = ((w.setRow g (es ++ cur.toList.drop n).toArray).setCell ⟨g, n, none⟩ (.slice none 0 0)).drewN q := by
  obtain ⟨i0, hi0, hz0, hz1, hz2⟩ := info_parts rowInfo
  have hes : es.length = n := by
    have h := congrArg List.length htk
    simp at h
    omega
  have hcell : ∀ j u, es[j]? = some u → w.cell? ⟨g, j + 1, none⟩ = some u := fun j u hu => by
    have hj := (List.getElem?_eq_some_iff.1 hu).1
    rw [hg.cell (j + 1)]
    have h : (cur.toList.take (n + 1))[j + 1]? = some u := by rw [htk]; simpa using hu
    rw [List.getElem?_take_of_lt (by omega)] at h
    simpa using h
  obtain ⟨A, hA, hsrc⟩ : ∃ A : Addr, (if cap = 1 then (some ⟨g, 0, none⟩ : Option Addr) else some ⟨g, 1, none⟩) = some A ∧ ∀ j u, es[j]? = some u → w.drew.cell? (A.add j) = some u := by
    by_cases h : cap = 1
    · refine ⟨⟨g, 0, none⟩, by simp [h], fun j u hu => ?_⟩
      have := (List.getElem?_eq_some_iff.1 hu).1
      omega
    · refine ⟨⟨g, 1, none⟩, by simp [h], fun j u hu => ?_⟩
      rw [Addr.add_lit, Nat.add_comm 1 j]
      exact hcell j u hu
  have kA := run_append_room (P := Try.prog) w.drew 70 70 66 i0 Try.underlying70 hi0 g 0 cap cur hg A n (cap - 1) es (by rw [hz1, hes]; omega) hsrc h1 (by omega) (by rw [hes, hcs]; omega)
  simp only [Nat.zero_mul, List.take_zero, List.nil_append, Nat.zero_add, hes] at kA
  obtain ⟨X, hX⟩ : ∃ X : Array Value, X = (es ++ cur.toList.drop n).toArray := ⟨_, rfl⟩
  have hXs : X.size = cap := by rw [hX]; simp [hes, hcs]; omega
  rw [← hX] at kA ⊢
  replace kA := hide kA
  have hbX : Blk (w.drew.setRow g X) g 66 X := setRow_heap w.drew g cur X 66 (0, 0) hg
  have kC := Lib.run_clear_slice (P := Try.prog) (w.drew.setRow g X) 70 66 0 (.slice none 0 0) Try.underlying70 (fun W => by simp [zeroValue, typeInfo, hi0, hz0]) rfl rfl g n 1 (cap - n) (by omega) (fun j hj => by rw [hbX.cell]; simp; omega) (fun j hj => hbX.frozen _)
  have e1 : ((w.drew.setRow g X).setCells g n (List.replicate 1 (.slice none 0 0))) = (w.drew.setRow g X).setCell ⟨g, n, none⟩ (.slice none 0 0) := rfl
  rw [e1] at kC
  have hne : ¬ cap = n := by omega
  have hb1 : (1 : Int) ≤ (n : Int) + 1 := by omega
  have hb2 : (n : Int) ≤ (n : Int) + 1 := by omega
  have hi1 : IntKind.i64.wrap ((n : Int) + 1 - n) = 1 := by rw [show (n : Int) + 1 - n = 1 by omega]; rfl
  clear hsrc hcell htk hX hbX hg hes
  go_enter Try.func58, Try.ntmps58
  go_wp2_with fail
  go_region_law (first
    | (refine step_append_run rfl (.tmp 22) (.tmp 25) 70 rfl (.slice (some ⟨g, 0, none⟩) 0 cap) (.slice (some A) n (cap - 1)) (.slice (some ⟨g, 0, none⟩) n cap) (by simp [Act.eval, Act.put]) (by simp [Act.eval, Act.put]) (kA.out) ?_))
  go_ways
  all_goals
    simp [Act.put]
    go_wp2_with fail
  all_goals go_ret
  all_goals exact ⟨rfl, 1, rfl⟩

/-- What stands behind a pop. -/
theorem pop_end {w : World} {B b g cap g2 cap2 : Nat} {cur cur2 : Array Value} {room : Int} {cl : Bool} {r0 : RowV} {els : List RowV} (h : PSt w B b g cap cur room (.slice (some ⟨g2, 0, none⟩) (els.length + 1) cap2) cl (r0 :: els)) (hg2 : Blk w g2 66 cur2)
    (hB2 : B ≤ g2) (hcap : els.length + 1 ≤ cap2) (hcm : cap2 ≤ maxLen) (hcs : cur2.size = cap2) (q : Nat) (w' : World)
    (hw : w' = ((w.setRow g2 (els.map RowV.val ++ cur2.toList.drop els.length).toArray).setCell ⟨g2, els.length, none⟩ (.slice none 0 0)).drewN q) :
    PSt (w'.setCell ⟨g, 1, none⟩ (.slice (some ⟨g2, 0, none⟩) els.length cap2)) B b g cap (cur.setIfInBounds 1 (.slice (some ⟨g2, 0, none⟩) els.length cap2)) room (.slice (some ⟨g2, 0, none⟩) els.length cap2) cl els ∧
    (w'.setCell ⟨g, 1, none⟩ (.slice (some ⟨g2, 0, none⟩) els.length cap2)).ownsRow B 95 5 (.slice r0.A r0.n r0.c) r0.n (cellsV r0.vs) ∧ Below B w (w'.setCell ⟨g, 1, none⟩ (.slice (some ⟨g2, 0, none⟩) els.length cap2)) ∧ ∀ k cs, Blk w k 95 cs → Blk (w'.setCell ⟨g, 1, none⟩ (.slice (some ⟨g2, 0, none⟩) els.length cap2)) k 95 cs := by
  have hl1 : 1 < cur.size := (Array.getElem?_eq_some_iff.1 h.c1).1
  have hbg2 : b ≠ g2 := Blk.ne_ h.bl hg2 (by decide)
  have hgg2 : g ≠ g2 := Blk.ne_ h.gl hg2 (by decide)
  have hbg : b ≠ g := Blk.ne_ h.bl h.gl (by decide)
  have oth : ∀ k : Nat, k ≠ g2 → w'.heap[k]? = w.heap[k]? := fun k hk => by
    rw [hw]
    show (((w.setRow g2 _).setCell ⟨g2, els.length, none⟩ _)).heap[k]? = _
    rw [Below.heap_setCell _ _ _ _ hk, setRow_other _ _ _ _ hk]
  have hrow : Blk w' g2 66 ((els.map RowV.val ++ cur2.toList.drop els.length).toArray.setIfInBounds els.length (.slice none 0 0)) := by
    rw [hw]
    exact ((Blk.row_ hg2 _).set_ els.length _).drewN q
  have hbl : Blk w' b 111 #[.slice (some ⟨g, 0, none⟩) 1 cap] := (oth b hbg2).trans h.bl
  have hgl : Blk w' g 113 cur := (oth g hgg2).trans h.gl
  have hbw : Below B w w' := by
    rw [hw]
    exact below_drewN ((below_setRow (Below.refl _ _) hB2 _).setCell (p := ⟨g2, els.length, none⟩) hB2 _) q
  have hel : ∀ (v : Value) (n : Nat) (xs : List Value), w.ownsRow B 95 5 v n xs → w'.ownsRow B 95 5 v n xs := fun v n xs hr =>
    hr.kept (row := some g2) ⟨hbw.os, hbw.tape, hbw.output, hbw.size, fun k hk hne => oth k (fun e => hne (by rw [e]))⟩ (.inr (own_blk_ne hr hg2 (by decide)))
  refine ⟨⟨hbl.far (p := ⟨g, 1, none⟩) hbg _, hgl.set_ 1 _, ?_, ?_, ?_, ?_, fun r hr => ?_, h.bb, h.bg⟩, ownsRow_setCell_other (a := ⟨g, 1, none⟩) (hel _ _ _ (h.el r0 (by simp))) (own_blk_ne (hel _ _ _ (h.el r0 (by simp))) hgl (by decide)) _, hbw.setCell (p := ⟨g, 1, none⟩) h.bg _, fun k cs hk => ?_⟩
  · rw [Array.getElem?_setIfInBounds_ne (by omega)]; exact h.c0
  · rw [Array.getElem?_setIfInBounds_self_of_lt hl1]
  · rw [Array.getElem?_setIfInBounds_ne (by omega)]; exact h.c2
  · have ho : w'.ownsRow B 66 1 (.slice (some ⟨g2, 0, none⟩) els.length cap2) els.length (els.map RowV.val) := by
      refine ⟨by simp, .inr ⟨g2, cap2, _, rfl, hB2, hrow, by omega, hcm, ?_, ?_⟩⟩
      · simp [hcs]; omega
      · rw [Nat.mul_one]
        simp
    exact ownsRow_setCell_other (a := ⟨g, 1, none⟩) ho (own_blk_ne ho hgl (by decide)) _
  · have h1 := hel _ _ _ (h.el r (by simp [hr]))
    exact ownsRow_setCell_other (a := ⟨g, 1, none⟩) h1 (own_blk_ne h1 hgl (by decide)) _
  · have hk' : Blk w' k 95 cs := (oth k (Blk.ne_ hk hg2 (by decide))).trans hk
    exact hk'.far (p := ⟨g, 1, none⟩) (Blk.ne_ hk' hgl (by decide)) _

section
variable {w : World} {B b g cap : Nat} {cur : Array Value} {room : Int} {wv : Value} {cl : Bool} {els : List RowV}
set_option maxHeartbeats 1000000 in
theorem pop_none (h : PSt w B b g cap cur room wv cl []) :
    Calls Try.prog 29 #[.pointer (some ⟨b, 0, none⟩), .int .i64 1] w fun e w' => e = .returned (.tuple #[.slice none 0 0, .bool false]) ∧ ∃ q, w' = w.drewN q := by
  obtain ⟨c0, c1, c2, c3⟩ := h.cells
  obtain ⟨A, c, rfl⟩ := h.len
  have HA := hide (at_one b g cap w c0)
  simp only [List.length_nil] at c2
  clear h
  go_enter Try.func29, Try.ntmps29
  go_wp2_with fail
  refine HA.out.mono ?_
  rintro e w' ⟨rfl, rfl⟩
  go_wp2_with fail
  go_ret2
  exact ⟨rfl, 0, rfl⟩

set_option maxHeartbeats 1000000 in
theorem pop_one {r0 : RowV} (h : PSt w B b g cap cur room wv cl (r0 :: els)) (hone : els.length ≤ 1000) :
    Calls Try.prog 29 #[.pointer (some ⟨b, 0, none⟩), .int .i64 1] w fun e w' => e = .returned (.tuple #[.slice r0.A r0.n r0.c, .bool true]) ∧
      ∃ cur' v', PSt w' B b g cap cur' room v' cl els ∧ w'.ownsRow B 95 5 (.slice r0.A r0.n r0.c) r0.n (cellsV r0.vs) ∧ Below B w w' ∧ ∀ k cs, Blk w k 95 cs → Blk w' k 95 cs := by
  obtain ⟨c0, c1, c2, c3⟩ := h.cells
  have hwt := h.wt
  rcases hwt.2 with ⟨_, h0⟩ | ⟨g2, cap2, cur2, hv, hB2, hg2, hcap, hcm, hcs, htk⟩
  · simp at h0
  simp only [List.length_cons] at hv hcap
  subst hv
  have hc20 : w.cell? ⟨g2, 0, none⟩ = some (.slice r0.A r0.n r0.c) := by
    have hk : cur2.toList[0]? = some r0.val := by
      have hh : (cur2.toList.take ((els.length + 1) * 1))[0]? = some r0.val := by
        simp only [List.length_cons, List.map_cons] at htk
        rw [htk]; rfl
      rw [List.getElem?_take_of_lt (by omega)] at hh
      exact hh
    rw [show w.cell? ⟨g2, 0, none⟩ = cur2[0]? from Blk.cell hg2 0]
    simpa [RowV.val] using hk
  have HA := hide (at_one b g cap w c0)
  have HH := hide h
  have hlen : ¬ ((els.length : Int) + 1 = 0) := by omega
  clear h
  go_enter Try.func29, Try.ntmps29
  go_wp2_with fail
  refine HA.out.mono ?_
  rintro e w' ⟨rfl, rfl⟩
  go_wp2_with fail
  refine (delete_row els.length g2 cap2 r0.val (els.map RowV.val) cur2 w hg2 hcap (by unfold maxLen at hcm; omega) (by omega) (by simpa using htk) (fun u hu => by
    obtain ⟨r, _, rfl⟩ := List.mem_map.1 hu
    rfl)).mono ?_
  rintro e w5 ⟨rfl, q, hw5⟩
  have hgg2 : g ≠ g2 := Blk.ne_ HH.out.gl hg2 (by decide)
  have hgl5 : Blk w5 g 113 cur := by
    rw [hw5]
    show (((w.setRow g2 _).setCell ⟨g2, els.length, none⟩ _)).heap[g]? = _
    rw [Below.heap_setCell _ _ _ _ hgg2, setRow_other _ _ _ _ hgg2]
    exact HH.out.gl
  have d1 := (hgl5.cell 1).trans HH.out.c1
  have f1 := hgl5.frozen 1
  have E := hide (pop_end HH.out hg2 hB2 hcap hcm (by omega) q w5 hw5)
  clear hw5 hgl5 hwt htk hg2 c0 c1 c2 c3 hc20 HA
  go_wp2_with fail
  go_ret2
  exact ⟨rfl, _, _, E.out.1, E.out.2.1, E.out.2.2.1, E.out.2.2.2⟩
end

end Go.Proofs.Ytllddgfmjmblmaa
