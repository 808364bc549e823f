/- New, Make, Close, Push, Pop of package pipe on one channel; conditions: the channels are ones of the call's own. -/
import Derived.Test.YtllddgfmjmblmaaPipe
namespace Go.Proofs.Ytllddgfmjmblmaa
open Go.RowKit Go.WideShapes Go.ChangeShapes
set_option linter.unusedVariables false
set_option maxRecDepth 100000

theorem own_mono_ {w : World} {B B' e s n : Nat} {v : Value} {xs : List Value} (h : w.ownsRow B e s v n xs) (hb : B' ≤ B) : w.ownsRow B' e s v n xs := by
  refine ⟨h.1, ?_⟩
  rcases h.2 with h | ⟨g, cap, cur, e, hg, r⟩
  · exact .inl h
  · exact .inr ⟨g, cap, cur, e, Nat.le_trans hb hg, r⟩

theorem pnew_any (w : World) : Calls Try.prog 24 #[] w fun e w' => e = .returned (.pointer (some ⟨w.heap.size, 0, none⟩)) ∧ w.alloc (.cells #[.slice none 0 0] 111) = w' := by
  go_enter Try.func24, Try.ntmps24
  go_wp2
  go_ret
  exact ⟨rfl, rfl⟩

theorem rowInfo : (Try.prog.info? 66).map (fun i => (i.zero, i.size, i.bytes)) = some (some (.slice none 0 0), 1, 24) := by kernel_rfl
theorem chanInfo : (Try.prog.info? 113).map (fun i => (i.zero, i.size, i.bytes)) = some (some (.agg #[.int .i64 0, .slice none 0 0, .bool false]), 3, 40) := by kernel_rfl

set_option maxHeartbeats 1000000 in
theorem pmake_one (B b room : Nat) (w : World) (hb : Blk w b 111 #[.slice none 0 0]) (hr : room ≤ 1024) (hB : B ≤ b) :
    Calls Try.prog 26 #[.pointer (some ⟨b, 0, none⟩), .int .i64 room] w fun e w' => e = .returned (.tuple #[.int .i64 1, .int .i64 0]) ∧
      ∃ g cap cur, PSt w' B b g cap cur room (.slice none 0 0) false [] ∧ Below B w w' := by
  have hc : w.cell? ⟨b, 0, none⟩ = some (.slice none 0 0) := hb.cell 0
  have hf := hb.frozen 0
  have hlt := hb.lt
  have h1 : decide ((room : Int) < 0) = false := decide_eq_false (by omega)
  have h2 : decide (1024 < (room : Int)) = false := decide_eq_false (by omega)
  have HB := hide hb
  clear hb
  go_enter Try.func26, Try.ntmps26
  go_wp2_with fail
  go_ret2
  refine ⟨rfl, w.heap.size + 1, ((Question.appendCap 1 0 113).cut (w.tape w.drawn (Question.appendCap 1 0 113))), (#[.int .i64 room, .slice none 0 0, .bool false] ++ Builtin.zeroCells #[.int .i64 0, .slice none 0 0, .bool false] ((Question.appendCap 1 0 113).cut (w.tape w.drawn (Question.appendCap 1 0 113)) - 1)), ⟨?_, ?_, ?_, ?_, ?_, World.ownsRow_nil _ _ _ _, by simp, hB, by omega⟩, ?_⟩
  · have h := ((HB.out.set_ 0 (.slice (some ⟨w.heap.size + 1, 0, none⟩) 1 ((Question.appendCap 1 0 113).cut (w.tape w.drawn (Question.appendCap 1 0 113))))).alloc (.cells #[.int .i64 room, .slice none 0 0, .bool false] 113)).alloc
      (.cells (#[.int .i64 room, .slice none 0 0, .bool false] ++ Builtin.zeroCells #[.int .i64 0, .slice none 0 0, .bool false] ((Question.appendCap 1 0 113).cut (w.tape w.drawn (Question.appendCap 1 0 113)) - 1)) 113)
    exact h.drew
  · refine Blk.drew ?_
    refine blk_new_at ?_
    simp [World.setCell]
  · rw [Array.getElem?_append_left (by simp)]; rfl
  · rw [Array.getElem?_append_left (by simp)]; rfl
  · rw [Array.getElem?_append_left (by simp)]; rfl
  · refine Below.drew ?_
    exact (((Below.refl _ _).setCell (p := ⟨b, 0, none⟩) hB _).alloc (by simp [World.setCell]; omega) _).alloc (by simp [World.setCell]; omega) _

theorem clone_any (m d : Nat) (A : Option Addr) (ls : List Val) (w : World) (hl : RV w w.heap.size A m ls) (hm : m ≤ 70000) :
    Calls Try.prog 57 #[.slice A m d] w fun e w' => ∃ A' c', e = .returned (.slice A' m c') ∧ w'.ownsRow w.heap.size 95 5 (.slice A' m c') m (cellsV ls) ∧ Below w.heap.size w w' := by
  cases A with
  | none =>
    have hm0 : m = 0 := by
      rcases Nat.eq_zero_or_pos m with h0 | h0
      · exact h0
      · obtain ⟨a, e, _⟩ := hl.2.2 h0; cases e
    subst hm0
    have hl0 : ls = [] := List.eq_nil_of_length_eq_zero hl.1
    subst hl0
    refine (clone_nil d w).mono ?_
    rintro e w' ⟨rfl, rfl⟩
    exact ⟨none, 0, rfl, World.ownsRow_nil _ _ _ _, Below.refl _ _⟩
  | some a =>
    refine (clone_ok a m d (cellsV ls) w hl.2 (cellsV_one ls) hm).mono ?_
    rintro e w' ⟨v', rfl, hown, hb⟩
    obtain ⟨A', c', rfl⟩ := own_form hown
    exact ⟨A', c', rfl, hown, hb⟩

theorem own_ne_own {w : World} {B B' e e' s s' n n' : Nat} {v v' : Value} {xs xs' : List Value} (h : w.ownsRow B e s v n xs) (h' : w.ownsRow B' e' s' v' n' xs') (hne : e ≠ e') : v.ownBlock = none ∨ v.ownBlock ≠ v'.ownBlock := by
  rcases h'.2 with ⟨rfl, _⟩ | ⟨g, cap, cur, rfl, _, hg, _⟩
  · cases hv : v.ownBlock with
    | none => exact .inl rfl
    | some a => exact .inr (by simp [Value.ownBlock])
  · refine .inr ?_
    show v.ownBlock ≠ some g
    exact own_blk_ne h hg hne

/-- What stands behind a push. -/
theorem push_end {W w5 w6 : World} {B b g cap m c5 : Nat} {cur : Array Value} {room : Int} {wv v6 : Value} {els : List RowV} {A5 : Option Addr} {ls : List Val} {o : Obj} (h : PSt W B b g cap cur room wv false els) (hB : B ≤ W.heap.size) (hb5 : Below W.heap.size W w5)
    (hown5 : w5.ownsRow W.heap.size 95 5 (.slice A5 m c5) m (cellsV ls)) (hg6 : (w5.alloc o).grownBy w6 wv.ownBlock) (hown6 : w6.ownsRow B 66 1 v6 (els.length + 1) (els.map RowV.val ++ [.slice A5 m c5])) :
    PSt (w6.setCell ⟨g, 1, none⟩ v6) B b g cap (cur.setIfInBounds 1 v6) room v6 false (els ++ [⟨A5, m, c5, ls⟩]) ∧ Below B W (w6.setCell ⟨g, 1, none⟩ v6) ∧ ∀ k cs, Blk W k 95 cs → Blk (w6.setCell ⟨g, 1, none⟩ v6) k 95 cs := by
  have h5 := h.below hb5
  have hwt : (w5.alloc o).ownsRow B 66 1 wv els.length (els.map RowV.val) := h5.wt.alloc o
  have hbl6 : Blk w6 b 111 #[.slice (some ⟨g, 0, none⟩) 1 cap] := (h5.bl.alloc o).grown hg6 (fun e => own_blk_ne hwt (h5.bl.alloc o) (by decide) e.symm)
  have hgl6 : Blk w6 g 113 cur := (h5.gl.alloc o).grown hg6 (fun e => own_blk_ne hwt (h5.gl.alloc o) (by decide) e.symm)
  have hbg : b ≠ g := Blk.ne_ hbl6 hgl6 (by decide)
  have hel : ∀ r : Value, ∀ (n : Nat) (xs : List Value), w5.ownsRow B 95 5 r n xs → (w6.setCell ⟨g, 1, none⟩ v6).ownsRow B 95 5 r n xs := fun r n xs hr => by
    have h6 := (hr.alloc o).kept hg6 (own_ne_own (hr.alloc o) hwt (by decide))
    exact ownsRow_setCell_other (a := ⟨g, 1, none⟩) h6 (own_blk_ne h6 hgl6 (by decide)) _
  have hl1 : 1 < cur.size := (Array.getElem?_eq_some_iff.1 h.c1).1
  refine ⟨⟨hbl6.far (p := ⟨g, 1, none⟩) hbg _, hgl6.set_ 1 v6, ?_, ?_, ?_, ?_, ?_, h.bb, h.bg⟩, ?_, ?_⟩
  · rw [Array.getElem?_setIfInBounds_ne (by omega)]; exact h.c0
  · rw [Array.getElem?_setIfInBounds_self_of_lt hl1]
  · rw [Array.getElem?_setIfInBounds_ne (by omega)]; exact h.c2
  · have h7 := ownsRow_setCell_other (a := ⟨g, 1, none⟩) hown6 (own_blk_ne hown6 hgl6 (by decide)) v6
    simpa [RowV.val] using h7
  · intro r hr
    rcases List.mem_append.1 hr with hr | hr
    · exact hel _ _ _ (h5.el r hr)
    · rw [List.mem_singleton] at hr
      subst hr
      exact hel _ _ _ (own_mono_ hown5 hB)
  · exact (((hb5.mono hB).alloc (Nat.le_trans hB hb5.size) o).grown hg6 (by simp; exact Nat.le_trans hB (Nat.le_succ_of_le hb5.size)) (fun k hk => by have := (hwt.lt k hk).1; omega)).setCell (p := ⟨g, 1, none⟩) h.bg _
  · intro k cs hk
    have hk5 := (hk.below hb5 hk.lt).alloc o
    have hk6 := hk5.grown hg6 (fun e => own_blk_ne hwt hk5 (by decide) e.symm)
    exact hk6.far (p := ⟨g, 1, none⟩) (Blk.ne_ hk6 hgl6 (by decide)) _

theorem pst_drewN {w : World} {B b g cap : Nat} {cur : Array Value} {room : Int} {wv : Value} {cl : Bool} {els : List RowV} (h : PSt w B b g cap cur room wv cl els) (q : Nat) : PSt (w.drewN q) B b g cap cur room wv cl els :=
  ⟨h.bl.drewN q, h.gl.drewN q, h.c0, h.c1, h.c2, h.wt, h.el, h.bb, h.bg⟩
theorem pst_drew {w : World} {B b g cap : Nat} {cur : Array Value} {room : Int} {wv : Value} {cl : Bool} {els : List RowV} (h : PSt w B b g cap cur room wv cl els) : PSt w.drew B b g cap cur room wv cl els :=
  ⟨h.bl.drew, h.gl.drew, h.c0, h.c1, h.c2, h.wt, h.el, h.bb, h.bg⟩
theorem pst_close {w : World} {B b g cap : Nat} {cur : Array Value} {room : Int} {wv : Value} {cl : Bool} {els : List RowV} (h : PSt w B b g cap cur room wv cl els) : PSt (w.setCell ⟨g, 2, none⟩ (.bool true)) B b g cap (cur.setIfInBounds 2 (.bool true)) room wv true els := by
  have hbg : b ≠ g := Blk.ne_ h.bl h.gl (by decide)
  have hl2 : 2 < cur.size := (Array.getElem?_eq_some_iff.1 h.c2).1
  refine ⟨h.bl.far (p := ⟨g, 2, none⟩) hbg _, h.gl.set_ 2 _, ?_, ?_, ?_, ownsRow_setCell_other (a := ⟨g, 2, none⟩) h.wt (own_blk_ne h.wt h.gl (by decide)) _, fun r hr => ownsRow_setCell_other (a := ⟨g, 2, none⟩) (h.el r hr) (own_blk_ne (h.el r hr) h.gl (by decide)) _, h.bb, h.bg⟩
  · rw [Array.getElem?_setIfInBounds_ne (by omega)]; exact h.c0
  · rw [Array.getElem?_setIfInBounds_ne (by omega)]; exact h.c1
  · rw [Array.getElem?_setIfInBounds_self_of_lt hl2]

section
variable {w : World} {B b g cap : Nat} {cur : Array Value} {room : Int} {wv : Value} {els : List RowV}
set_option maxHeartbeats 1000000 in
theorem close_ok (h : PSt w B b g cap cur room wv false els) :
    Calls Try.prog 32 #[.pointer (some ⟨b, 0, none⟩), .int .i64 1] w fun e w' => e = .returned (.int .i64 0) ∧ w' = w.setCell ⟨g, 2, none⟩ (.bool true) := by
  obtain ⟨c0, c1, c2, c3⟩ := h.cells
  have hf := h.gl.frozen 2
  have HA := hide (at_one b g cap w c0)
  clear h
  go_enter Try.func32, Try.ntmps32
  go_wp2_with fail
  refine HA.out.mono ?_
  rintro e w' ⟨rfl, rfl⟩
  go_wp2_with fail
  go_ret
  exact ⟨rfl, rfl⟩

set_option maxHeartbeats 1000000 in
theorem close_state (h : PSt w B b g cap cur room wv true els) :
    Calls Try.prog 32 #[.pointer (some ⟨b, 0, none⟩), .int .i64 1] w fun e w' => e = .returned (.int .i64 15) ∧ w = w' := by
  obtain ⟨c0, c1, c2, c3⟩ := h.cells
  have HA := hide (at_one b g cap w c0)
  clear h
  go_enter Try.func32, Try.ntmps32
  go_wp2_with fail
  refine HA.out.mono ?_
  rintro e w' ⟨rfl, rfl⟩
  go_wp2_with fail
  go_ret
  exact ⟨rfl, rfl⟩

set_option maxHeartbeats 1000000 in
theorem push_closed (m d : Nat) (A : Option Addr) (h : PSt w B b g cap cur room wv true els) :
    Calls Try.prog 27 #[.pointer (some ⟨b, 0, none⟩), .int .i64 1, .slice A m d] w fun e w' => e = .returned (.int .i64 15) ∧ w = w' := by
  obtain ⟨c0, c1, c2, c3⟩ := h.cells
  have HA := hide (at_one b g cap w c0)
  clear h
  go_enter Try.func27, Try.ntmps27
  go_wp2_with fail
  refine HA.out.mono ?_
  rintro e w' ⟨rfl, rfl⟩
  go_wp2_with fail
  go_ret
  exact ⟨rfl, rfl⟩

set_option maxHeartbeats 1000000 in
theorem push_full (m d : Nat) (A : Option Addr) (h : PSt w B b g cap cur room wv false els) (hr : room ≤ els.length) :
    Calls Try.prog 27 #[.pointer (some ⟨b, 0, none⟩), .int .i64 1, .slice A m d] w fun e w' => e = .returned (.int .i64 14) ∧ ∃ q, w' = w.drewN q := by
  obtain ⟨c0, c1, c2, c3⟩ := h.cells
  have HA := hide (at_one b g cap w c0)
  have hfl := full_one h
  rw [decide_eq_true hr] at hfl
  have HF := hide hfl
  clear h hfl
  go_enter Try.func27, Try.ntmps27
  go_wp2_with fail
  refine HA.out.mono ?_
  rintro e w' ⟨rfl, rfl⟩
  go_wp2_with fail
  refine HF.out.mono ?_
  rintro e w' ⟨rfl, q, rfl⟩
  go_wp2_with fail
  go_ret
  exact ⟨rfl, q, rfl⟩

set_option maxHeartbeats 1000000 in
theorem push_ok (m d : Nat) (A : Option Addr) (ls : List Val) (h : PSt w B b g cap cur room wv false els) (hr : ¬ room ≤ els.length) (hl : RV w w.heap.size A m ls) (hm : m ≤ 20) (hn : els.length ≤ 1000) (hB : B ≤ w.heap.size) :
    Calls Try.prog 27 #[.pointer (some ⟨b, 0, none⟩), .int .i64 1, .slice A m d] w fun e w' => e = .returned (.int .i64 0) ∧
      ∃ cur' v' r, PSt w' B b g cap cur' room v' false (els ++ [r]) ∧ r.vs = ls ∧ r.n = m ∧ Below B w w' ∧ ∀ k cs, Blk w k 95 cs → Blk w' k 95 cs := by
  obtain ⟨c0, c1, c2, c3⟩ := h.cells
  obtain ⟨A0, k0, rfl⟩ := h.len
  have HA := hide (at_one b g cap w c0)
  have hfl := full_one h
  rw [decide_eq_false hr] at hfl
  have HF := hide hfl
  have HH := hide h
  have HL := hide hl
  clear h hfl hl
  go_enter Try.func27, Try.ntmps27
  go_wp2_with fail
  refine HA.out.mono ?_
  rintro e w' ⟨rfl, rfl⟩
  go_wp2_with fail
  refine HF.out.mono ?_
  rintro e w' ⟨rfl, q, rfl⟩
  go_wp2_with fail
  obtain ⟨W, hW⟩ : ∃ W : World, W = (w.drewN q).drew := ⟨_, rfl⟩
  have hhW : PSt W B b g cap cur room (.slice A0 els.length k0) false els := by rw [hW]; exact pst_drew (pst_drewN HH.out q)
  have hlW : RV W W.heap.size A m ls := by rw [hW]; exact HL.out
  have hBW : B ≤ W.heap.size := by rw [hW]; exact hB
  have hbW : Below B w W := by rw [hW]; exact (below_drewN (Below.refl _ _) q).drew
  have hvW : ∀ k cs, Blk w k 95 cs → Blk W k 95 cs := fun k cs hk => by rw [hW]; exact (hk.drewN q).drew
  obtain ⟨i0, hi0, hz0, hz1, hz2⟩ := info_parts rowInfo
  have hcl := clone_any m d A ls W hlW (by omega)
  have f5 : ∀ w5, Below W.heap.size W w5 → w5.cell? ⟨g, 1, none⟩ = some (.slice A0 els.length k0) := fun w5 hb5 => (hhW.below hb5).cells.2.2.1
  have hWs : W.heap.size = w.heap.size := by rw [hW]; rfl
  rw [hW] at hcl
  have HC := hide hcl
  have HHW := hide hhW
  have HWE := hide hW
  clear hcl hhW hlW hW
  go_region_law (first
    | (go_simp; go_at_call 57; refine HC.out.mono ?_; rintro e w5 ⟨A5, c5, rfl, hown5, hb5⟩; rw [← HWE.out] at hown5 hb5; have c5' := f5 w5 hb5; have c5a : (w5.alloc (.cells #[.slice A5 m c5] 66)).cell? ⟨g, 1, none⟩ = some (.slice A0 els.length k0) := f5 _ (hb5.alloc hb5.size _))
    | (refine step_append_any _ rfl (.tmp 30) (.tmp 33) _ rfl B 66 i0 _ 1 24 Try.underlying70 hi0 hz0 hz1 hz2 rfl (by omega) (.slice A0 els.length k0) els.length _ (by simp [Act.eval]) ((HHW.out.below hb5).wt.alloc _) (w5.heap.size + 1) (some ⟨w5.heap.size, 0, none⟩) 1 1 [.slice A5 m c5] (by simp [Act.eval]) (by have h := reads_new w5 #[.slice A5 m c5] 66 1 1 rfl; simpa using h) (by intro u hu; simp at hu; subst hu; rfl) (by simp only [maxLen]; omega) (by omega) (by have := hb5.size; simp; omega) ?_; intro v6 w6 hown6 hg6 hat6; obtain ⟨A6, k6, rfl⟩ := own_form hown6; have hgl6 := ((HHW.out.below hb5).gl.alloc (.cells #[.slice A5 m c5] 66)).grown hg6 (fun e => own_blk_ne ((HHW.out.below hb5).wt.alloc (.cells #[.slice A5 m c5] 66)) ((HHW.out.below hb5).gl.alloc _) (by decide) e.symm); have c6 := (hgl6.cell 1).trans HHW.out.c1; have f6 := hgl6.frozen 1))
  go_ways
  all_goals go_wp2_with fail
  all_goals go_ret
  all_goals
    obtain ⟨e1, e2, e3⟩ := push_end HHW.out hBW hb5 hown5 hg6 hown6
    exact ⟨rfl, _, _, _, e1, rfl, rfl, hbW.trans e2, fun k cs hk => e3 k cs (hvW k cs hk)⟩
end

end Go.Proofs.Ytllddgfmjmblmaa
