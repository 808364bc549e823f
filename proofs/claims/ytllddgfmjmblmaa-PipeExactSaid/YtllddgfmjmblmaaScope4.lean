/- Open and Put of package scope; conditions: the scopes are ones of the call's own. -/
import Derived.Test.YtllddgfmjmblmaaScope3
namespace Go.Proofs.Ytllddgfmjmblmaa
open Go.RowKit Go.WideShapes Go.ChangeShapes
set_option linter.unusedVariables false
set_option maxRecDepth 100000

theorem MP.ne_own {w : World} {gm B e s n : Nat} {v : Value} {xs : List Value} {tbl : List ((Int × ByteArray) × Nat)} (h : MP w gm tbl) (ho : w.ownsRow B e s v n xs) : v.ownBlock ≠ some gm := by
  obtain ⟨_, _, es, clock, hb, _⟩ := h
  rcases ho.2 with ⟨rfl, _⟩ | ⟨g, cap, cur, rfl, _, hg, _⟩
  · simp [Value.ownBlock]
  · intro e
    have : g = gm := by simpa [Value.ownBlock] using e
    subst this
    rw [hb] at hg
    cases hg
theorem MP.ne_blk {w : World} {gm b : Nat} {t : TypeId} {cs : Array Value} {tbl : List ((Int × ByteArray) × Nat)} (h : MP w gm tbl) (ho : Blk w b t cs) : gm ≠ b := by
  rintro rfl
  obtain ⟨_, _, es, clock, hb, _⟩ := h
  unfold Blk at ho
  rw [hb] at ho
  cases ho
theorem MP.alloc {w : World} {gm : Nat} {tbl : List ((Int × ByteArray) × Nat)} (h : MP w gm tbl) (o : Obj) : MP (w.alloc o) gm tbl := h.same (Below.heap_alloc w o gm h.lt)
theorem own_ne_own7 {w : World} {B B' e e' s s' n n' : Nat} {v v' : Value} {xs xs' : List Value} (h : w.ownsRow B e s v n xs) (h' : w.ownsRow B' e' s' v' n' xs') (hne : e ≠ e') : v.ownBlock = none ∨ v.ownBlock ≠ v'.ownBlock := by
  rcases h'.2 with ⟨rfl, _⟩ | ⟨g, cap, cur, rfl, _, hg, _⟩
  · cases hv : v.ownBlock with
    | none => exact .inl rfl
    | some a => exact .inr (by simp [Value.ownBlock])
  · refine .inr ?_
    show v.ownBlock ≠ some g
    exact own_blk_ne h hg hne
theorem reads_new7 (w : World) (cs : Array Value) (t : TypeId) (size n : Nat) (hs : cs.size = n * size) :
    Reads (w.alloc (.cells cs t)) (w.alloc (.cells cs t)).heap.size size (some ⟨w.heap.size, 0, none⟩) n cs.toList := by
  refine ⟨by simpa using hs, fun _ => ⟨_, rfl, by simp, fun j u hu => ?_⟩⟩
  have hb : Blk (w.alloc (.cells cs t)) w.heap.size t cs := Blk.new _ _ _
  have e : (⟨w.heap.size, 0, none⟩ : Addr).add j = ⟨w.heap.size, j, none⟩ := by unfold Addr.add; split <;> simp_all
  rw [e, hb.cell j]
  simpa using hu

section
variable {w : World} {B b gm : Nat} {vo vj : Value} {outer : List Int} {objs : List ObjV} {tbl : List ((Int × ByteArray) × Nat)}
theorem SC.alloc (h : SC w B b gm vo vj outer objs tbl) (o : Obj) : SC (w.alloc o) B b gm vo vj outer objs tbl := h.below ((Below.refl _ _).alloc (Nat.le_refl _) o)
theorem SC.lt (h : SC w B b gm vo vj outer objs tbl) : B ≤ w.heap.size := Nat.le_trans h.bb (Nat.le_of_lt h.bl.lt)

/-- What stands behind a scope that is opened. -/
theorem open_end {w6 : World} {v6 : Value} {a : Int} (h : SC w B b gm vo vj outer objs tbl) (hg6 : w.grownBy w6 vo.ownBlock) (hown6 : w6.ownsRow B 3 1 v6 (outer.length + 1) (outer.map (Value.int .i64) ++ [.int .i64 a])) :
    SC (w6.setCell ⟨b, 0, none⟩ v6) B b gm v6 vj (outer ++ [a]) objs tbl ∧ Below B w (w6.setCell ⟨b, 0, none⟩ v6) := by
  have hbl6 : Blk w6 b 106 #[vo, vj, .map (some gm)] := h.bl.grown hg6 (fun e => own_blk_ne h.ou h.bl (by decide) e.symm)
  have hmp6 : MP w6 gm tbl := h.mp.same (hg6.block gm h.mp.lt (fun e => h.mp.ne_own h.ou e.symm))
  refine ⟨⟨by have h := hbl6.set_ 0 v6; simpa using h, ?_, ?_, ?_, h.bb, h.bm⟩, (((Below.refl B w).grown hg6 h.lt (fun k hk => (h.ou.lt k hk).1))).setCell (p := ⟨b, 0, none⟩) h.bb _⟩
  · have h7 := ownsRow_setCell_other (a := ⟨b, 0, none⟩) hown6 (own_blk_ne hown6 hbl6 (by decide)) v6
    simpa using h7
  · have h6 := h.ob.kept hg6 (own_ne_own7 h.ob h.ou (by decide))
    exact ownsRow_setCell_other (a := ⟨b, 0, none⟩) h6 (own_blk_ne h6 hbl6 (by decide)) _
  · exact hmp6.same (Below.heap_setCell _ _ _ _ (hmp6.ne_blk hbl6))

theorem outer_push {outer : List Int} (h : OuterOk outer) {a : Int} (ha : hasB outer.length a = true) : OuterOk (outer ++ [a]) := by
  rw [hasB_iff] at ha
  intro j v hv
  by_cases hj : j < outer.length
  · rw [List.getElem?_append_left hj] at hv; exact h j v hv
  · rw [List.getElem?_append_right (by omega)] at hv
    have hj0 : j - outer.length = 0 := by
      have := (List.getElem?_eq_some_iff.1 hv).1
      simp at this
      omega
    rw [hj0] at hv
    simp at hv
    omega

set_option maxHeartbeats 2000000 in
theorem open_ok (h : SC w B b gm vo vj outer objs tbl) (a : Int) (ha : hasB outer.length a = true) (hn : outer.length ≤ 1000) :
    Calls Try.prog 21 #[.pointer (some ⟨b, 0, none⟩), .int .i64 a] w fun e w' => e = .returned (.tuple #[.int .i64 (outer.length + 1), .int .i64 0]) ∧
      ∃ v', SC w' B b gm v' vj (outer ++ [a]) objs tbl ∧ Below B w w' := by
  obtain ⟨c0, c1, c2⟩ := h.cells
  obtain ⟨A0, k0, rfl⟩ := own_form7 h.ou
  have hsc := has_scope h a
  rw [ha] at hsc
  have HSC := hide hsc
  have HH := hide h
  obtain ⟨i0, hi0, hz0, hz1, hz2⟩ := info_parts intInfo7
  have hlt := h.bl.lt
  have c0a : (w.alloc (.cells #[.int .i64 a] 3)).cell? ⟨b, 0, none⟩ = some (.slice A0 outer.length k0) := (World.cell?_alloc_lt w _ ⟨b, 0, none⟩ hlt).trans c0
  have hge : decide ((65536 : Int) ≤ (outer.length : Int)) = false := decide_eq_false (by omega)
  have HN := hide hn
  clear h hsc ha hn
  go_enter Try.func21, Try.ntmps21
  go_wp2_with fail
  refine HSC.out.mono ?_
  rintro e w' ⟨rfl, rfl⟩
  go_wp2_with (first
    | (at_builtin
       refine wpList_append_any _ rfl (.tmp 25) (.tmp 27) _ rfl B 3 i0 _ 1 8 Try.underlying30 hi0 hz0 hz1 hz2 rfl (by omega) (.slice A0 outer.length k0) outer.length (outer.map (Value.int .i64)) rfl
         (HH.out.alloc _).ou (w.heap.size + 1) (some ⟨w.heap.size, 0, none⟩) 1 1 [.int .i64 a] rfl (by have h := reads_new7 w #[.int .i64 a] 3 1 1 rfl; simpa using h) (by intro u hu; simp at hu; subst hu; rfl) (by have := HN.out; simp only [maxLen]; omega) (by have := HN.out; omega) (by have := HH.out.lt; simp; omega) ?_
       intro v1 w1 hown1 hg1 hat1
       obtain ⟨A1, k1, rfl⟩ := own_form7 hown1
       have hbl1 := (HH.out.alloc (.cells #[.int .i64 a] 3)).bl.grown hg1 (fun e => own_blk_ne (HH.out.alloc (.cells #[.int .i64 a] 3)).ou (HH.out.alloc (.cells #[.int .i64 a] 3)).bl (by decide) e.symm)
       have d0 : w1.cell? ⟨b, 0, none⟩ = some (.slice A0 outer.length k0) := hbl1.cell 0
       have f0 := hbl1.frozen 0))
  go_ret2
  obtain ⟨e1, e2⟩ := open_end (HH.out.alloc (.cells #[.int .i64 a] 3)) hg1 hown1
  exact ⟨rfl, _, e1, ((Below.refl _ _).alloc HH.out.lt _).trans e2⟩

theorem open_arg (h : SC w B b gm vo vj outer objs tbl) (a : Int) (ha : hasB outer.length a = false) :
    Calls Try.prog 21 #[.pointer (some ⟨b, 0, none⟩), .int .i64 a] w fun e w' => e = .returned (.tuple #[.int .i64 0, .int .i64 1]) ∧ w = w' := by
  have hsc := has_scope h a
  rw [ha] at hsc
  have HSC := hide hsc
  clear h hsc ha
  go_enter Try.func21, Try.ntmps21
  go_wp2_with fail
  refine HSC.out.mono ?_
  rintro e w' ⟨rfl, rfl⟩
  go_wp2_with fail
  go_ret2
  exact ⟨rfl, rfl⟩
end

end Go.Proofs.Ytllddgfmjmblmaa
