/- The short funcs of a builder (Stmt, Label, Mark, Reg); conditions: it is in memory. -/
import Derived.Test.YtfdjomkkagommaaCoS
import Derived.StillTailTactics
namespace Go.Proofs.Ytfdjomkkagommaa
open Go.RowKit Go.WideShapes Go.ChangeShapes
set_option linter.unusedVariables false
set_option linter.unusedSimpArgs false
set_option maxRecDepth 100000

theorem BR.same {w : World} {B : Nat} {b : Bd} (h : BR w B b) (p r s : Int) (e : Bool) : BR w B { b with put := p, regs := r, stmt := s, ends := e } := ⟨h.co, h.be, h.la, h.sm, h.el, h.ne, h.nb⟩
/-- What a func of a builder leaves: the answer, and the builder as b. -/
def BOut (B g : Nat) (w : World) (v : Value) (b : Bd) (e : Ending) (w' : World) : Prop := e = .returned v ∧ BT w' B g b ∧ w.heap.size ≤ w'.heap.size ∧ Below B w w'
theorem stmt_any (B g : Nat) (b : Bd) (s : Int) (w : World) (h : BT w B g b) : Calls Try.prog 11 #[.pointer (some ⟨g, 0, none⟩), .int .i64 s] w (BOut B g w (iI b.stmt) { b with stmt := s }) := by
  have z7 : w.cell? ⟨g, 7, none⟩ = some (iI b.stmt) := h.bl.cell 7
  have f7 := h.bl.frozen 7
  have HT := hide (show BT (w.setCell ⟨g, 7, none⟩ (.int .i64 s)) B g { b with stmt := s } from ⟨h.bl.set_ 7 _, (h.br.setCell (h.br.off_blk h.bl) _).same b.put b.regs s b.ends, h.gB⟩)
  have HB := hide (show Below B w (w.setCell ⟨g, 7, none⟩ (.int .i64 s)) from (Below.refl _ _).setCell (p := ⟨g, 7, none⟩) h.gB _)
  clear h
  go_enter Try.func11, Try.ntmps11
  go_wp2_with fail
  go_ret
  exact ⟨rfl, HT.out, HB.out.size, HB.out⟩
theorem BR.label {w w' : World} {B : Nat} {b : Bd} (h : BR w B b) (hg : w.grownBy w' b.lv.ownBlock) {v' : Value} {L : List Int} (hv : w'.ownsRow B 3 1 v' L.length (L.map iI)) (hat : v'.ownBlock = b.lv.ownBlock ∨ v'.ownBlock = some w.heap.size) : BR w' B { b with labels := L, lv := v' } :=
  ⟨own_grT h.co hg (grow_ne h.co h.la (by decide)), own_grT h.be hg (fun k hk e => (h.ne k e.symm).1 hk), hv, own_grT h.sm hg (grow_ne h.sm h.la (by decide)),
    fun x hx => ⟨own_grT (h.el x hx).1 hg (fun k hk e => (h.ne k e.symm).2 x hx hk), own_grT (h.el x hx).2 hg (grow_ne (h.el x hx).2 h.la (by decide))⟩,
    fun k hk => by
      rcases hat with e | e
      · exact h.ne k (e.symm.trans hk)
      · have hk2 : w.heap.size = k := by injection e.symm.trans hk
        exact ⟨fun e2 => by have := (h.be.lt k e2).2; omega, fun x hx e2 => by have := ((h.el x hx).1.lt k e2).2; omega⟩,
    h.nb⟩
theorem BR.far_ {w w' : World} {B : Nat} {b : Bd} (h : BR w B b) (hg : w.grownBy w' b.bv.ownBlock) {v' : Value} {L : List Int} (hv : w'.ownsRow B 3 1 v' L.length (L.map iI)) (hat : v'.ownBlock = b.bv.ownBlock ∨ v'.ownBlock = some w.heap.size) : BR w' B { b with beyond := L, bv := v' } :=
  ⟨own_grT h.co hg (grow_ne h.co h.be (by decide)), hv, own_grT h.la hg (fun k hk e => (h.ne k hk).1 e.symm), own_grT h.sm hg (grow_ne h.sm h.be (by decide)),
    fun x hx => ⟨own_grT (h.el x hx).1 hg (fun k hk e => h.nb k e.symm x hx hk), own_grT (h.el x hx).2 hg (grow_ne (h.el x hx).2 h.be (by decide))⟩,
    fun k hk => ⟨fun e2 => by
      rcases hat with e | e
      · exact (h.ne k hk).1 (e.symm.trans e2)
      · have hk2 : w.heap.size = k := by injection e.symm.trans e2
        have := (h.la.lt k hk).2
        omega, (h.ne k hk).2⟩,
    fun k hk x hx e2 => by
      rcases hat with e | e
      · exact h.nb k (e.symm.trans hk) x hx e2
      · have hk2 : w.heap.size = k := by injection e.symm.trans hk
        have := ((h.el x hx).1.lt k e2).2
        omega⟩
theorem BR.stmts_ {w w' : World} {B : Nat} {b : Bd} (h : BR w B b) (hg : w.grownBy w' b.sv.ownBlock) {v' : Value} {L : List Sm} (hv : w'.ownsRow B 32 4 v' L.length (L.flatMap Sm.enc)) : BR w' B { b with stmts := L, sv := v' } :=
  ⟨own_grT h.co hg (grow_ne h.co h.sm (by decide)), own_grT h.be hg (grow_ne h.be h.sm (by decide)), own_grT h.la hg (grow_ne h.la h.sm (by decide)), hv,
    fun x hx => ⟨own_grT (h.el x hx).1 hg (grow_ne (h.el x hx).1 h.sm (by decide)), own_grT (h.el x hx).2 hg (grow_ne (h.el x hx).2 h.sm (by decide))⟩, h.ne, h.nb⟩
set_option maxHeartbeats 2000000 in
theorem label_any (B g : Nat) (b : Bd) (w : World) (h : BT w B g b) (hn : b.labels.length ≤ 100000) : Calls Try.prog 9 #[.pointer (some ⟨g, 0, none⟩)] w fun e w' => ∃ lv, BOut B g w (iI (b.labels.length : Int)) { b with labels := b.labels ++ [-1], lv := lv } e w' := by
  obtain ⟨i0, hi0, hz0, hz1, hz2⟩ := info_parts intInfoT
  obtain ⟨Al, cl, hlv⟩ := own_formT h.br.la
  obtain ⟨n, hn0⟩ : ∃ n, n = b.labels.length := ⟨_, rfl⟩
  rw [← hn0] at hlv
  have z5 : w.cell? ⟨g, 5, none⟩ = some (.slice Al n cl) := by rw [← hlv]; exact h.bl.cell 5
  have q1 : IntKind.i64.wrap (((n + 1 : Nat) : Int) - 1) = (n : Int) := by rw [show ((n + 1 : Nat) : Int) - 1 = (n : Int) by omega]; exact IntWalk.i64_in _ (by omega)
  have q2 : IntKind.i64.wrap ((n : Int) + 1 - 1) = (n : Int) := by rw [show (n : Int) + 1 - 1 = (n : Int) by omega]; exact IntWalk.i64_in _ (by omega)
  have hBw : B ≤ w.heap.size := by have := h.bl.lt; have := h.gB; omega
  obtain ⟨W1, hW1⟩ : ∃ W1, W1 = w.alloc (.cells #[.int .i64 (-1)] 3) := ⟨_, rfl⟩
  have hb1 : Below w.heap.size w W1 := by rw [hW1]; exact (Below.refl _ _).alloc (Nat.le_refl _) _
  have hT1 := h.below hb1
  have hc1 : Blk W1 w.heap.size 3 #[.int .i64 (-1)] := by rw [hW1]; exact Blk.new _ _ _
  have hz : W1.heap.size = w.heap.size + 1 := by rw [hW1]; simp
  have hla : W1.ownsRow B 3 1 (.slice Al n cl) n (b.labels.map iI) := by rw [← hlv, hn0]; exact hT1.br.la
  have HT1 := hide hT1
  have HB1 := hide (hb1.mono hBw)
  have HL := hide (And.intro hn0 (And.intro hn (And.intro hlv (And.intro hBw hz))))
  have HC := hide hc1
  have HLA := hide hla
  have HW1 := hide hW1
  clear h hn hlv hn0 hb1 hT1 hc1 hla hW1 hBw hz
  go_enter Try.func9, Try.ntmps9
  go_upto_region 1 with (fail)
  go_wp2_with (first
    | (at_builtin
       rw [← HW1.out]
       refine wpList_append_any _ rfl (.tmp 7) (.tmp 8) _ rfl B 3 i0 _ 1 8 Try.underlying22 hi0 hz0 hz1 hz2 rfl (by omega) (.slice Al n cl) n _ rfl HLA.out (w.heap.size + 1) (some ⟨w.heap.size, 0, none⟩) 1 1 [.int .i64 (-1)] rfl ⟨rfl, fun _ => ⟨_, rfl, Nat.lt_succ_self _, fun q u hu => by rw [Addr.add_lit, Nat.zero_add, HC.out.cell q]; simpa using hu⟩⟩ (by intro u hu; simp at hu; subst hu; rfl) (by have := HL.out; simp only [maxLen]; omega) (by have := HL.out; omega) (by have := HL.out; omega) ?_
       intro v6 w6 hown6 hg6 hat6
       obtain ⟨A6, c6, rfl⟩ := own_formT hown6
       have hg6' : W1.grownBy w6 b.lv.ownBlock := by rw [HL.out.2.2.1]; exact hg6
       have hbl6 : Blk w6 g 63 b.arr := HT1.out.bl.grown hg6' (fun e => own_blk_ne HT1.out.br.la HT1.out.bl (by decide) e.symm)
       have hbr6 : BR w6 B { b with labels := b.labels ++ [-1], lv := .slice A6 (n + 1) c6 } := HT1.out.br.label hg6' (by rw [List.length_append, ← HL.out.1, List.map_append]; exact hown6) (by rw [HL.out.2.2.1]; exact hat6)
       have hf6 := hbl6.frozen 5
       have y6 : w6.cell? ⟨g, 5, none⟩ = some b.lv := hbl6.cell 5
       have HT6 := hide (show BT (w6.setCell ⟨g, 5, none⟩ (.slice A6 (n + 1) c6)) B g { b with labels := b.labels ++ [-1], lv := .slice A6 (n + 1) c6 } from ⟨hbl6.set_ 5 _, hbr6.setCell (hbr6.off_blk hbl6) _, HT1.out.gB⟩)
       have HB6 := hide (show Below B w (w6.setCell ⟨g, 5, none⟩ (.slice A6 (n + 1) c6)) from (HB1.out.grown hg6' (by have := HL.out; omega) (fun k hk => (HT1.out.br.la.lt k hk).1)).setCell (p := ⟨g, 5, none⟩) HT1.out.gB _)
       clear hown6 hg6 hat6 hg6' hbl6 hbr6 z5))
  go_ret
  refine ⟨_, ?_, HT6.out, HB6.out.size, HB6.out⟩
  rw [← HL.out.1]
  have hw2 : wrap64 (n : Int) = (n : Int) := by have := HL.out.2.1; have := HL.out.1; unfold wrap64; omega
  show Ending.returned (.int .i64 (wrap64 (n : Int))) = _
  rw [hw2]
theorem BR.mark {w : World} {B g7 k : Nat} {b : Bd} {u : Value} {L : List Int} {cur : Array Value} (h : BR w B b) (hk : b.lv.ownBlock = some g7) (hb7 : Blk w g7 3 cur) (hv : (w.setCell ⟨g7, k, none⟩ u).ownsRow B 3 1 b.lv L.length (L.map iI)) : BR (w.setCell ⟨g7, k, none⟩ u) B { b with labels := L } :=
  ⟨ownsRow_setCell_other (a := ⟨g7, k, none⟩) h.co (own_blk_ne h.co hb7 (by decide)) u, ownsRow_setCell_other (a := ⟨g7, k, none⟩) h.be (h.ne g7 hk).1 u, hv, ownsRow_setCell_other (a := ⟨g7, k, none⟩) h.sm (own_blk_ne h.sm hb7 (by decide)) u,
    fun x hx => ⟨ownsRow_setCell_other (a := ⟨g7, k, none⟩) (h.el x hx).1 ((h.ne g7 hk).2 x hx) u, ownsRow_setCell_other (a := ⟨g7, k, none⟩) (h.el x hx).2 (own_blk_ne (h.el x hx).2 hb7 (by decide)) u⟩, h.ne, h.nb⟩
theorem BR.drew_ {w : World} {B : Nat} {b : Bd} (h : BR w B b) : BR w.drew B b := h.below (Below.refl _ _).drew
def markB (b : Bd) (x : Int) : Bd := if 0 ≤ x ∧ x < (b.labels.length : Int) then { b with labels := b.labels.set x.toNat b.put } else b
set_option maxHeartbeats 2000000 in
theorem mark_any (B g : Nat) (b : Bd) (x : Int) (w : World) (h : BT w B g b) : Calls Try.prog 12 #[.pointer (some ⟨g, 0, none⟩), .int .i64 x] w (BOut B g w (.tuple #[]) (markB b x)) := by
  obtain ⟨Al, cl, hlv⟩ := own_formT h.br.la
  obtain ⟨n, hn0⟩ : ∃ n, n = b.labels.length := ⟨_, rfl⟩
  rw [← hn0] at hlv
  have z5 : w.cell? ⟨g, 5, none⟩ = some (.slice Al n cl) := by rw [← hlv]; exact h.bl.cell 5
  by_cases h1 : 0 ≤ x
  · by_cases h2 : x < (n : Int)
    · obtain ⟨k, rfl⟩ : ∃ k : Nat, x = (k : Int) := ⟨x.toNat, by omega⟩
      have hk : k < n := by omega
      have z1 : w.cell? ⟨g, 1, none⟩ = some (.int .i64 b.put) := h.bl.cell 1
      have hla := h.br.la
      rw [hlv, ← hn0] at hla
      rcases hla.2 with ⟨hx0, _⟩ | ⟨g7, cap, cur, hv7, hB7, hg7, _⟩
      · injection hx0 with _ hx0
        omega
      · injection hv7 with h71 h72 h73
        subst h71 h73
        have hm : markB b (k : Int) = { b with labels := b.labels.set k b.put } := by unfold markB; rw [if_pos ⟨h1, by rw [← hn0]; exact h2⟩]; rfl
        have hset := own_set (q := k) hla (iI b.put)
        have hget := hla.cells (g := g7) rfl k _ (by rw [List.getElem?_map, List.getElem?_eq_getElem (by omega)]; rfl)
        have hb7 : Blk w g7 3 cur := hg7
        have f7 := hb7.frozen k
        have hlvo : b.lv.ownBlock = some g7 := by rw [hlv]; rfl
        have hgg : g ≠ g7 := fun e => own_blk_ne h.br.la h.bl (by decide) (by rw [hlvo, e])
        have hset2 : (w.setCell ⟨g7, k, none⟩ (iI b.put)).ownsRow B 3 1 b.lv (b.labels.set k b.put).length ((b.labels.set k b.put).map iI) := by rw [List.length_set, List.map_set, ← hn0, hlv]; exact hset
        have HT := hide (show BT (w.setCell ⟨g7, k, none⟩ (iI b.put)).drew B g { b with labels := b.labels.set k b.put } from ⟨(h.bl.far (p := ⟨g7, k, none⟩) hgg _).drew, (h.br.mark hlvo hb7 hset2).drew_, h.gB⟩)
        have HB := hide (show Below B w (w.setCell ⟨g7, k, none⟩ (iI b.put)).drew from ((Below.refl _ _).setCell (p := ⟨g7, k, none⟩) hB7 _).drew)
        rw [Addr.add_lit, Nat.zero_add] at hget
        have hge2 : ∃ vv, w.cell? ⟨g7, k, none⟩ = some vv := ⟨_, hget⟩
        clear hget
        obtain ⟨vv, hget⟩ := hge2
        rw [hm]
        clear h hm hla hset hset2 hlvo hgg hb7 hg7 hlv hn0 hB7 h72
        go_enter Try.func12, Try.ntmps12
        go_upto_region 1 with (fail)
        go_still_tail 10, (by kernel_rfl)
        go_wp2_with fail
        go_end0
        exact ⟨rfl, HT.out, HB.out.size, HB.out⟩
    · have hm : markB b x = b := by unfold markB; rw [if_neg (by rw [← hn0]; omega)]
      have HT := hide h
      rw [hm]
      clear h hm
      go_enter Try.func12, Try.ntmps12
      go_wp2_with fail
      go_end0
      exact ⟨rfl, HT.out, Nat.le_refl _, Below.refl _ _⟩
  · have hm : markB b x = b := by unfold markB; rw [if_neg (by omega)]
    have HT := hide h
    rw [hm]
    clear h hm
    go_enter Try.func12, Try.ntmps12
    go_wp2_with fail
    go_end0
    exact ⟨rfl, HT.out, Nat.le_refl _, Below.refl _ _⟩
end Go.Proofs.Ytfdjomkkagommaa
