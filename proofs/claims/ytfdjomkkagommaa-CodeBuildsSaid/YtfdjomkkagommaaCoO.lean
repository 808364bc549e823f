/- Builders in memory; the simple funcs of a builder (New, isLong, Put); conditions: as each says. -/
import Derived.Test.YtfdjomkkagommaaCoN
namespace Go.Proofs.Ytfdjomkkagommaa
open Go.RowKit Go.WideShapes Go.ChangeShapes
set_option linter.unusedVariables false
set_option linter.unusedSimpArgs false
set_option maxRecDepth 100000

/-- A statement of a builder. -/
structure Sm where
  n : Int
  f : Int
  l : Int
  c : Int
def Sm.enc (x : Sm) : List Value := [iI x.n, iI x.f, iI x.l, iI x.c]
/-- A builder. -/
structure Bd where
  code : List IV
  put : Int
  beyond : List Int
  ends : Bool
  regs : Int
  labels : List Int
  stmts : List Sm
  stmt : Int
  cv : Value
  bv : Value
  lv : Value
  sv : Value
abbrev Bd.arr (b : Bd) : Array Value := #[b.cv, .int .i64 b.put, b.bv, .bool b.ends, .int .i64 b.regs, b.lv, b.sv, .int .i64 b.stmt]
/-- The rows of a builder. -/
structure BR (w : World) (B : Nat) (b : Bd) : Prop where
  co : w.ownsRow B 39 22 b.cv b.code.length (b.code.flatMap IV.enc)
  be : w.ownsRow B 3 1 b.bv b.beyond.length (b.beyond.map iI)
  la : w.ownsRow B 3 1 b.lv b.labels.length (b.labels.map iI)
  sm : w.ownsRow B 32 4 b.sv b.stmts.length (b.stmts.flatMap Sm.enc)
  el : ∀ x ∈ b.code, w.ownsRow B 3 1 x.av x.i.args.length (x.i.args.map iI) ∧ w.ownsRow B 41 6 x.rv x.i.arms.length (x.i.arms.flatMap Arm.enc)
  ne : ∀ k, b.lv.ownBlock = some k → b.bv.ownBlock ≠ some k ∧ ∀ x ∈ b.code, x.av.ownBlock ≠ some k
  nb : ∀ k, b.bv.ownBlock = some k → ∀ x ∈ b.code, x.av.ownBlock ≠ some k
section
variable {w w' : World} {B g : Nat} {b : Bd}
theorem BR.below (h : BR w B b) (hb : Below w.heap.size w w') : BR w' B b :=
  ⟨own_belowT h.co hb, own_belowT h.be hb, own_belowT h.la hb, own_belowT h.sm hb, fun x hx => ⟨own_belowT (h.el x hx).1 hb, own_belowT (h.el x hx).2 hb⟩, h.ne, h.nb⟩
/-- Nothing of the rows lies in block k. -/
structure Off (b : Bd) (k : Nat) : Prop where
  oc : b.cv.ownBlock ≠ some k
  ob : b.bv.ownBlock ≠ some k
  ol : b.lv.ownBlock ≠ some k
  os : b.sv.ownBlock ≠ some k
  oe : ∀ x ∈ b.code, x.av.ownBlock ≠ some k ∧ x.rv.ownBlock ≠ some k
theorem BR.off_new (h : BR w B b) {k : Nat} (hk : w.heap.size ≤ k) : Off b k :=
  ⟨fun e => by have := (h.co.lt _ e).2; omega, fun e => by have := (h.be.lt _ e).2; omega, fun e => by have := (h.la.lt _ e).2; omega, fun e => by have := (h.sm.lt _ e).2; omega,
    fun x hx => ⟨fun e => by have := ((h.el x hx).1.lt _ e).2; omega, fun e => by have := ((h.el x hx).2.lt _ e).2; omega⟩⟩
theorem BR.off_blk (h : BR w B b) {k : Nat} {cs : Array Value} (hk : Blk w k 63 cs) : Off b k :=
  ⟨own_blk_ne h.co hk (by decide), own_blk_ne h.be hk (by decide), own_blk_ne h.la hk (by decide), own_blk_ne h.sm hk (by decide), fun x hx => ⟨own_blk_ne (h.el x hx).1 hk (by decide), own_blk_ne (h.el x hx).2 hk (by decide)⟩⟩
theorem BR.grown (h : BR w B b) {k : Nat} (hg : w.grownBy w' (some k)) (ho : Off b k) : BR w' B b := by
  have q : ∀ {e sz n : Nat} {v : Value} {xs : List Value}, w.ownsRow B e sz v n xs → v.ownBlock ≠ some k → w'.ownsRow B e sz v n xs := fun hr hn => own_grT hr hg (fun j hj e => hn (by rw [hj, e]))
  exact ⟨q h.co ho.oc, q h.be ho.ob, q h.la ho.ol, q h.sm ho.os, fun x hx => ⟨q (h.el x hx).1 (ho.oe x hx).1, q (h.el x hx).2 (ho.oe x hx).2⟩, h.ne, h.nb⟩
theorem BR.setCell (h : BR w B b) {k i : Nat} (ho : Off b k) (u : Value) : BR (w.setCell ⟨k, i, none⟩ u) B b :=
  ⟨ownsRow_setCell_other (a := ⟨k, i, none⟩) h.co ho.oc u, ownsRow_setCell_other (a := ⟨k, i, none⟩) h.be ho.ob u, ownsRow_setCell_other (a := ⟨k, i, none⟩) h.la ho.ol u, ownsRow_setCell_other (a := ⟨k, i, none⟩) h.sm ho.os u,
    fun x hx => ⟨ownsRow_setCell_other (a := ⟨k, i, none⟩) (h.el x hx).1 (ho.oe x hx).1 u, ownsRow_setCell_other (a := ⟨k, i, none⟩) (h.el x hx).2 (ho.oe x hx).2 u⟩, h.ne, h.nb⟩
end
/-- A builder in memory, in block g, with memory of its own from B on. -/
structure BT (w : World) (B g : Nat) (b : Bd) : Prop where
  bl : Blk w g 63 b.arr
  br : BR w B b
  gB : B ≤ g
theorem BT.below {w w' : World} {B g : Nat} {b : Bd} (h : BT w B g b) (hb : Below w.heap.size w w') : BT w' B g b := ⟨h.bl.below hb h.bl.lt, h.br.below hb, h.gB⟩
def emptyB : Bd := ⟨[], 0, [], false, 0, [], [], -1, .slice none 0 0, .slice none 0 0, .slice none 0 0, .slice none 0 0⟩
theorem new_any (w : World) : Calls Try.prog 7 #[] w fun e w' => e = .returned (.pointer (some ⟨w.heap.size, 0, none⟩)) ∧ BT w' w.heap.size w.heap.size emptyB ∧ Below w.heap.size w w' := by
  go_enter Try.func7, Try.ntmps7
  go_wp2_with fail
  go_ret
  refine ⟨rfl, ⟨Blk.new _ _ _, ⟨World.ownsRow_nil _ _ _ _, World.ownsRow_nil _ _ _ _, World.ownsRow_nil _ _ _ _, World.ownsRow_nil _ _ _ _, fun x hx => by (cases hx), fun k hk => by (cases hk), fun k hk => by (cases hk)⟩, Nat.le_refl _⟩, (Below.refl _ _).alloc (Nat.le_refl _) _⟩
def longB (b : Bd) : Bool := decide (65536 < b.regs) || decide (65536 < b.put)
theorem long_any (g : Nat) (b : Bd) (w : World) (h : Blk w g 63 b.arr) : Calls Try.prog 21 #[.pointer (some ⟨g, 0, none⟩)] w fun e w' => e = .returned (.bool (longB b)) ∧ w = w' := by
  have z1 : w.cell? ⟨g, 1, none⟩ = some (.int .i64 b.put) := h.cell 1
  have z4 : w.cell? ⟨g, 4, none⟩ = some (.int .i64 b.regs) := h.cell 4
  clear h
  by_cases h1 : 65536 < b.regs
  · have HF := hide (show longB b = true by unfold longB; rw [decide_eq_true h1]; rfl)
    go_enter Try.func21, Try.ntmps21
    go_wp2_with fail
    go_ret
    exact ⟨ret_bS HF.out.symm, rfl⟩
  · by_cases h2 : 65536 < b.put
    · have HF := hide (show longB b = true by unfold longB; rw [decide_eq_true h2]; simp)
      go_enter Try.func21, Try.ntmps21
      go_wp2_with fail
      go_ret
      exact ⟨ret_bS HF.out.symm, rfl⟩
    · have HF := hide (show longB b = false by unfold longB; rw [decide_eq_false h1, decide_eq_false h2]; rfl)
      go_enter Try.func21, Try.ntmps21
      go_wp2_with fail
      go_ret
      exact ⟨ret_bS HF.out.symm, rfl⟩
theorem insInfo : (Try.prog.info? 39).map (fun i => (i.zero, i.size, i.bytes)) = some (some (.agg #[.int .i64 0, .int .i64 0, .int .i64 0, .int .i64 0, .int .i64 0, .int .i64 0, .string ⟨#[]⟩, .int .i64 0, .int .i64 0, .int .i64 0, .int .i64 0, .string ⟨#[]⟩, .slice none 0 0, .int .i64 0, .int .i64 0, .slice none 0 0, .int .i64 0, .int .i64 0, .int .i64 0, .int .i64 0, .int .i64 0, .int .i64 0]), 22, 224) := by kernel_rfl
theorem grow_ne {W : World} {B B' e e' sz sz' n n' : Nat} {v v' : Value} {xs xs' : List Value} (h : W.ownsRow B e sz v n xs) (h' : W.ownsRow B' e' sz' v' n' xs') (hne : e ≠ e') : ∀ k, v.ownBlock = some k → some k ≠ v'.ownBlock := fun k hk e1 => by
  rcases rows_ne h h' hne with h2 | h2
  · rw [h2] at hk; cases hk
  · exact h2 (by rw [hk]; exact e1)
/-- An instruction more. -/
theorem BR.push {w w' : World} {B : Nat} {b : Bd} (h : BR w B b) (hg : w.grownBy w' b.cv.ownBlock) {x : IV} {v' : Value} (hv : w'.ownsRow B 39 22 v' (b.code.length + 1) (b.code.flatMap IV.enc ++ x.enc)) (h1 : w.ownsRow B 3 1 x.av x.i.args.length (x.i.args.map iI)) (h2 : w.ownsRow B 41 6 x.rv x.i.arms.length (x.i.arms.flatMap Arm.enc))
    (hl : ∀ k, b.lv.ownBlock = some k → x.av.ownBlock ≠ some k) (hb : ∀ k, b.bv.ownBlock = some k → x.av.ownBlock ≠ some k) : BR w' B { b with code := b.code ++ [x], cv := v' } :=
  ⟨by simpa [List.flatMap_append] using hv, own_grT h.be hg (grow_ne h.be h.co (by decide)), own_grT h.la hg (grow_ne h.la h.co (by decide)), own_grT h.sm hg (grow_ne h.sm h.co (by decide)),
    fun y hy => by
      rcases List.mem_append.1 hy with hy | hy
      · exact ⟨own_grT (h.el y hy).1 hg (grow_ne (h.el y hy).1 h.co (by decide)), own_grT (h.el y hy).2 hg (grow_ne (h.el y hy).2 h.co (by decide))⟩
      · simp at hy
        subst hy
        exact ⟨own_grT h1 hg (grow_ne h1 h.co (by decide)), own_grT h2 hg (grow_ne h2 h.co (by decide))⟩,
    fun k hk => ⟨(h.ne k hk).1, fun y hy => by
      rcases List.mem_append.1 hy with hy | hy
      · exact (h.ne k hk).2 y hy
      · simp at hy
        subst hy
        exact hl k hk⟩,
    fun k hk y hy => by
      rcases List.mem_append.1 hy with hy | hy
      · exact h.nb k hk y hy
      · simp at hy
        subst hy
        exact hb k hk⟩
/-- All but block g is as it was. -/
def KeepOff (g : Nat) (w W : World) : Prop := w.heap.size ≤ W.heap.size ∧ ∀ k, k ≠ g → k < w.heap.size → W.heap[k]? = w.heap[k]?
theorem KeepOff.of_below {g : Nat} {w W : World} (h : Below w.heap.size w W) : KeepOff g w W := ⟨h.size, fun k _ hk => h.block k hk⟩
theorem KeepOff.trans {g : Nat} {w W X : World} (h : KeepOff g w W) (h' : KeepOff g W X) : KeepOff g w X := ⟨Nat.le_trans h.1 h'.1, fun k hn hk => (h'.2 k hn (Nat.lt_of_lt_of_le hk h.1)).trans (h.2 k hn hk)⟩
theorem KeepOff.set_ (g i : Nat) (w : World) (u : Value) : KeepOff g w (w.setCell ⟨g, i, none⟩ u) := ⟨by simp, fun k hn _ => Below.heap_setCell w ⟨g, i, none⟩ u k hn⟩
/-- What a builder is behind a Put that is kept. -/
def putB (b : Bd) (i : Ins) (av rv cv : Value) : Bd := { b with code := b.code ++ [⟨{ i with st := b.stmt }, av, rv⟩], put := b.put + 1, ends := endsB i.op, cv := cv }
set_option maxHeartbeats 8000000 in
theorem put_any (B g : Nat) (b : Bd) (i : Ins) (av rv : Value) (w : World) (h : BT w B g b) (hi : ∀ W : World, KeepOff g w W → InsOk W i av rv) (hn : i.arms.length ≤ 100000 ∧ i.args.length ≤ 100000) (hl : b.code.length ≤ 100000) (hp : 0 ≤ b.put ∧ b.put ≤ 100000) (hlong : b.regs ≤ 65536 ∧ b.put + 1 ≤ 65536) :
    Calls Try.prog 13 #[.pointer (some ⟨g, 0, none⟩), i.val av rv] w fun e w' => e = .returned (.tuple #[]) ∧ ∃ av' rv' cv', BT w' B g (putB b i av' rv' cv') ∧ w.heap.size ≤ w'.heap.size ∧ Below B w w' := by
  obtain ⟨Aa, ca, rfl⟩ := (hi w (KeepOff.of_below (Below.refl _ _))).ar.form
  obtain ⟨Ar, cr, rfl⟩ := (hi w (KeepOff.of_below (Below.refl _ _))).rm.form
  obtain ⟨m, hm⟩ : ∃ m, m = i.arms.length := ⟨_, rfl⟩
  obtain ⟨ma, hma⟩ : ∃ ma, ma = i.args.length := ⟨_, rfl⟩
  rw [← hm, ← hma] at hi ⊢
  obtain ⟨a, ha⟩ : ∃ a, a = w.heap.size := ⟨_, rfl⟩
  obtain ⟨W1, hW1⟩ : ∃ W1, W1 = w.alloc (.cells (i.arr (.slice Aa ma ca) (.slice Ar m cr)) 39) := ⟨_, rfl⟩
  have hb1 : Below w.heap.size w W1 := by rw [hW1]; exact (Below.refl _ _).alloc (Nat.le_refl _) _
  have hba : Blk W1 a 39 (i.arr (.slice Aa ma ca) (.slice Ar m cr)) := by rw [hW1, ha]; exact Blk.new _ _ _
  have hT1 := h.below hb1
  have hga : g ≠ a := by have := h.bl.lt; omega
  have hoff : Off b a := h.br.off_new (by omega)
  have z1 : W1.cell? ⟨g, 1, none⟩ = some (.int .i64 b.put) := hT1.bl.cell 1
  have f1 := hT1.bl.frozen 1
  obtain ⟨p1, hp1⟩ : ∃ p1, p1 = b.put + 1 := ⟨_, rfl⟩
  have q1 : IntKind.i64.wrap (b.put + 1) = p1 := by rw [hp1]; exact IntWalk.i64_in _ (by omega)
  obtain ⟨W2, hW2⟩ : ∃ W2, W2 = W1.setCell ⟨g, 1, none⟩ (.int .i64 p1) := ⟨_, rfl⟩
  have hT2 : BT W2 B g { b with put := p1 } := by
    rw [hW2]
    exact ⟨hT1.bl.set_ 1 _, (hT1.br.setCell (hT1.br.off_blk hT1.bl) _ : BR _ B b) |> fun h => ⟨h.co, h.be, h.la, h.sm, h.el, h.ne, h.nb⟩, hT1.gB⟩
  have hBw : B ≤ w.heap.size := by have := h.bl.lt; have := h.gB; omega
  have hBB2 : Below B w W2 := by rw [hW2]; exact (hb1.mono hBw).setCell (p := ⟨g, 1, none⟩) h.gB _
  have HBw := hide (And.intro hBw (And.intro h.gB (show B ≤ a by omega)))
  have HBB2 := hide hBB2
  have hba2 : Blk W2 a 39 (i.arr (.slice Aa ma ca) (.slice Ar m cr)) := by rw [hW2]; exact hba.far (p := ⟨g, 1, none⟩) (by show a ≠ g; omega) _
  have hz2 : W2.heap.size = W1.heap.size := by rw [hW2]; simp
  obtain ⟨V, hV⟩ : ∃ V, V = i.val (.slice Aa ma ca) (.slice Ar m cr) := ⟨_, rfl⟩
  have hEN := ends_any i (.slice Aa ma ca) (.slice Ar m cr) W2
  rw [← hV] at hEN
  obtain ⟨eb, heb⟩ : ∃ eb, eb = endsB i.op := ⟨_, rfl⟩
  rw [← heb] at hEN
  have HEN := hide hEN
  have HEB := hide heb
  have HV := hide hV
  have HW1 := hide hW1
  have HA := hide ha
  have HW2 := hide hW2
  have HT2 := hide hT2
  have HBA2 := hide hba2
  have HB1 := hide hb1
  have HX := hide (show g ≠ a ∧ a < W2.heap.size ∧ W2.heap.size = W1.heap.size ∧ g < w.heap.size from ⟨hga, hba2.lt, hz2, h.bl.lt⟩)
  have HIN := hide hi
  have HOF := hide hoff
  have HM := hide (And.intro hm (And.intro hma hn))
  have HP := hide (And.intro hp1 (And.intro hl (And.intro hp hlong)))
  have HB0 := hide h
  clear hBw hBB2 h hi hm hma hn ha hW1 hb1 hba hT1 hga hoff hp1 hW2 hT2 hba2 hz2 hV hEN heb hl hp hlong
  go_enter Try.func13, Try.ntmps13
  go_upto_region 1 with (fail)
  rw [← HW1.out, ← HA.out]
  go_upto_region 2 with (fail)
  rw [← HW2.out]
  clear z1 f1 q1
  go_wp2_with (first
    | (refine wpList_load_blk (.tmp 3) HBA2.out HV.out Try.underlying39 rfl ins_size rfl rfl rfl ?_))
  refine HEN.out.mono ?_
  rintro e w3 ⟨rfl, hb3⟩
  have hT3 := HT2.out.below hb3
  have z3 : w3.cell? ⟨g, 3, none⟩ = some (.bool b.ends) := hT3.bl.cell 3
  have f3 := hT3.bl.frozen 3
  obtain ⟨W4, hW4⟩ : ∃ W4, W4 = w3.setCell ⟨g, 3, none⟩ (.bool eb) := ⟨_, rfl⟩
  have hT4 : BT W4 B g { b with put := p1, ends := eb } := by
    rw [hW4]
    exact ⟨hT3.bl.set_ 3 _, (hT3.br.setCell (hT3.br.off_blk hT3.bl) _ : BR _ B _) |> fun h => ⟨h.co, h.be, h.la, h.sm, h.el, h.ne, h.nb⟩, hT3.gB⟩
  have hba4 : Blk W4 a 39 (i.arr (.slice Aa ma ca) (.slice Ar m cr)) := by rw [hW4]; exact (HBA2.out.below hb3 HBA2.out.lt).far (p := ⟨g, 3, none⟩) (by show a ≠ g; have := HX.out.1; omega) _
  have hz4 : W4.heap.size = w3.heap.size := by rw [hW4]; simp
  have HBB4 := hide (show Below B w W4 by rw [hW4]; exact (HBB2.out.trans (hb3.mono (Nat.le_trans HBw.out.1 HBB2.out.size))).setCell (p := ⟨g, 3, none⟩) HBw.out.2.1 _)
  have HW4 := hide hW4
  have HT4 := hide hT4
  have HBA4 := hide hba4
  have HZ4 := hide (show w.heap.size ≤ W4.heap.size by rw [hz4]; have := hb3.size; have := HX.out.2.2.1; have := HB1.out.size; omega)
  have HIN4 : Hid (InsOk W4 i (.slice Aa ma ca) (.slice Ar m cr)) := hide (HIN.out W4 (by
    rw [hW4]
    refine (((KeepOff.of_below HB1.out).trans ?_).trans (KeepOff.of_below hb3)).trans (KeepOff.set_ _ _ _ _)
    rw [HW2.out]
    exact KeepOff.set_ _ _ _ _))
  have HLG := hide (long_any g { b with put := p1, ends := eb } W4 hT4.bl)
  rw [show longB { b with put := p1, ends := eb } = false by unfold longB; rw [decide_eq_false (by show ¬ 65536 < b.regs; have := HP.out; omega), decide_eq_false (by show ¬ 65536 < p1; have := HP.out; omega)]; rfl] at HLG
  clear hb3 hT3 hW4 hT4 hba4 hz4
  go_upto_region 3 with (fail)
  rw [← HW4.out]
  clear z3 f3
  go_wp2_with fail
  refine HLG.out.mono ?_
  rintro e w' ⟨rfl, rfl⟩
  have HCL := hide (cloned_any i (.slice Aa ma ca) (.slice Ar m cr) W4 HIN4.out (by have := HM.out; omega))
  rw [← HV.out] at HCL
  go_wp2_with (first
    | (refine wpList_load_blk (.tmp 3) HBA4.out HV.out Try.underlying39 rfl ins_size rfl rfl rfl ?_))
  refine HCL.out.mono ?_
  rintro e w6 ⟨av', rv', rfl, ho6, hr6, hb6⟩
  have HT6 := hide (HT4.out.below hb6)
  obtain ⟨A6, c6, rfl⟩ := own_formT ho6
  obtain ⟨A7, c7, rfl⟩ := own_formT hr6
  rw [← HM.out.2.1] at ho6
  rw [← HM.out.1] at hr6
  rw [← HM.out.2.1, ← HM.out.1]
  obtain ⟨V6, hV6⟩ : ∃ V6, V6 = i.val (.slice A6 ma c6) (.slice A7 m c7) := ⟨_, rfl⟩
  rw [← hV6]
  have HV6 := hide hV6
  have HBA6 := hide (HBA4.out.below hb6 HBA4.out.lt)
  have HON := hide (show (i.arr (.slice A6 ma c6) (.slice A7 m c7)).all (·.oneCell') = true by simp [Value.oneCell'])
  obtain ⟨W7, hW7⟩ : ∃ W7, W7 = w6.setRow a (i.arr (.slice A6 ma c6) (.slice A7 m c7)) := ⟨_, rfl⟩
  obtain ⟨f1, f2, f3⟩ := setRow_facts (cells := i.arr (.slice A6 ma c6) (.slice A7 m c7)) HBA6.out
  rw [← hW7] at f1 f2 f3
  have hoff : Off { b with put := p1, ends := eb } a := ⟨HOF.out.oc, HOF.out.ob, HOF.out.ol, HOF.out.os, HOF.out.oe⟩
  have hT7 : BT W7 B g { b with put := p1, ends := eb } := ⟨HT6.out.bl.grown f2 (fun e => by injection e with e; exact HX.out.1 e), HT6.out.br.grown f2 hoff, HT6.out.gB⟩
  have ho7 : W7.ownsRow W4.heap.size 3 1 (.slice A6 ma c6) ma (i.args.map iI) := own_grT ho6 f2 (fun k hk e => own_blk_ne ho6 HBA6.out (by decide) (by rw [hk, e]))
  have hr7 : W7.ownsRow W4.heap.size 41 6 (.slice A7 m c7) m (i.arms.flatMap Arm.enc) := own_grT hr6 f2 (fun k hk e => own_blk_ne hr6 HBA6.out (by decide) (by rw [hk, e]))
  have u7 : W7.cell? ⟨g, 7, none⟩ = some (.int .i64 b.stmt) := hT7.bl.cell 7
  have u16 : W7.cell? ⟨a, 16, none⟩ = some (.int .i64 i.st) := f1.cell 16
  have uf16 := f1.frozen 16
  obtain ⟨W8, hW8⟩ : ∃ W8, W8 = W7.setCell ⟨a, 16, none⟩ (.int .i64 b.stmt) := ⟨_, rfl⟩
  have hBB6 : Below B w w6 := HBB4.out.trans (hb6.mono (Nat.le_trans HBw.out.1 HBB4.out.size))
  have HBB8 := hide (show Below B w W8 by rw [hW8]; exact (hBB6.grown f2 (Nat.le_trans HBw.out.1 hBB6.size) (fun k hk => by cases hk; exact HBw.out.2.2)).setCell (p := ⟨a, 16, none⟩) HBw.out.2.2 _)
  clear hBB6
  have hba8 : Blk W8 a 39 (Ins.arr { i with st := b.stmt } (.slice A6 ma c6) (.slice A7 m c7)) := by rw [hW8]; exact f1.set_ 16 _
  have hoff8 : ∀ {x : Bd}, x.cv = b.cv → x.bv = b.bv → x.lv = b.lv → x.sv = b.sv → x.code = b.code → Off x a := fun h1 h2 h3 h4 h5 => ⟨by rw [h1]; exact HOF.out.oc, by rw [h2]; exact HOF.out.ob, by rw [h3]; exact HOF.out.ol, by rw [h4]; exact HOF.out.os, by rw [h5]; exact HOF.out.oe⟩
  have hT8 : BT W8 B g { b with put := p1, ends := eb } := by
    rw [hW8]
    exact ⟨hT7.bl.far (p := ⟨a, 16, none⟩) HX.out.1 _, hT7.br.setCell hoff _, hT7.gB⟩
  have ho8 : W8.ownsRow W4.heap.size 3 1 (.slice A6 ma c6) ma (i.args.map iI) := by rw [hW8]; exact ownsRow_setCell_other (a := ⟨a, 16, none⟩) ho7 (own_blk_ne ho7 f1 (by decide)) _
  have hr8 : W8.ownsRow W4.heap.size 41 6 (.slice A7 m c7) m (i.arms.flatMap Arm.enc) := by rw [hW8]; exact ownsRow_setCell_other (a := ⟨a, 16, none⟩) hr7 (own_blk_ne hr7 f1 (by decide)) _
  have hz8 : W4.heap.size ≤ W8.heap.size := by rw [hW8]; simp; rw [f3]; exact hb6.size
  obtain ⟨V8, hV8⟩ : ∃ V8, V8 = Ins.val { i with st := b.stmt } (.slice A6 ma c6) (.slice A7 m c7) := ⟨_, rfl⟩
  have HV8 := hide hV8
  have HW7 := hide hW7
  have HW8 := hide hW8
  have HT8 := hide hT8
  have HBA8 := hide hba8
  have HR8 := hide (And.intro ho8 (And.intro hr8 hz8))
  have HON8 := hide (show ((Ins.arr { i with st := b.stmt } (.slice A6 ma c6) (.slice A7 m c7)).toList).all (·.oneCell') = true by simp [Value.oneCell'])
  clear hV6 hW7 f1 f2 f3 hoff hT7 ho7 hr7 hba8 hT8 ho8 hr8 hz8 hV8 hW8 ho6 hr6 hb6 hoff8
  go_upto_region 6 with (first
    | (refine wpList_store_rowTo rfl 39 (.tmp 3) (.tmp 29) rfl rfl a (i.arr (.slice A6 ma c6) (.slice A7 m c7)) rfl HV6.out 39 _ HBA6.out ins_size rfl HON.out ?_))
  rw [← HW7.out]
  go_upto_region 7 with (fail)
  rw [← HW8.out]
  clear u7 u16 uf16
  obtain ⟨Ac, cc, hcv⟩ := own_formT HT8.out.br.co
  obtain ⟨cl, hcl⟩ : ∃ cl, cl = b.code.length := ⟨_, rfl⟩
  have hcv2 : b.cv = .slice Ac cl cc := by rw [hcl]; exact hcv
  have u0 : W8.cell? ⟨g, 0, none⟩ = some (.slice Ac cl cc) := by rw [← hcv2]; exact HT8.out.bl.cell 0
  obtain ⟨i0, hi0, hz0, hz1, hz2⟩ := info_parts insInfo
  have hco : W8.ownsRow B 39 22 (.slice Ac cl cc) cl (b.code.flatMap IV.enc) := by rw [← hcv2, hcl]; exact HT8.out.br.co
  have HCO := hide hco
  have HCV := hide (And.intro hcl hcv2)
  have hS0 : W8.cell? ⟨g, 0, none⟩ = some (.slice Ac cl cc) ∧ Blk W8 a 39 (Ins.arr { i with st := b.stmt } (.slice A6 ma c6) (.slice A7 m c7)) := ⟨u0, HBA8.out⟩
  clear hcv hcv2 hcl hco u0
  go_wp2_with fail
  refine wp_region_tail 10 (fun w' => w'.cell? ⟨g, 0, none⟩ = some (.slice Ac cl cc) ∧ Blk w' a 39 (Ins.arr { i with st := b.stmt } (.slice A6 ma c6) (.slice A7 m c7))) (by kernel_rfl) hS0 (fun hHeld => ?_)
  try simp only [Act.put, List.setIfInBounds_toArray, List.set_cons_zero, List.set_cons_succ]
  refine' wpTail_take (i := 0) (oi := _) ?hi5001 ?hs5001 ?hf5001 ?hr5001 ?hz5001 ?hQ5001 (v := _) (Or.inl ⟨?hw5001, ?hy5001⟩) (by assumption) ?_
  case hi5001 => (simp only [List.getElem?_toArray, List.getElem?_cons_zero]; exact rfl)
  case hs5001 => kernel_rfl
  case hf5001 => kernel_rfl
  case hr5001 => kernel_rfl
  case hz5001 => kernel_rfl
  case hQ5001 => exact fun _ _ _ h => h
  case hw5001 => rfl
  case hy5001 => (intro W0 hSw; (try dsimp only at hSw); go_simp; (try with_reducible rfl))
  try simp only [Act.put, List.setIfInBounds_toArray, List.set_cons_zero, List.set_cons_succ]
  refine' wpTail_take (i := 1) (oi := _) ?hi5002 ?hs5002 ?hf5002 ?hr5002 ?hz5002 ?hQ5002 (v := _) (Or.inl ⟨?hw5002, ?hy5002⟩) (by assumption) ?_
  case hi5002 => (simp only [List.getElem?_toArray, List.getElem?_cons_succ, List.getElem?_cons_zero]; exact rfl)
  case hs5002 => kernel_rfl
  case hf5002 => kernel_rfl
  case hr5002 => kernel_rfl
  case hz5002 => kernel_rfl
  case hQ5002 => exact fun _ _ _ h => h
  case hw5002 => rfl
  case hy5002 => (intro W0 hSw; (try dsimp only at hSw); go_simp; (try with_reducible rfl))
  try simp only [Act.put, List.setIfInBounds_toArray, List.set_cons_zero, List.set_cons_succ]
  refine' wpTail_take (i := 2) (oi := _) ?hi5003 ?hs5003 ?hf5003 ?hr5003 ?hz5003 ?hQ5003 (v := _) (Or.inl ⟨?hw5003, ?hy5003⟩) (by assumption) ?_
  case hi5003 => (simp only [List.getElem?_toArray, List.getElem?_cons_succ, List.getElem?_cons_zero]; exact rfl)
  case hs5003 => kernel_rfl
  case hf5003 => kernel_rfl
  case hr5003 => kernel_rfl
  case hz5003 => kernel_rfl
  case hQ5003 => exact fun _ _ _ h => h
  case hw5003 => rfl
  case hy5003 => (intro W0 hSw; (try dsimp only at hSw); go_simp; (try with_reducible rfl))
  try simp only [Act.put, List.setIfInBounds_toArray, List.set_cons_zero, List.set_cons_succ]
  refine' wpTail_take (i := 3) (oi := _) ?hi5004 ?hs5004 ?hf5004 ?hr5004 ?hz5004 ?hQ5004 (v := _) (Or.inl ⟨?hw5004, ?hy5004⟩) (by assumption) ?_
  case hi5004 => (simp only [List.getElem?_toArray, List.getElem?_cons_succ, List.getElem?_cons_zero]; exact rfl)
  case hs5004 => kernel_rfl
  case hf5004 => kernel_rfl
  case hr5004 => kernel_rfl
  case hz5004 => kernel_rfl
  case hQ5004 => exact fun _ _ _ h => h
  case hw5004 => rfl
  case hy5004 => (intro W0 hSw; (try dsimp only at hSw); go_simp; (try with_reducible rfl))
  try simp only [Act.put, List.setIfInBounds_toArray, List.set_cons_zero, List.set_cons_succ]
  refine' wpTail_take (i := 4) (oi := _) ?hi5005 ?hs5005 ?hf5005 ?hr5005 ?hz5005 ?hQ5005 (v := _) (Or.inl ⟨?hw5005, ?hy5005⟩) (by assumption) ?_
  case hi5005 => (simp only [List.getElem?_toArray, List.getElem?_cons_succ, List.getElem?_cons_zero]; exact rfl)
  case hs5005 => kernel_rfl
  case hf5005 => kernel_rfl
  case hr5005 => kernel_rfl
  case hz5005 => kernel_rfl
  case hQ5005 => exact fun _ _ _ h => h
  case hw5005 => rfl
  case hy5005 => (intro W0 hSw; (try dsimp only at hSw); have u0 : W0.cell? ⟨g, 0, none⟩ = some (.slice Ac cl cc) := hSw.1; go_simp; (try with_reducible rfl))
  try simp only [Act.put, List.setIfInBounds_toArray, List.set_cons_zero, List.set_cons_succ]
  refine' wpTail_take (i := 5) (oi := _) ?hi5006 ?hs5006 ?hf5006 ?hr5006 ?hz5006 ?hQ5006 (v := Ins.val { i with st := b.stmt } (.slice A6 ma c6) (.slice A7 m c7)) ?hy5006 (by assumption) ?_
  case hi5006 => (simp only [List.getElem?_toArray, List.getElem?_cons_succ, List.getElem?_cons_zero]; exact rfl)
  case hs5006 => kernel_rfl
  case hf5006 => kernel_rfl
  case hr5006 => kernel_rfl
  case hz5006 => kernel_rfl
  case hQ5006 => exact fun _ _ _ h => h
  case hy5006 => (exact yieldsIf_load_mid rfl 39 (.tmp 3) rfl a 0 rfl (Ins.arr { i with st := b.stmt } (.slice A6 ma c6) (.slice A7 m c7)).toList _ (fun W0 hSw j v hv => by rw [Nat.zero_add, Blk.cell hSw.2]; simpa using hv) Try.underlying39 rfl ins_size)
  try simp only [Act.put, List.setIfInBounds_toArray, List.set_cons_zero, List.set_cons_succ]
  refine' wpTail_one (i := 6) (o := _) (by kernel_rfl) ?ho5007 ?hw5007 (fun K hK => ?_)
  case ho5007 => (simp only [List.getElem?_toArray, List.getElem?_cons_succ, List.getElem?_cons_zero]; exact rfl)
  case hw5007 => rfl
  refine wp_buildSlice 43 39 1 #[(0, .tmp 40)] rfl (Ins.arr { i with st := b.stmt } (.slice A6 ma c6) (.slice A7 m c7)) i0 _ Try.underlying43 hi0 hz0 (by rw [hz1]; omega) (by rw [hz1]; omega) (by rw [hz1]; kernel_rfl) ?_
  obtain ⟨W9, hW9⟩ : ∃ W9, W9 = W8.drew.alloc (.cells (Ins.arr { i with st := b.stmt } (.slice A6 ma c6) (.slice A7 m c7)) 39) := ⟨_, rfl⟩
  have hb9 : Below W8.heap.size W8 W9 := by rw [hW9]; exact (Below.refl W8.heap.size W8).drew.alloc (Nat.le_refl _) _
  have hbn : Blk W9 W8.heap.size 39 (Ins.arr { i with st := b.stmt } (.slice A6 ma c6) (.slice A7 m c7)) := by rw [hW9]; exact Blk.new W8.drew _ _
  have hz9 : W9.heap.size = W8.heap.size + 1 := by rw [hW9]; simp
  have hS9 : W9.cell? ⟨g, 0, none⟩ = some (.slice Ac cl cc) ∧ Blk W9 a 39 (Ins.arr { i with st := b.stmt } (.slice A6 ma c6) (.slice A7 m c7)) := ⟨(hb9.cell (p := ⟨g, 0, none⟩) HT8.out.bl.lt).trans hS0.1, hS0.2.below hb9 HBA8.out.lt⟩
  rw [← hW9]
  refine hK.out _ _ (fun _ => hS9) ?_
  clear hK K
  try simp only [Act.put, List.setIfInBounds_toArray, List.set_cons_zero, List.set_cons_succ]
  refine' wpTail_one (i := 7) (o := _) (by kernel_rfl) ?ho5008 ?hw5008 (fun K hK => ?_)
  case ho5008 => (simp only [List.getElem?_toArray, List.getElem?_cons_succ, List.getElem?_cons_zero]; exact rfl)
  case hw5008 => rfl
  refine wp_append_any _ (.tmp 39) (.tmp 41) _ rfl B 39 i0 _ 22 224 Try.underlying43 hi0 hz0 hz1 hz2 rfl (by omega) (.slice Ac cl cc) cl _ rfl (own_belowT HCO.out hb9) (W8.heap.size + 1) (some ⟨W8.heap.size, 0, none⟩) 1 1 (Ins.arr { i with st := b.stmt } (.slice A6 ma c6) (.slice A7 m c7)).toList rfl ⟨rfl, fun _ => ⟨_, rfl, Nat.lt_succ_self _, fun q u hu => by rw [Addr.add_lit, Nat.zero_add, hbn.cell q]; simpa using hu⟩⟩ (fun u hu => List.all_eq_true.1 HON8.out u hu) (by have := HCV.out; have := HP.out; simp only [maxLen]; omega) (by have := HCV.out; have := HP.out; omega) (by have := HT8.out.gB; have := HT8.out.bl.lt; have := hb9.size; omega) ?_
  intro v10 w10 hown10 hg10 hat10
  obtain ⟨A10, c10, rfl⟩ := own_formT hown10
  have hT9 := HT8.out.below hb9
  have hg10' : W9.grownBy w10 b.cv.ownBlock := by rw [HCV.out.2]; exact hg10
  have hbl10 : Blk w10 g 63 (Bd.arr { b with put := p1, ends := eb }) := hT9.bl.grown hg10 (fun e => own_blk_ne (own_belowT HCO.out hb9) hT9.bl (by decide) e.symm)
  have hba10 : Blk w10 a 39 (Ins.arr { i with st := b.stmt } (.slice A6 ma c6) (.slice A7 m c7)) := hS9.2.grown hg10 (fun e => HOF.out.oc (by rw [HCV.out.2]; exact e.symm))
  have hS10 : w10.cell? ⟨g, 0, none⟩ = some (.slice Ac cl cc) ∧ Blk w10 a 39 (Ins.arr { i with st := b.stmt } (.slice A6 ma c6) (.slice A7 m c7)) := ⟨by rw [← HCV.out.2]; exact hbl10.cell 0, hba10⟩
  have hBW4 : B ≤ W4.heap.size := by have := HT8.out.gB; have := HX.out.2.2.2; have := HZ4.out; omega
  have hR10 : BR w10 B { b with put := p1, ends := eb, code := b.code ++ [⟨{ i with st := b.stmt }, .slice A6 ma c6, .slice A7 m c7⟩], cv := .slice A10 (cl + 1) c10 } :=
    BR.push (b := { b with put := p1, ends := eb }) (x := ⟨{ i with st := b.stmt }, .slice A6 ma c6, .slice A7 m c7⟩) hT9.br hg10' (by show w10.ownsRow B 39 22 (.slice A10 (cl + 1) c10) (b.code.length + 1) _; rw [← HCV.out.1]; exact hown10)
      (by have h := own_monoT (own_belowT HR8.out.1 hb9) hBW4; rw [HM.out.2.1] at h; rw [HM.out.2.1]; exact h) (by have h := own_monoT (own_belowT HR8.out.2.1 hb9) hBW4; rw [HM.out.1] at h; rw [HM.out.1]; exact h)
      (fun k hk e => by have h1 := (HR8.out.1.lt k e).1; have h2 := (HB0.out.br.la.lt k hk).2; have := HZ4.out; omega)
      (fun k hk e => by have h1 := (HR8.out.1.lt k e).1; have h2 := (HB0.out.br.be.lt k hk).2; have := HZ4.out; omega)
  have hf10 := hbl10.frozen 0
  have hT10 : BT (w10.setCell ⟨g, 0, none⟩ (.slice A10 (cl + 1) c10)) B g (putB b i (.slice A6 ma c6) (.slice A7 m c7) (.slice A10 (cl + 1) c10)) := by
    have h1 := hbl10.set_ 0 (.slice A10 (cl + 1) c10)
    have h2 := hR10.setCell (i := 0) (hR10.off_blk hbl10) (.slice A10 (cl + 1) c10)
    have e1 : p1 = b.put + 1 := HP.out.1
    have e2 : eb = endsB i.op := HEB.out
    subst e1 e2
    exact ⟨h1, h2, HT8.out.gB⟩
  have HT10 := hide hT10
  have HBB10 := hide (show Below B w (w10.setCell ⟨g, 0, none⟩ (.slice A10 (cl + 1) c10)) from ((HBB8.out.trans (hb9.mono (Nat.le_trans HBw.out.1 HBB8.out.size))).grown hg10 (Nat.le_trans HBw.out.1 (HBB8.out.trans (hb9.mono (Nat.le_trans HBw.out.1 HBB8.out.size))).size) (fun k hk => ((own_belowT HCO.out hb9).lt k hk).1)).setCell (p := ⟨g, 0, none⟩) HBw.out.2.1 _)
  have HSZ10 := hide (show w.heap.size ≤ (w10.setCell ⟨g, 0, none⟩ (.slice A10 (cl + 1) c10)).heap.size by simp; have := hg10.size; have := HR8.out.2.2; have := HZ4.out; omega)
  refine hK.out _ _ (fun _ => hS10) ?_
  clear hK K
  clear hR10 hT10 hBW4 hba10 hbl10 hg10' hT9 hat10 hg10 hown10 hbn hb9 hz9 hW9 hS9
  try simp only [Act.put, List.setIfInBounds_toArray, List.set_cons_zero, List.set_cons_succ]
  refine' wpTail_one (i := 8) (o := _) (by kernel_rfl) ?ho5009 ?hw5009 (fun K hK => ?_)
  case ho5009 => (simp only [List.getElem?_toArray, List.getElem?_cons_succ, List.getElem?_cons_zero]; exact rfl)
  case hw5009 => rfl
  go_simp
  refine hK.out _ _ (fun _ => hS10) ?_
  clear hK K
  try simp only [Act.put, List.setIfInBounds_toArray, List.set_cons_zero, List.set_cons_succ]
  refine' wpTail_one (i := 9) (o := _) (by kernel_rfl) ?ho5010 ?hw5010 (fun K hK => ?_)
  case ho5010 => (simp only [List.getElem?_toArray, List.getElem?_cons_succ, List.getElem?_cons_zero]; exact rfl)
  case hw5010 => rfl
  go_simp
  refine hK.out _ _ (fun _ => hS10) ?_
  clear hK K
  have t10 := hS10.1
  try simp only [Act.put, List.setIfInBounds_toArray, List.set_cons_zero, List.set_cons_succ]
  refine' wpTail_one (i := 10) (o := _) (by kernel_rfl) ?ho5011 ?hw5011 (fun K hK => ?_)
  case ho5011 => (simp only [List.getElem?_toArray, List.getElem?_cons_succ, List.getElem?_cons_zero]; exact rfl)
  case hw5011 => rfl
  go_simp
  refine hK.out _ _ (fun h => absurd rfl h) ?_
  clear hK K
  refine wpTail_done (by kernel_rfl) ?_ _
  try simp only [Act.put, List.setIfInBounds_toArray, List.set_cons_zero, List.set_cons_succ]
  clear hHeld hS10
  go_wp2_with fail
  go_end0
  exact ⟨rfl, _, _, _, HT10.out, HSZ10.out, HBB10.out⟩
end Go.Proofs.Ytfdjomkkagommaa
