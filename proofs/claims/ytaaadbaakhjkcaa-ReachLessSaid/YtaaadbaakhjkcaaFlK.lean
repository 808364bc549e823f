/- The answer of Of; Of of code that can't be; conditions: the func is in memory. -/
import Derived.Test.YtaaadbaakhjkcaaFlJ
namespace Go.Proofs.Ytaaadbaakhjkcaa
open Go.RowKit Go.WideShapes Go.ChangeShapes
set_option linter.unusedVariables false
set_option linter.unusedSimpArgs false
set_option maxRecDepth 100000

abbrev grA (vb va vo : Value) : Array Value := #[vb, va, vo]
abbrev grV (vb va vo : Value) : Value := .agg #[vb, va, vo]
theorem gr_size : (Try.prog.info? 34).map (·.size) = some 3 := by kernel_rfl
theorem gr_und : ((Try.prog.underlying 34).map fun d => (match d with | .struct _ | .array _ _ => true | _ => false)) = some true := by kernel_rfl
theorem ret_gr {fn : Func} {t : Tmp} (hf : fn.results = #[.cell t 34]) {R : Ending → World → Prop} {a : Act} {wf : World} {g : Nat} {vb va vo : Value} (hp : a.tmps.getD t undef = .pointer (some ⟨g, 0, none⟩)) (hd : a.defers = [])
    (hb : Blk wf g 34 (grA vb va vo)) (h : R (.returned (grV vb va vo)) wf) : bodyPost Try.prog fn R .ret a wf := by
  have hu := gr_und
  cases hq : Try.prog.underlying 34 with
  | none => rw [hq] at hu; cases hu
  | some d =>
    rw [hq] at hu
    exact bodyPost_ret (results_cell_row hf _ _ _ _ _ _ d hp hb hq (by cases d <;> simp_all) gr_size) hd h
set_option maxHeartbeats 4000000 in
theorem of_none (p : Pr) (hs : List Bool) (code : List IV) (ns : Nat) (w : World) (h : PrOk w p hs code ns) (hn : code.length ≤ 1000) (hl : ∀ x ∈ code, x.i.arms.length ≤ 100 ∧ x.i.args.length ≤ 100) (hg : goodP p hs code ns = false) :
    Calls Try.prog 10 #[p.val] w fun e w' => e = .returned (grV (.slice none 0 0) (.slice none 0 0) (.slice none 0 0)) ∧ Below w.heap.size w w' := by
  obtain ⟨gp, hgp⟩ : ∃ gp, gp = w.heap.size := ⟨_, rfl⟩
  obtain ⟨zs, hzs⟩ : ∃ zs : Array Value, zs = #[.slice none 0 0, .slice none 0 0, .slice none 0 0] := ⟨_, rfl⟩
  obtain ⟨W1, hW1⟩ : ∃ W1, W1 = (w.alloc (.cells p.arr 29)).alloc (.cells zs 34) := ⟨_, rfl⟩
  have hb1 : Below w.heap.size w W1 := by rw [hW1]; exact ((Below.refl _ _).alloc (Nat.le_refl _) _).alloc (by simp) _
  have hbp : Blk W1 gp 29 p.arr := by rw [hW1, hgp]; exact (Blk.new _ _ _).alloc _
  have hbz : Blk W1 (gp + 1) 34 zs := by
    have h := Blk.new (w.alloc (.cells p.arr 29)) 34 zs
    rw [← hW1] at h
    rw [hgp]
    simpa using h
  have HOK := hide (h.below hb1 (Nat.le_refl _))
  obtain ⟨PV, hPV⟩ : ∃ PV, PV = p.val := ⟨_, rfl⟩
  have HGC := hide (good_any p hs code ns W1 HOK.out hn hl)
  rw [← hPV, hg] at HGC
  have HPV := hide hPV
  have HZ := hide hzs
  have HZS := hide (show zs.size = 3 by rw [hzs]; rfl)
  have HB1 := hide hb1
  have HW1 := hide hW1
  have HGP := hide hgp
  have HBP := hide hbp
  have HBZ := hide hbz
  clear h hn hl hg hb1 hW1 hgp hbp hbz hPV hzs
  go_enter Try.func10, Try.ntmps10
  go_upto_region 1 with (fail)
  rw [← HZ.out, ← HW1.out, ← HGP.out]
  rw [← HPV.out]
  go_wp2_with (first
    | (refine wpList_load_blk (.tmp 1) HBP.out HPV.out Try.underlying29 rfl pr_size rfl rfl rfl ?_)
    | (refine wp_load_blk (.tmp 1) HBP.out HPV.out Try.underlying29 rfl pr_size rfl rfl ?_))
  refine HGC.out.mono ?_
  rintro e w3 ⟨rfl, hb3⟩
  have HB3 := hide hb3
  have HBZ3 := hide (HBZ.out.below hb3 HBZ.out.lt)
  have HB3W := hide (HB1.out.trans (hb3.mono HB1.out.size))
  clear hb3
  have hz := HZ.out
  obtain ⟨o, ho⟩ : ∃ o, o = gp + 1 := ⟨_, rfl⟩
  have HO := hide ho
  rw [← ho]
  have h3 := HBZ3.out
  rw [hz, ← ho] at h3
  have y0 : w3.cell? ⟨o, 0, none⟩ = some (.slice none 0 0) := h3.cell 0
  have f0 := h3.frozen 0
  obtain ⟨W4, hW4⟩ : ∃ W4, w3.setCell ⟨o, 0, none⟩ (.slice none 0 0) = W4 := ⟨_, rfl⟩
  have h4 : Blk W4 o 34 #[.slice none 0 0, .slice none 0 0, .slice none 0 0] := by rw [← hW4]; exact h3.set_ 0 _
  have y1 : W4.cell? ⟨o, 1, none⟩ = some (.slice none 0 0) := h4.cell 1
  have f1 := h4.frozen 1
  obtain ⟨W5, hW5⟩ : ∃ W5, W4.setCell ⟨o, 1, none⟩ (.slice none 0 0) = W5 := ⟨_, rfl⟩
  have h5 : Blk W5 o 34 #[.slice none 0 0, .slice none 0 0, .slice none 0 0] := by rw [← hW5]; exact h4.set_ 1 _
  have y2 : W5.cell? ⟨o, 2, none⟩ = some (.slice none 0 0) := h5.cell 2
  have f2 := h5.frozen 2
  have ho2 : w.heap.size ≤ o := by rw [ho, HGP.out]; omega
  have HH := hide (show Blk (W5.setCell ⟨o, 2, none⟩ (.slice none 0 0)) o 34 (grA (.slice none 0 0) (.slice none 0 0) (.slice none 0 0)) from h5.set_ 2 _)
  have HBB := hide (show Below w.heap.size w (W5.setCell ⟨o, 2, none⟩ (.slice none 0 0)) by
    rw [← hW5, ← hW4]
    exact ((HB3W.out.setCell (p := ⟨o, 0, none⟩) ho2 _).setCell (p := ⟨o, 1, none⟩) ho2 _).setCell (p := ⟨o, 2, none⟩) ho2 _)
  clear hz h3 h4 h5 ho ho2
  go_wp2_with fail
  exact ret_gr rfl rfl rfl HH.out ⟨rfl, HBB.out⟩
end Go.Proofs.Ytaaadbaakhjkcaa
