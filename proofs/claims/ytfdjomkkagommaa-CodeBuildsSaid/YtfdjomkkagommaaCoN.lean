/- Instructions of one's own (cloned), builders in memory, the simple funcs of a builder (New, isLong); conditions: as each says. -/
import Derived.Test.YtfdjomkkagommaaCoM
namespace Go.Proofs.Ytfdjomkkagommaa
open Go.RowKit Go.WideShapes Go.ChangeShapes
set_option linter.unusedVariables false
set_option linter.unusedSimpArgs false
set_option maxRecDepth 100000

theorem armInfo : (Try.prog.info? 41).map (fun i => (i.zero, i.size, i.bytes)) = some (some (.agg #[.int .i64 0, .int .i64 0, .int .i64 0, .int .i64 0, .int .i64 0, .int .i64 0]), 6, 48) := by kernel_rfl
theorem Arm.enc_length (x : Arm) : x.enc.length = 6 := rfl
theorem arms_one (l : List Arm) : ∀ u ∈ l.flatMap Arm.enc, u.oneCell' = true := by
  intro u hu
  obtain ⟨x, _, hx⟩ := List.mem_flatMap.1 hu
  simp [Arm.enc] at hx
  rcases hx with rfl | rfl | rfl | rfl | rfl | rfl <;> rfl
set_option maxHeartbeats 400000 in
theorem clone_arms (v : Value) (l : List Arm) (w : World) (h : ArmsAt w v l) (hn : l.length ≤ 1000000) : Calls Try.prog 40 #[v] w fun e w' => ∃ v', e = .returned v' ∧ w'.ownsRow w.heap.size 41 6 v' l.length (l.flatMap Arm.enc) ∧ Below w.heap.size w w' := by
  obtain ⟨i0, hi0, hz0, hz1, hz2⟩ := info_parts armInfo
  have hq := fun (w : World) => Lib.run_eql_slice_nil (P := Try.prog) (w := w)
  obtain ⟨A, c, rfl⟩ := h.form
  have HR := hide ((RowAt.reads Arm.enc_length (by omega) h).2.alloc (Nat.le_refl _) (.cells #[] 41))
  have HN := hide hn
  rcases A with _ | a
  · have hn0 : l = [] := by
      rcases Nat.eq_zero_or_pos l.length with h0 | h0
      · exact List.eq_nil_of_length_eq_zero h0
      · obtain ⟨ad, h1, _⟩ := (RowAt.reads Arm.enc_length (by omega) h).2.2 h0; cases h1
    subst hn0
    clear h HR hn
    go_enter Try.func40, Try.ntmps40
    go_wp2
    go_ret
    exact ⟨_, rfl, World.ownsRow_nil _ _ _ _, Below.refl _ _⟩
  · clear h hn
    go_enter Try.func40, Try.ntmps40
    go_wp2_with (first
      | (at_builtin
         refine wpList_append_any _ rfl (.tmp 5) (.tmp 6) _ rfl w.heap.size 41 i0 _ 6 48 Try.underlying37 hi0 hz0 hz1 hz2 rfl (by omega) (.slice (some ⟨w.heap.size, 0, none⟩) 0 0) 0 [] rfl
           (World.ownsRow_made w #[] 0 (Nat.le_refl _) (by simp [maxLen]) (by simp)) w.heap.size (some a) l.length c _ rfl HR.out (arms_one _) (by have := HN.out; simp only [maxLen]; omega) (by have := HN.out; omega) (by simp) ?_
         intro v1 w1 hown1 hg1 hat1))
    go_ret
    exact ⟨v1, rfl, by simpa using hown1, ((Below.refl _ _).alloc (Nat.le_refl _) _).grown hg1 (by simp) (by simp [Value.ownBlock])⟩
theorem ins_und : ((Try.prog.underlying 39).map fun d => (match d with | .struct _ | .array _ _ => true | _ => false)) = some true := by kernel_rfl
theorem ret_ins {fn : Func} {t : Tmp} (hf : fn.results = #[.cell t 39]) {R : Ending → World → Prop} {a : Act} {wf : World} {g : Nat} {i : Ins} {av rv : Value} (hp : a.tmps.getD t undef = .pointer (some ⟨g, 0, none⟩)) (hd : a.defers = [])
    (hb : Blk wf g 39 (i.arr av rv)) (h : R (.returned (i.val av rv)) wf) : bodyPost Try.prog fn R .ret a wf := by
  have hu := ins_und
  cases hq : Try.prog.underlying 39 with
  | none => rw [hq] at hu; cases hu
  | some d =>
    rw [hq] at hu
    exact bodyPost_ret (results_cell_row hf _ _ _ _ _ _ d hp hb hq (by cases d <;> simp_all) ins_size) hd h
def ClonedP (w : World) (i : Ins) (e : Ending) (w' : World) : Prop :=
  ∃ av rv, e = .returned (i.val av rv) ∧ w'.ownsRow w.heap.size 3 1 av i.args.length (i.args.map iI) ∧ w'.ownsRow w.heap.size 41 6 rv i.arms.length (i.arms.flatMap Arm.enc) ∧ Below w.heap.size w w'
set_option maxHeartbeats 4000000 in
theorem cloned_any (i : Ins) (av rv : Value) (w : World) (h : InsOk w i av rv) (hn : i.arms.length ≤ 100000 ∧ i.args.length ≤ 100000) : Calls Try.prog 23 #[i.val av rv] w (ClonedP w i) := by
  obtain ⟨Aa, ca, rfl⟩ := h.ar.form
  obtain ⟨Ar, cr, rfl⟩ := h.rm.form
  obtain ⟨m, hm⟩ : ∃ m, m = i.arms.length := ⟨_, rfl⟩
  obtain ⟨ma, hma⟩ : ∃ ma, ma = i.args.length := ⟨_, rfl⟩
  rw [← hm, ← hma] at h ⊢
  obtain ⟨a, ha⟩ : ∃ a, a = w.heap.size := ⟨_, rfl⟩
  obtain ⟨zs, hzs⟩ : ∃ zs : Array Value, zs = #[.int .i64 0, .int .i64 0, .int .i64 0, .int .i64 0, .int .i64 0, .int .i64 0, .string ⟨#[]⟩, .int .i64 0, .int .i64 0, .int .i64 0, .int .i64 0, .string ⟨#[]⟩, .slice none 0 0, .int .i64 0, .int .i64 0, .slice none 0 0, .int .i64 0, .int .i64 0, .int .i64 0, .int .i64 0, .int .i64 0, .int .i64 0] := ⟨_, rfl⟩
  obtain ⟨W1, hW1⟩ : ∃ W1, W1 = (w.alloc (.cells (i.arr (.slice Aa ma ca) (.slice Ar m cr)) 39)).alloc (.cells zs 39) := ⟨_, rfl⟩
  have hb1 : Below w.heap.size w W1 := by rw [hW1]; exact ((Below.refl _ _).alloc (Nat.le_refl _) _).alloc (by simp) _
  have hba : Blk W1 a 39 (i.arr (.slice Aa ma ca) (.slice Ar m cr)) := by rw [hW1, ha]; exact (Blk.new _ _ _).alloc _
  have hbz : Blk W1 (a + 1) 39 zs := by
    have h := Blk.new (w.alloc (.cells (i.arr (.slice Aa ma ca) (.slice Ar m cr)) 39)) 39 zs
    rw [← hW1] at h
    rw [ha]
    simpa using h
  have z12 : W1.cell? ⟨a, 12, none⟩ = some (.slice Aa ma ca) := hba.cell 12
  have HZS := hide (show zs.size = 22 by rw [hzs]; rfl)
  have HOK := hide (h.below hb1 (Nat.le_refl _))
  have H0 := hide h
  have HB1 := hide hb1
  have HW1 := hide hW1
  have HA := hide ha
  have HBA := hide hba
  have HBZ := hide hbz
  have HZ := hide hzs
  have HM := hide (And.intro hm (And.intro hma hn))
  have HCA := hide (clone_ints (.slice Aa ma ca) i.args W1 HOK.out.ar (by omega))
  clear hb1 hW1 ha hba hbz hzs h hn hm hma
  go_enter Try.func23, Try.ntmps23
  go_upto_region 1 with (fail)
  rw [← HZ.out, ← HW1.out, ← HA.out]
  go_wp2_with fail
  refine HCA.out.mono ?_
  rintro e w3 ⟨v3, rfl, hown3, hb3⟩
  rw [← HM.out.2.1] at hown3
  obtain ⟨A3, c3, rfl⟩ := own_formT hown3
  have hba3 := HBA.out.below hb3 HBA.out.lt
  have hbz3 := HBZ.out.below hb3 HBZ.out.lt
  have y12 : w3.cell? ⟨a, 12, none⟩ = some (.slice Aa ma ca) := hba3.cell 12
  have yf12 := hba3.frozen 12
  obtain ⟨W4, hW4⟩ : ∃ W4, W4 = w3.setCell ⟨a, 12, none⟩ (.slice A3 ma c3) := ⟨_, rfl⟩
  have hba4 : Blk W4 a 39 (i.arr (.slice A3 ma c3) (.slice Ar m cr)) := by rw [hW4]; exact hba3.set_ 12 _
  have hbz4 : Blk W4 (a + 1) 39 zs := by rw [hW4]; exact hbz3.far (p := ⟨a, 12, none⟩) (by show a + 1 ≠ a; omega) _
  have hbw4 : Below w.heap.size w W4 := by rw [hW4]; exact (HB1.out.trans (hb3.mono HB1.out.size)).setCell (p := ⟨a, 12, none⟩) (by show w.heap.size ≤ a; rw [HA.out]; exact Nat.le_refl _) _
  have hown4 : W4.ownsRow W1.heap.size 3 1 (.slice A3 ma c3) ma (i.args.map iI) := by rw [hW4]; exact ownsRow_setCell_other (a := ⟨a, 12, none⟩) hown3 (own_blk_ne hown3 hba3 (by decide)) _
  have hz4 : W4.heap.size = w3.heap.size := by rw [hW4]; simp
  have y15 : W4.cell? ⟨a, 15, none⟩ = some (.slice Ar m cr) := hba4.cell 15
  have HCR := hide (clone_arms (.slice Ar m cr) i.arms W4 (H0.out.rm.below hbw4 (Nat.le_refl _)) (by have := HM.out; omega))
  have HW4 := hide hW4
  have HS4 := hide (And.intro hba4 (And.intro hbz4 (And.intro hbw4 hown4)))
  clear hba3 hbz3 hown3 hb3 hba4 hbz4 hbw4 hown4 hz4 hW4
  go_upto_region 2 with (fail)
  rw [← HW4.out]
  go_wp2_with fail
  refine HCR.out.mono ?_
  rintro e w5 ⟨v5, rfl, hown5, hb5⟩
  rw [← HM.out.1] at hown5
  obtain ⟨A5, c5, rfl⟩ := own_formT hown5
  have hba5 := HS4.out.1.below hb5 HS4.out.1.lt
  have hbz5 := HS4.out.2.1.below hb5 HS4.out.2.1.lt
  have hbw5 := HS4.out.2.2.1.trans (hb5.mono HS4.out.2.2.1.size)
  have hown45 := own_belowT HS4.out.2.2.2 hb5
  have x15 : w5.cell? ⟨a, 15, none⟩ = some (.slice Ar m cr) := hba5.cell 15
  have xf15 := hba5.frozen 15
  obtain ⟨W6, hW6⟩ : ∃ W6, W6 = w5.setCell ⟨a, 15, none⟩ (.slice A5 m c5) := ⟨_, rfl⟩
  have hba6 : Blk W6 a 39 (i.arr (.slice A3 ma c3) (.slice A5 m c5)) := by rw [hW6]; exact hba5.set_ 15 _
  have hbz6 : Blk W6 (a + 1) 39 zs := by rw [hW6]; exact hbz5.far (p := ⟨a, 15, none⟩) (by show a + 1 ≠ a; omega) _
  have hbw6 : Below w.heap.size w W6 := by rw [hW6]; exact hbw5.setCell (p := ⟨a, 15, none⟩) (by show w.heap.size ≤ a; rw [HA.out]; exact Nat.le_refl _) _
  have ho3 : W6.ownsRow W1.heap.size 3 1 (.slice A3 ma c3) ma (i.args.map iI) := by rw [hW6]; exact ownsRow_setCell_other (a := ⟨a, 15, none⟩) hown45 (own_blk_ne hown45 hba5 (by decide)) _
  have ho5 : W6.ownsRow W4.heap.size 41 6 (.slice A5 m c5) m (i.arms.flatMap Arm.enc) := by rw [hW6]; exact ownsRow_setCell_other (a := ⟨a, 15, none⟩) hown5 (own_blk_ne hown5 hba5 (by decide)) _
  obtain ⟨V, hV⟩ : ∃ V, V = i.val (.slice A3 ma c3) (.slice A5 m c5) := ⟨_, rfl⟩
  have HV := hide hV
  have HW6 := hide hW6
  have HBA6 := hide hba6
  have HBZ6 := hide hbz6
  have HS6 := hide (And.intro hbw6 (And.intro ho3 ho5))
  have HON := hide (show (i.arr (.slice A3 ma c3) (.slice A5 m c5)).all (·.oneCell') = true by simp [Value.oneCell'])
  have HSZ := hide (show w.heap.size ≤ W1.heap.size ∧ w.heap.size ≤ W4.heap.size from ⟨HB1.out.size, HS4.out.2.2.1.size⟩)
  clear hba5 hbz5 hbw5 hown45 hown5 hb5 hba6 hbz6 hbw6 ho3 ho5 hV hW6
  go_upto_region 3 with (fail)
  rw [← HW6.out]
  clear y12 yf12 y15 x15 xf15
  go_wp2_with (first
    | (refine wpList_load_blk (.tmp 1) HBA6.out HV.out Try.underlying39 rfl ins_size rfl rfl rfl ?_)
    | (refine wpList_store_rowTo rfl 39 (.tmp 2) (.tmp 11) rfl rfl (a + 1) (i.arr (.slice A3 ma c3) (.slice A5 m c5)) rfl HV.out 39 zs HBZ6.out ins_size HZS.out HON.out ?_))
  obtain ⟨f1, f2, f3⟩ := setRow_facts (cells := i.arr (.slice A3 ma c3) (.slice A5 m c5)) HBZ6.out
  have hne : ∀ {B e sz n : Nat} {v : Value} {xs : List Value}, W6.ownsRow B e sz v n xs → e ≠ 39 → ∀ k, v.ownBlock = some k → some k ≠ some (a + 1) := fun hr he k hk e1 => own_blk_ne hr HBZ6.out he (by rw [hk, e1])
  refine ret_ins rfl rfl rfl f1 ⟨_, _, rfl, ?_, ?_, HS6.out.1.grown f2 HS6.out.1.size (fun k hk => by cases hk; rw [HA.out]; omega)⟩
  · rw [← HM.out.2.1]
    exact own_monoT (own_grT HS6.out.2.1 f2 (hne HS6.out.2.1 (by decide))) HSZ.out.1
  · rw [← HM.out.1]
    exact own_monoT (own_grT HS6.out.2.2 f2 (hne HS6.out.2.2 (by decide))) HSZ.out.2
end Go.Proofs.Ytfdjomkkagommaa
