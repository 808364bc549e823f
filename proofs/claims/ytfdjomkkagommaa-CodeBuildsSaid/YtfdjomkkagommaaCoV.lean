/- Put where there is too much for a func; conditions: the builder is in memory, the instruction's lists lie apart from it. -/
import Derived.Test.YtfdjomkkagommaaCoU
namespace Go.Proofs.Ytfdjomkkagommaa
open Go.RowKit Go.WideShapes Go.ChangeShapes
set_option linter.unusedVariables false
set_option linter.unusedSimpArgs false
set_option maxRecDepth 100000

set_option maxHeartbeats 8000000 in
theorem put_long (B g : Nat) (b : Bd) (i : Ins) (av rv : Value) (w : World) (h : BT w B g b) (hi : ∀ W : World, KeepOff g w W → InsOk W i av rv) (hn : i.arms.length ≤ 100000 ∧ i.args.length ≤ 100000) (hl : b.beyond.length ≤ 100000000) (hp : 0 ≤ b.put ∧ b.put ≤ 100000) (hlong : 65536 < b.regs ∨ 65536 < b.put + 1) :
    Calls Try.prog 13 #[.pointer (some ⟨g, 0, none⟩), i.val av rv] w fun e w' => e = .returned (.tuple #[]) ∧ ∃ bv', BT w' B g { b with put := b.put + 1, ends := endsB i.op, beyond := b.beyond ++ meantI i, bv := bv' } ∧ w.heap.size ≤ w'.heap.size ∧ Below B w w' := by
  obtain ⟨Aa, ca, rfl⟩ := (hi w (KeepOff.of_below (Below.refl _ _))).ar.form
  obtain ⟨Ar, cr, rfl⟩ := (hi w (KeepOff.of_below (Below.refl _ _))).rm.form
  obtain ⟨m, hm⟩ : ∃ m, m = i.arms.length := ⟨_, rfl⟩
  obtain ⟨ma, hma⟩ : ∃ ma, ma = i.args.length := ⟨_, rfl⟩
  rw [← hm, ← hma] at hi ⊢
  obtain ⟨a, ha⟩ : ∃ a, a = w.heap.size := ⟨_, rfl⟩
  obtain ⟨W1, hW1⟩ : ∃ W1, W1 = w.alloc (.cells (i.arr (.slice Aa ma ca) (.slice Ar m cr)) 39) := ⟨_, rfl⟩
  have hb1 : Below w.heap.size w W1 := by rw [hW1]; exact (Below.refl _ _).alloc (Nat.le_refl _) _
  have hba : Blk W1 a 39 (i.arr (.slice Aa ma ca) (.slice Ar m cr)) := by rw [hW1, ha]; exact Blk.new _ _ _
  have hT1 := h.below hb1
  have hga : g ≠ a := by have := h.bl.lt; omega
  have hoff : Off b a := h.br.off_new (by omega)
  have z1 : W1.cell? ⟨g, 1, none⟩ = some (.int .i64 b.put) := hT1.bl.cell 1
  have f1 := hT1.bl.frozen 1
  obtain ⟨p1, hp1⟩ : ∃ p1, p1 = b.put + 1 := ⟨_, rfl⟩
  have q1 : IntKind.i64.wrap (b.put + 1) = p1 := by rw [hp1]; exact IntWalk.i64_in _ (by omega)
  obtain ⟨W2, hW2⟩ : ∃ W2, W2 = W1.setCell ⟨g, 1, none⟩ (.int .i64 p1) := ⟨_, rfl⟩
  have hT2 : BT W2 B g { b with put := p1 } := by
    rw [hW2]
    exact ⟨hT1.bl.set_ 1 _, (hT1.br.setCell (hT1.br.off_blk hT1.bl) _ : BR _ B b) |> fun h => ⟨h.co, h.be, h.la, h.sm, h.el, h.ne, h.nb⟩, hT1.gB⟩
  have hBw : B ≤ w.heap.size := by have := h.bl.lt; have := h.gB; omega
  have hBB2 : Below B w W2 := by rw [hW2]; exact (hb1.mono hBw).setCell (p := ⟨g, 1, none⟩) h.gB _
  have HBw := hide (And.intro hBw (And.intro h.gB (show B ≤ a by omega)))
  have HBB2 := hide hBB2
  have hba2 : Blk W2 a 39 (i.arr (.slice Aa ma ca) (.slice Ar m cr)) := by rw [hW2]; exact hba.far (p := ⟨g, 1, none⟩) (by show a ≠ g; omega) _
  have hz2 : W2.heap.size = W1.heap.size := by rw [hW2]; simp
  obtain ⟨V, hV⟩ : ∃ V, V = i.val (.slice Aa ma ca) (.slice Ar m cr) := ⟨_, rfl⟩
  have hEN := ends_any i (.slice Aa ma ca) (.slice Ar m cr) W2
  rw [← hV] at hEN
  obtain ⟨eb, heb⟩ : ∃ eb, eb = endsB i.op := ⟨_, rfl⟩
  rw [← heb] at hEN
  have HEN := hide hEN
  have HEB := hide heb
  have HV := hide hV
  have HW1 := hide hW1
  have HA := hide ha
  have HW2 := hide hW2
  have HT2 := hide hT2
  have HBA2 := hide hba2
  have HB1 := hide hb1
  have HX := hide (show g ≠ a ∧ a < W2.heap.size ∧ W2.heap.size = W1.heap.size ∧ g < w.heap.size from ⟨hga, hba2.lt, hz2, h.bl.lt⟩)
  have HIN := hide hi
  have HOF := hide hoff
  have HM := hide (And.intro hm (And.intro hma hn))
  have HP := hide (And.intro hp1 (And.intro hl (And.intro hp hlong)))
  have HB0 := hide h
  clear hBw hBB2 h hi hm hma hn ha hW1 hb1 hba hT1 hga hoff hp1 hW2 hT2 hba2 hz2 hV hEN heb hl hp hlong
  go_enter Try.func13, Try.ntmps13
  go_upto_region 1 with (fail)
  rw [← HW1.out, ← HA.out]
  go_upto_region 2 with (fail)
  rw [← HW2.out]
  clear z1 f1 q1
  go_wp2_with (first
    | (refine wpList_load_blk (.tmp 3) HBA2.out HV.out Try.underlying39 rfl ins_size rfl rfl rfl ?_))
  refine HEN.out.mono ?_
  rintro e w3 ⟨rfl, hb3⟩
  have hT3 := HT2.out.below hb3
  have z3 : w3.cell? ⟨g, 3, none⟩ = some (.bool b.ends) := hT3.bl.cell 3
  have f3 := hT3.bl.frozen 3
  obtain ⟨W4, hW4⟩ : ∃ W4, W4 = w3.setCell ⟨g, 3, none⟩ (.bool eb) := ⟨_, rfl⟩
  have hT4 : BT W4 B g { b with put := p1, ends := eb } := by
    rw [hW4]
    exact ⟨hT3.bl.set_ 3 _, (hT3.br.setCell (hT3.br.off_blk hT3.bl) _ : BR _ B _) |> fun h => ⟨h.co, h.be, h.la, h.sm, h.el, h.ne, h.nb⟩, hT3.gB⟩
  have hba4 : Blk W4 a 39 (i.arr (.slice Aa ma ca) (.slice Ar m cr)) := by rw [hW4]; exact (HBA2.out.below hb3 HBA2.out.lt).far (p := ⟨g, 3, none⟩) (by show a ≠ g; have := HX.out.1; omega) _
  have hz4 : W4.heap.size = w3.heap.size := by rw [hW4]; simp
  have HBB4 := hide (show Below B w W4 by rw [hW4]; exact (HBB2.out.trans (hb3.mono (Nat.le_trans HBw.out.1 HBB2.out.size))).setCell (p := ⟨g, 3, none⟩) HBw.out.2.1 _)
  have HW4 := hide hW4
  have HT4 := hide hT4
  have HBA4 := hide hba4
  have HZ4 := hide (show w.heap.size ≤ W4.heap.size by rw [hz4]; have := hb3.size; have := HX.out.2.2.1; have := HB1.out.size; omega)
  have HIN4 : Hid (InsOk W4 i (.slice Aa ma ca) (.slice Ar m cr)) := hide (HIN.out W4 (by
    rw [hW4]
    refine (((KeepOff.of_below HB1.out).trans ?_).trans (KeepOff.of_below hb3)).trans (KeepOff.set_ _ _ _ _)
    rw [HW2.out]
    exact KeepOff.set_ _ _ _ _))
  have HLG := hide (long_any g { b with put := p1, ends := eb } W4 hT4.bl)
  rw [show longB { b with put := p1, ends := eb } = true by unfold longB; rcases HP.out.2.2.2 with h | h; (rw [decide_eq_true (show 65536 < b.regs from h)]; rfl); (rw [decide_eq_true (show 65536 < p1 by have := HP.out.1; omega)]; exact Bool.or_true _)] at HLG
  clear hb3 hT3 hW4 hT4 hba4 hz4
  go_upto_region 3 with (fail)
  rw [← HW4.out]
  clear z3 f3
  go_wp2_with fail
  refine HLG.out.mono ?_
  rintro e w' ⟨rfl, rfl⟩
  obtain ⟨j0, hj0, hk0, hk1, hk2⟩ := info_parts intInfoT
  obtain ⟨Ab, cb, hbv⟩ := own_formT HT4.out.br.be
  obtain ⟨nb, hnb⟩ : ∃ nb, nb = b.beyond.length := ⟨_, rfl⟩
  have hbv2 : b.bv = .slice Ab nb cb := by rw [hnb]; exact hbv
  have HBV := hide (And.intro hnb hbv2)
  have hS0 : W4.cell? ⟨g, 2, none⟩ = some (.slice Ab nb cb) ∧ Blk W4 a 39 (i.arr (.slice Aa ma ca) (.slice Ar m cr)) := ⟨by rw [← hbv2]; exact HT4.out.bl.cell 2, HBA4.out⟩
  have HME := hide (meant_any i (.slice Aa ma ca) (.slice Ar m cr) W4.drew (HIN4.out.below (Below.refl _ _).drew (Nat.le_refl _)) (by have := HM.out; omega))
  rw [← HV.out] at HME
  have HML := hide (show (meantI i).length ≤ 100000 by have hx := HM.out; unfold meantI; split; simp; split; (rw [List.length_map]; omega); simp)
  have HL4 := hide (And.intro HT4.out.bl.lt HBA4.out.lt)
  clear hbv hbv2 hnb
  go_wp2_with fail
  refine wp_region_tail 10 (fun w' => w'.cell? ⟨g, 2, none⟩ = some (.slice Ab nb cb) ∧ Blk w' a 39 (i.arr (.slice Aa ma ca) (.slice Ar m cr))) (by kernel_rfl) hS0 (fun hHeld => ?_)
  try simp only [Act.put, List.setIfInBounds_toArray, List.set_cons_zero, List.set_cons_succ]
  refine' wpTail_take (i := 0) (oi := _) ?hi5001 ?hs5001 ?hf5001 ?hr5001 ?hz5001 ?hQ5001 (v := _) (Or.inl ⟨?hw5001, ?hy5001⟩) (by assumption) ?_
  case hi5001 => (simp only [List.getElem?_toArray, List.getElem?_cons_zero]; exact rfl)
  case hs5001 => kernel_rfl
  case hf5001 => kernel_rfl
  case hr5001 => kernel_rfl
  case hz5001 => kernel_rfl
  case hQ5001 => exact fun _ _ _ h => h
  case hw5001 => rfl
  case hy5001 => (intro W0 hSw; (try dsimp only at hSw); go_simp; (try with_reducible rfl))
  try simp only [Act.put, List.setIfInBounds_toArray, List.set_cons_zero, List.set_cons_succ]
  refine' wpTail_take (i := 1) (oi := _) ?hi5002 ?hs5002 ?hf5002 ?hr5002 ?hz5002 ?hQ5002 (v := _) (Or.inl ⟨?hw5002, ?hy5002⟩) (by assumption) ?_
  case hi5002 => (simp only [List.getElem?_toArray, List.getElem?_cons_succ, List.getElem?_cons_zero]; exact rfl)
  case hs5002 => kernel_rfl
  case hf5002 => kernel_rfl
  case hr5002 => kernel_rfl
  case hz5002 => kernel_rfl
  case hQ5002 => exact fun _ _ _ h => h
  case hw5002 => rfl
  case hy5002 => (intro W0 hSw; (try dsimp only at hSw); go_simp; (try with_reducible rfl))
  try simp only [Act.put, List.setIfInBounds_toArray, List.set_cons_zero, List.set_cons_succ]
  refine' wpTail_take (i := 2) (oi := _) ?hi5003 ?hs5003 ?hf5003 ?hr5003 ?hz5003 ?hQ5003 (v := _) (Or.inl ⟨?hw5003, ?hy5003⟩) (by assumption) ?_
  case hi5003 => (simp only [List.getElem?_toArray, List.getElem?_cons_succ, List.getElem?_cons_zero]; exact rfl)
  case hs5003 => kernel_rfl
  case hf5003 => kernel_rfl
  case hr5003 => kernel_rfl
  case hz5003 => kernel_rfl
  case hQ5003 => exact fun _ _ _ h => h
  case hw5003 => rfl
  case hy5003 => (intro W0 hSw; (try dsimp only at hSw); go_simp; (try with_reducible rfl))
  try simp only [Act.put, List.setIfInBounds_toArray, List.set_cons_zero, List.set_cons_succ]
  refine' wpTail_take (i := 3) (oi := _) ?hi5004 ?hs5004 ?hf5004 ?hr5004 ?hz5004 ?hQ5004 (v := _) (Or.inl ⟨?hw5004, ?hy5004⟩) (by assumption) ?_
  case hi5004 => (simp only [List.getElem?_toArray, List.getElem?_cons_succ, List.getElem?_cons_zero]; exact rfl)
  case hs5004 => kernel_rfl
  case hf5004 => kernel_rfl
  case hr5004 => kernel_rfl
  case hz5004 => kernel_rfl
  case hQ5004 => exact fun _ _ _ h => h
  case hw5004 => rfl
  case hy5004 => (intro W0 hSw; (try dsimp only at hSw); go_simp; (try with_reducible rfl))
  try simp only [Act.put, List.setIfInBounds_toArray, List.set_cons_zero, List.set_cons_succ]
  refine' wpTail_take (i := 4) (oi := _) ?hi5005 ?hs5005 ?hf5005 ?hr5005 ?hz5005 ?hQ5005 (v := _) (Or.inl ⟨?hw5005, ?hy5005⟩) (by assumption) ?_
  case hi5005 => (simp only [List.getElem?_toArray, List.getElem?_cons_succ, List.getElem?_cons_zero]; exact rfl)
  case hs5005 => kernel_rfl
  case hf5005 => kernel_rfl
  case hr5005 => kernel_rfl
  case hz5005 => kernel_rfl
  case hQ5005 => exact fun _ _ _ h => h
  case hw5005 => rfl
  case hy5005 => (intro W0 hSw; (try dsimp only at hSw); have u0 : W0.cell? ⟨g, 2, none⟩ = some (.slice Ab nb cb) := hSw.1; go_simp; (try with_reducible rfl))
  try simp only [Act.put, List.setIfInBounds_toArray, List.set_cons_zero, List.set_cons_succ]
  refine' wpTail_take (i := 5) (oi := _) ?hi5006 ?hs5006 ?hf5006 ?hr5006 ?hz5006 ?hQ5006 (v := V) ?hy5006 (by assumption) ?_
  case hi5006 => (simp only [List.getElem?_toArray, List.getElem?_cons_succ, List.getElem?_cons_zero]; exact rfl)
  case hs5006 => kernel_rfl
  case hf5006 => kernel_rfl
  case hr5006 => kernel_rfl
  case hz5006 => kernel_rfl
  case hQ5006 => exact fun _ _ _ h => h
  case hy5006 => (rw [HV.out]; exact yieldsIf_load_mid rfl 39 (.tmp 3) rfl a 0 rfl (i.arr (.slice Aa ma ca) (.slice Ar m cr)).toList _ (fun W0 hSw j v hv => by rw [Nat.zero_add, Blk.cell hSw.2]; simpa using hv) Try.underlying39 rfl ins_size)
  try simp only [Act.put, List.setIfInBounds_toArray, List.set_cons_zero, List.set_cons_succ]
  refine' wpTail_one (i := 6) (o := _) (by kernel_rfl) ?ho5007 ?hw5007 (fun K hK => ?_)
  case ho5007 => (simp only [List.getElem?_toArray, List.getElem?_cons_succ, List.getElem?_cons_zero]; exact rfl)
  case hw5007 => rfl
  go_simp
  (with_reducible refine HME.out.mono ?_)
  rintro e w5 ⟨v5, rfl, hown5, hb5⟩
  have hd5 : Below W4.heap.size W4 w5 := (Below.refl W4.heap.size W4).drew.trans hb5
  obtain ⟨A5, c5, rfl⟩ := own_formT hown5
  have hS5 : w5.cell? ⟨g, 2, none⟩ = some (.slice Ab nb cb) ∧ Blk w5 a 39 (i.arr (.slice Aa ma ca) (.slice Ar m cr)) := ⟨(hd5.cell (p := ⟨g, 2, none⟩) HL4.out.1).trans hS0.1, hS0.2.below hd5 HL4.out.2⟩
  have hT5 := HT4.out.below hd5
  have hrow5 : w5.ownsRow B 3 1 (.slice Ab nb cb) nb (b.beyond.map iI) := by rw [← HBV.out.2, HBV.out.1]; exact hT5.br.be
  refine hK.out _ _ (fun _ => hS5) ?_
  clear hK K
  try simp only [Act.put, List.setIfInBounds_toArray, List.set_cons_zero, List.set_cons_succ]
  refine' wpTail_one (i := 7) (o := _) (by kernel_rfl) ?ho5008 ?hw5008 (fun K hK => ?_)
  case ho5008 => (simp only [List.getElem?_toArray, List.getElem?_cons_succ, List.getElem?_cons_zero]; exact rfl)
  case hw5008 => rfl
  refine wp_append_any _ (.tmp 22) (.tmp 24) _ rfl B 3 j0 _ 1 8 Try.underlying22 hj0 hk0 hk1 hk2 rfl (by omega) (.slice Ab nb cb) nb _ rfl hrow5 w5.heap.size A5 (meantI i).length c5 _ rfl (Reads.of_own hown5) (by intro u hu; obtain ⟨y, _, hy⟩ := List.mem_map.1 hu; rw [← hy]; rfl) (by have := HBV.out; have := HP.out; have := HML.out; simp only [maxLen]; omega) (by have := HBV.out; have := HP.out; have := HML.out; omega) (by have := hd5.size; have := HBw.out; have := HL4.out; omega) ?_
  intro v6 w6 hown6 hg6 hat6
  obtain ⟨A6, c6, rfl⟩ := own_formT hown6
  have hg6' : w5.grownBy w6 b.bv.ownBlock := by rw [HBV.out.2]; exact hg6
  have hbl6 : Blk w6 g 63 (Bd.arr { b with put := p1, ends := eb }) := hT5.bl.grown hg6' (fun e => own_blk_ne hT5.br.be hT5.bl (by decide) e.symm)
  have hba6 : Blk w6 a 39 (i.arr (.slice Aa ma ca) (.slice Ar m cr)) := hS5.2.grown hg6 (fun e => own_blk_ne hrow5 hS5.2 (by decide) e.symm)
  have hS6 : w6.cell? ⟨g, 2, none⟩ = some (.slice Ab nb cb) ∧ Blk w6 a 39 (i.arr (.slice Aa ma ca) (.slice Ar m cr)) := ⟨by rw [← HBV.out.2]; exact hbl6.cell 2, hba6⟩
  have hR6 : BR w6 B { b with put := p1, ends := eb, beyond := b.beyond ++ meantI i, bv := .slice A6 (nb + (meantI i).length) c6 } := BR.far_ (b := { b with put := p1, ends := eb }) hT5.br hg6' (by rw [List.length_append, ← HBV.out.1, List.map_append]; exact hown6) (by show _ = b.bv.ownBlock ∨ _; rw [HBV.out.2]; exact hat6)
  have hf6 := hbl6.frozen 2
  have HT6 := hide (show BT (w6.setCell ⟨g, 2, none⟩ (.slice A6 (nb + (meantI i).length) c6)) B g { b with put := b.put + 1, ends := endsB i.op, beyond := b.beyond ++ meantI i, bv := .slice A6 (nb + (meantI i).length) c6 } by
    have h1 := hbl6.set_ 2 (.slice A6 (nb + (meantI i).length) c6)
    have h2 := hR6.setCell (i := 2) (hR6.off_blk hbl6) (.slice A6 (nb + (meantI i).length) c6)
    have e1 : p1 = b.put + 1 := HP.out.1
    have e2 : eb = endsB i.op := HEB.out
    subst e1 e2
    exact ⟨h1, h2, HBw.out.2.1⟩)
  have HB6 := hide (show Below B w (w6.setCell ⟨g, 2, none⟩ (.slice A6 (nb + (meantI i).length) c6)) from ((HBB4.out.trans (hd5.mono (Nat.le_trans HBw.out.1 HBB4.out.size))).grown hg6' (Nat.le_trans HBw.out.1 (HBB4.out.trans (hd5.mono (Nat.le_trans HBw.out.1 HBB4.out.size))).size) (fun k hk => (hT5.br.be.lt k hk).1)).setCell (p := ⟨g, 2, none⟩) HBw.out.2.1 _)
  refine hK.out _ _ (fun _ => hS6) ?_
  clear hK K
  clear hR6 hbl6 hba6 hg6' hg6 hat6 hown6 hT5 hrow5 hS5 hd5 hb5 hown5
  try simp only [Act.put, List.setIfInBounds_toArray, List.set_cons_zero, List.set_cons_succ]
  refine' wpTail_one (i := 8) (o := _) (by kernel_rfl) ?ho5009 ?hw5009 (fun K hK => ?_)
  case ho5009 => (simp only [List.getElem?_toArray, List.getElem?_cons_succ, List.getElem?_cons_zero]; exact rfl)
  case hw5009 => rfl
  go_simp
  refine hK.out _ _ (fun _ => hS6) ?_
  clear hK K
  try simp only [Act.put, List.setIfInBounds_toArray, List.set_cons_zero, List.set_cons_succ]
  refine' wpTail_one (i := 9) (o := _) (by kernel_rfl) ?ho5010 ?hw5010 (fun K hK => ?_)
  case ho5010 => (simp only [List.getElem?_toArray, List.getElem?_cons_succ, List.getElem?_cons_zero]; exact rfl)
  case hw5010 => rfl
  go_simp
  refine hK.out _ _ (fun _ => hS6) ?_
  clear hK K
  have t10 := hS6.1
  try simp only [Act.put, List.setIfInBounds_toArray, List.set_cons_zero, List.set_cons_succ]
  refine' wpTail_one (i := 10) (o := _) (by kernel_rfl) ?ho5011 ?hw5011 (fun K hK => ?_)
  case ho5011 => (simp only [List.getElem?_toArray, List.getElem?_cons_succ, List.getElem?_cons_zero]; exact rfl)
  case hw5011 => rfl
  go_simp
  refine hK.out _ _ (fun h => absurd rfl h) ?_
  clear hK K
  refine wpTail_done (by kernel_rfl) ?_ _
  try simp only [Act.put, List.setIfInBounds_toArray, List.set_cons_zero, List.set_cons_succ]
  clear hHeld hS6
  go_wp2_with fail
  refine bodyPost_ret (results_none rfl _ _ _) rfl ?_
  exact ⟨rfl, _, HT6.out, HB6.out.size, HB6.out⟩
end Go.Proofs.Ytfdjomkkagommaa
