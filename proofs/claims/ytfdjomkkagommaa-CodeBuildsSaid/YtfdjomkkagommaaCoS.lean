/- The whole of a builder (Finish); conditions: it is in memory, and its lists aren't too long. -/
import Derived.Test.YtfdjomkkagommaaCoR
import Derived.StillTailTactics
namespace Go.Proofs.Ytfdjomkkagommaa
open Go.RowKit Go.WideShapes Go.ChangeShapes
set_option linter.unusedVariables false
set_option linter.unusedSimpArgs false
set_option maxRecDepth 100000

def lostB (b : Bd) : Bool := b.code.any fun x => !(standB b (meantI x.i))
/-- Instructions in memory of one's own. -/
structure RV (w : World) (B : Nat) (v : Value) (L : List IV) : Prop where
  row : w.ownsRow B 39 22 v L.length (L.flatMap IV.enc)
  el : ∀ x ∈ L, w.ownsRow B 3 1 x.av x.i.args.length (x.i.args.map iI) ∧ w.ownsRow B 41 6 x.rv x.i.arms.length (x.i.arms.flatMap Arm.enc)
def FinP (w : World) (b : Bd) (e : Ending) (w' : World) : Prop :=
  Below w.heap.size w w' ∧
  if b.ends = false ∨ lostB b = true ∨ standB b b.beyond = false then e = .returned (.tuple #[.slice none 0 0, iI 0, .slice none 0 0, iI 15])
  else if longB b = true then e = .returned (.tuple #[.slice none 0 0, iI 0, .slice none 0 0, iI 3])
  else ∃ v sv L, e = .returned (.tuple #[v, iI b.regs, sv, iI 0]) ∧ L.map IV.i = b.code.map (fun x => placedI b x.i) ∧ RV w' w.heap.size v L ∧ w'.ownsRow w.heap.size 32 4 sv b.stmts.length (b.stmts.flatMap Sm.enc)
theorem results_tmp4 {fn : Func} {t u v x : Tmp} (h : fn.results = #[.tmp t, .tmp u, .tmp v, .tmp x]) (tmps : Array Value) (P : Program) (w : World) :
    (results fn tmps).run P w = .ok (.tuple #[tmps.getD t undef, tmps.getD u undef, tmps.getD v undef, tmps.getD x undef]) w := by
  simp [results, h]
set_option maxHeartbeats 8000000 in
theorem fin_any (B g : Nat) (b : Bd) (w : World) (h : BT w B g b) (hn : b.code.length ≤ 100000 ∧ ∀ x ∈ b.code, x.i.arms.length ≤ 100000 ∧ x.i.args.length ≤ 100000) (hb : b.beyond.length ≤ 100000 ∧ b.stmts.length ≤ 100000) :
    Calls Try.prog 14 #[.pointer (some ⟨g, 0, none⟩)] w (FinP w b) := by
  obtain ⟨q, hq⟩ : ∃ q, q = w.heap.size := ⟨_, rfl⟩
  obtain ⟨W1, hW1⟩ : ∃ W1, W1 = w.alloc (.cells #[.pointer (some ⟨g, 0, none⟩)] 24) := ⟨_, rfl⟩
  have hb1 : Below w.heap.size w W1 := by rw [hW1]; exact (Below.refl _ _).alloc (Nat.le_refl _) _
  have hbq : Blk W1 q 24 #[.pointer (some ⟨g, 0, none⟩)] := by rw [hW1, hq]; exact Blk.new _ _ _
  have hT1 := h.below hb1
  have z0 : W1.cell? ⟨g, 0, none⟩ = some b.cv := hT1.bl.cell 0
  have zq : W1.cell? ⟨q, 0, none⟩ = some (.pointer (some ⟨g, 0, none⟩)) := hbq.cell 0
  have hokI : ∀ x ∈ b.code, InsOk W1 x.i x.av x.rv := fun x hx => ⟨IntsAt.own (hT1.br.el x hx).1, RowAt.own Arm.enc_length (hT1.br.el x hx).2⟩
  have hrow1 : InssAt W1 b.cv b.code := RowAt.own IV.enc_length hT1.br.co
  have hlab1 : IntsAt W1 b.lv b.labels := IntsAt.own hT1.br.la
  have HCF := hide (any_fin (.pointer (some ⟨q, 0, none⟩)) b.cv b.code (fun x => !(standB b (meantI x.i))) W1 hrow1 hn.1
    (fun W x hW hx => fin_clo g q b x.i x.av x.rv W (hT1.bl.below hW hT1.bl.lt) (hlab1.below hW (Nat.le_refl _)) ((hokI x hx).below hW (Nat.le_refl _)) ((hbq.below hW hbq.lt).cell 0) (hn.2 x hx).1))
  obtain ⟨Ac, cc, hcv⟩ := hrow1.form
  obtain ⟨Ab, cb, hbv⟩ := own_formT hT1.br.be
  obtain ⟨As, cs, hsv⟩ := own_formT hT1.br.sm
  obtain ⟨lo, hlo⟩ : ∃ lo, lo = lostB b := ⟨_, rfl⟩
  obtain ⟨sb, hsb⟩ : ∃ sb, sb = standB b b.beyond := ⟨_, rfl⟩
  obtain ⟨eb, heb⟩ : ∃ eb, eb = b.ends := ⟨_, rfl⟩
  obtain ⟨lg, hlg⟩ : ∃ lg, lg = longB b := ⟨_, rfl⟩
  rw [show (b.code.any fun x => !(standB b (meantI x.i))) = lo from hlo.symm] at HCF
  have HP : Hid (∀ e w', FinP w b e w' ↔ (Below w.heap.size w w' ∧
    if eb = false ∨ lo = true ∨ sb = false then e = .returned (.tuple #[.slice none 0 0, iI 0, .slice none 0 0, iI 15])
    else if lg = true then e = .returned (.tuple #[.slice none 0 0, iI 0, .slice none 0 0, iI 3])
    else ∃ v sv L, e = .returned (.tuple #[v, iI b.regs, sv, iI 0]) ∧ L.map IV.i = b.code.map (fun x => placedI b x.i) ∧ RV w' w.heap.size v L ∧ w'.ownsRow w.heap.size 32 4 sv b.stmts.length (b.stmts.flatMap Sm.enc))) := hide (fun e w' => by rw [hlo, hsb, heb, hlg]; exact Iff.rfl)
  have HT1 := hide hT1
  have HB1 := hide hb1
  have HW1 := hide hW1
  have HQ := hide hq
  have HBQ := hide hbq
  have HOK := hide hokI
  have HROW := hide hrow1
  have HLAB := hide hlab1
  have HV := hide (And.intro hcv (And.intro hbv hsv))
  have HN := hide (And.intro hn hb)
  have HE := hide (And.intro hlo (And.intro hsb (And.intro heb hlg)))
  clear h hn hb hq hW1 hb1 hbq hT1 hokI hrow1 hlab1 hcv hbv hsv hlo hsb heb hlg
  go_enter Try.func14, Try.ntmps14
  go_upto_region 1 with (fail)
  rw [← HW1.out, ← HQ.out]
  go_wp2_with fail
  refine HCF.out.mono ?_
  rintro e w3 ⟨rfl, hb3⟩
  have hdw3 := HB1.out.trans (hb3.mono HB1.out.size)
  have HT3 := hide (HT1.out.below hb3)
  have hq3 : w3.cell? ⟨q, 0, none⟩ = some (.pointer (some ⟨g, 0, none⟩)) := (HBQ.out.below hb3 HBQ.out.lt).cell 0
  have h33 : w3.cell? ⟨g, 3, none⟩ = some (.bool eb) := by rw [HE.out.2.2.1]; exact HT3.out.bl.cell 3
  have h32 : w3.cell? ⟨g, 2, none⟩ = some (.slice Ab b.beyond.length cb) := by rw [← HV.out.2.1]; exact HT3.out.bl.cell 2
  have HDW3 := hide hdw3
  have HB3 := hide hb3
  clear z0 zq hb3 hdw3
  go_upto_region 2 with (fail)
  cases eb with
  | false =>
    have HF := hide (show ∀ w', Below w.heap.size w w' → FinP w b (.returned (.tuple #[.slice none 0 0, iI 0, .slice none 0 0, iI 15])) w' from fun w' hb => (HP.out _ _).2 ⟨hb, by rw [if_pos (.inl rfl)]⟩)
    go_quiet (fail)
    go_wp2_with fail
    refine bodyPost_ret (results_tmp4 rfl _ _ _) rfl ?_
    exact HF.out _ (below_drewL HDW3.out _)
  | true =>
    cases lo with
    | true =>
      have HF := hide (show ∀ w', Below w.heap.size w w' → FinP w b (.returned (.tuple #[.slice none 0 0, iI 0, .slice none 0 0, iI 15])) w' from fun w' hb => (HP.out _ _).2 ⟨hb, by rw [if_pos (.inr (.inl rfl))]⟩)
      go_quiet (fail)
      go_wp2_with fail
      refine bodyPost_ret (results_tmp4 rfl _ _ _) rfl ?_
      exact HF.out _ (below_drewL HDW3.out _)
    | false =>
      have HSTN := hide (show ∀ x ∈ b.code, ∀ y ∈ meantI x.i, 0 ≤ y ∧ y < (b.labels.length : Int) from fun x hx y hy => by
        have h1 := HE.out.1
        unfold lostB at h1
        have h2 := List.any_eq_false.1 h1.symm x hx
        have h3 : standB b (meantI x.i) = true := by simpa using h2
        have h4 := List.all_eq_true.1 h3 y hy
        unfold standsB at h4
        rw [Bool.and_eq_true] at h4
        exact of_decide_eq_true h4.1)
      have hS0 : w3.cell? ⟨q, 0, none⟩ = some (.pointer (some ⟨g, 0, none⟩)) ∧ w3.cell? ⟨g, 3, none⟩ = some (.bool true) ∧ w3.cell? ⟨g, 2, none⟩ = some (.slice Ab b.beyond.length cb) := ⟨hq3, h33, h32⟩
      have HL3 := hide (And.intro (World.block_lt_of_cell? w3 ⟨q, 0, none⟩ hq3) (World.block_lt_of_cell? w3 ⟨g, 3, none⟩ h33))
      have HSA := hide (stand_any g b b.bv b.beyond w3.drew HT3.out.bl.drew ((HLAB.out.below HB3.out (Nat.le_refl _)).below (Below.refl _ _).drew (Nat.le_refl _)) ((IntsAt.own HT3.out.br.be).below (Below.refl _ _).drew (Nat.le_refl _)) HN.out.2.1)
      rw [← HE.out.2.1, HV.out.2.1] at HSA
      clear hq3 h33 h32
      refine wp_region_tail 99 (fun w' => w'.cell? ⟨q, 0, none⟩ = some (.pointer (some ⟨g, 0, none⟩)) ∧ w'.cell? ⟨g, 3, none⟩ = some (.bool true) ∧ w'.cell? ⟨g, 2, none⟩ = some (.slice Ab b.beyond.length cb)) (by kernel_rfl) hS0 (fun hHeld => ?_)
      try simp only [Act.put, List.setIfInBounds_toArray, List.set_cons_zero, List.set_cons_succ]
      refine' wpTail_take (i := 0) (oi := _) ?hi5001 ?hs5001 ?hf5001 ?hr5001 ?hz5001 ?hQ5001 (v := _) (Or.inl ⟨?hw5001, ?hy5001⟩) (by assumption) ?_
      case hi5001 => (simp only [List.getElem?_toArray, List.getElem?_cons_zero]; exact rfl)
      case hs5001 => kernel_rfl
      case hf5001 => kernel_rfl
      case hr5001 => kernel_rfl
      case hz5001 => kernel_rfl
      case hQ5001 => exact fun _ _ _ h => h
      case hw5001 => rfl
      case hy5001 => (intro W0 hSw; (try dsimp only at hSw); have u0 : W0.cell? ⟨q, 0, none⟩ = some (.pointer (some ⟨g, 0, none⟩)) := hSw.1; go_simp; (try with_reducible rfl))
      try simp only [Act.put, List.setIfInBounds_toArray, List.set_cons_zero, List.set_cons_succ]
      refine' wpTail_take (i := 1) (oi := _) ?hi5002 ?hs5002 ?hf5002 ?hr5002 ?hz5002 ?hQ5002 (v := _) (Or.inl ⟨?hw5002, ?hy5002⟩) (by assumption) ?_
      case hi5002 => (simp only [List.getElem?_toArray, List.getElem?_cons_succ, List.getElem?_cons_zero]; exact rfl)
      case hs5002 => kernel_rfl
      case hf5002 => kernel_rfl
      case hr5002 => kernel_rfl
      case hz5002 => kernel_rfl
      case hQ5002 => exact fun _ _ _ h => h
      case hw5002 => rfl
      case hy5002 => (intro W0 hSw; (try dsimp only at hSw); go_simp; (try with_reducible rfl))
      try simp only [Act.put, List.setIfInBounds_toArray, List.set_cons_zero, List.set_cons_succ]
      refine' wpTail_take (i := 2) (oi := _) ?hi5003 ?hs5003 ?hf5003 ?hr5003 ?hz5003 ?hQ5003 (v := _) (Or.inl ⟨?hw5003, ?hy5003⟩) (by assumption) ?_
      case hi5003 => (simp only [List.getElem?_toArray, List.getElem?_cons_succ, List.getElem?_cons_zero]; exact rfl)
      case hs5003 => kernel_rfl
      case hf5003 => kernel_rfl
      case hr5003 => kernel_rfl
      case hz5003 => kernel_rfl
      case hQ5003 => exact fun _ _ _ h => h
      case hw5003 => rfl
      case hy5003 => (intro W0 hSw; (try dsimp only at hSw); go_simp; (try with_reducible rfl))
      try simp only [Act.put, List.setIfInBounds_toArray, List.set_cons_zero, List.set_cons_succ]
      refine' wpTail_take (i := 3) (oi := _) ?hi5004 ?hs5004 ?hf5004 ?hr5004 ?hz5004 ?hQ5004 (v := _) (Or.inl ⟨?hw5004, ?hy5004⟩) (by assumption) ?_
      case hi5004 => (simp only [List.getElem?_toArray, List.getElem?_cons_succ, List.getElem?_cons_zero]; exact rfl)
      case hs5004 => kernel_rfl
      case hf5004 => kernel_rfl
      case hr5004 => kernel_rfl
      case hz5004 => kernel_rfl
      case hQ5004 => exact fun _ _ _ h => h
      case hw5004 => rfl
      case hy5004 => (intro W0 hSw; (try dsimp only at hSw); have u3 : W0.cell? ⟨g, 3, none⟩ = some (.bool true) := hSw.2.1; go_simp; (try with_reducible rfl))
      try simp only [Act.put, List.setIfInBounds_toArray, List.set_cons_zero, List.set_cons_succ]
      refine' wpTail_take (i := 4) (oi := _) ?hi5005 ?hs5005 ?hf5005 ?hr5005 ?hz5005 ?hQ5005 (v := _) (Or.inl ⟨?hw5005, ?hy5005⟩) (by assumption) ?_
      case hi5005 => (simp only [List.getElem?_toArray, List.getElem?_cons_succ, List.getElem?_cons_zero]; exact rfl)
      case hs5005 => kernel_rfl
      case hf5005 => kernel_rfl
      case hr5005 => kernel_rfl
      case hz5005 => kernel_rfl
      case hQ5005 => exact fun _ _ _ h => h
      case hw5005 => rfl
      case hy5005 => (intro W0 hSw; (try dsimp only at hSw); go_simp; (try with_reducible rfl))
      try simp only [Act.put, List.setIfInBounds_toArray, List.set_cons_zero, List.set_cons_succ]
      refine' wpTail_take (i := 5) (oi := _) ?hi5006 ?hs5006 ?hf5006 ?hr5006 ?hz5006 ?hQ5006 (v := _) (Or.inl ⟨?hw5006, ?hy5006⟩) (by assumption) ?_
      case hi5006 => (simp only [List.getElem?_toArray, List.getElem?_cons_succ, List.getElem?_cons_zero]; exact rfl)
      case hs5006 => kernel_rfl
      case hf5006 => kernel_rfl
      case hr5006 => kernel_rfl
      case hz5006 => kernel_rfl
      case hQ5006 => exact fun _ _ _ h => h
      case hw5006 => rfl
      case hy5006 => (intro W0 hSw; (try dsimp only at hSw); go_simp; (try with_reducible rfl))
      try simp only [Act.put, List.setIfInBounds_toArray, List.set_cons_zero, List.set_cons_succ]
      refine' wpTail_take (i := 6) (oi := _) ?hi5007 ?hs5007 ?hf5007 ?hr5007 ?hz5007 ?hQ5007 (v := _) (Or.inl ⟨?hw5007, ?hy5007⟩) (by assumption) ?_
      case hi5007 => (simp only [List.getElem?_toArray, List.getElem?_cons_succ, List.getElem?_cons_zero]; exact rfl)
      case hs5007 => kernel_rfl
      case hf5007 => kernel_rfl
      case hr5007 => kernel_rfl
      case hz5007 => kernel_rfl
      case hQ5007 => exact fun _ _ _ h => h
      case hw5007 => rfl
      case hy5007 => (intro W0 hSw; (try dsimp only at hSw); go_simp; (try with_reducible rfl))
      try simp only [Act.put, List.setIfInBounds_toArray, List.set_cons_zero, List.set_cons_succ]
      refine' wpTail_take (i := 7) (oi := _) ?hi5008 ?hs5008 ?hf5008 ?hr5008 ?hz5008 ?hQ5008 (v := _) (Or.inl ⟨?hw5008, ?hy5008⟩) (by assumption) ?_
      case hi5008 => (simp only [List.getElem?_toArray, List.getElem?_cons_succ, List.getElem?_cons_zero]; exact rfl)
      case hs5008 => kernel_rfl
      case hf5008 => kernel_rfl
      case hr5008 => kernel_rfl
      case hz5008 => kernel_rfl
      case hQ5008 => exact fun _ _ _ h => h
      case hw5008 => rfl
      case hy5008 => (intro W0 hSw; (try dsimp only at hSw); go_simp; (try with_reducible rfl))
      try simp only [Act.put, List.setIfInBounds_toArray, List.set_cons_zero, List.set_cons_succ]
      refine' wpTail_take (i := 8) (oi := _) ?hi5009 ?hs5009 ?hf5009 ?hr5009 ?hz5009 ?hQ5009 (v := _) (Or.inl ⟨?hw5009, ?hy5009⟩) (by assumption) ?_
      case hi5009 => (simp only [List.getElem?_toArray, List.getElem?_cons_succ, List.getElem?_cons_zero]; exact rfl)
      case hs5009 => kernel_rfl
      case hf5009 => kernel_rfl
      case hr5009 => kernel_rfl
      case hz5009 => kernel_rfl
      case hQ5009 => exact fun _ _ _ h => h
      case hw5009 => rfl
      case hy5009 => (intro W0 hSw; (try dsimp only at hSw); go_simp; (try with_reducible rfl))
      try simp only [Act.put, List.setIfInBounds_toArray, List.set_cons_zero, List.set_cons_succ]
      refine' wpTail_take (i := 9) (oi := _) ?hi5010 ?hs5010 ?hf5010 ?hr5010 ?hz5010 ?hQ5010 (v := _) (Or.inl ⟨?hw5010, ?hy5010⟩) (by assumption) ?_
      case hi5010 => (simp only [List.getElem?_toArray, List.getElem?_cons_succ, List.getElem?_cons_zero]; exact rfl)
      case hs5010 => kernel_rfl
      case hf5010 => kernel_rfl
      case hr5010 => kernel_rfl
      case hz5010 => kernel_rfl
      case hQ5010 => exact fun _ _ _ h => h
      case hw5010 => rfl
      case hy5010 => (intro W0 hSw; (try dsimp only at hSw); have u0 : W0.cell? ⟨q, 0, none⟩ = some (.pointer (some ⟨g, 0, none⟩)) := hSw.1; go_simp; (try with_reducible rfl))
      try simp only [Act.put, List.setIfInBounds_toArray, List.set_cons_zero, List.set_cons_succ]
      refine' wpTail_take (i := 10) (oi := _) ?hi5011 ?hs5011 ?hf5011 ?hr5011 ?hz5011 ?hQ5011 (v := _) (Or.inl ⟨?hw5011, ?hy5011⟩) (by assumption) ?_
      case hi5011 => (simp only [List.getElem?_toArray, List.getElem?_cons_succ, List.getElem?_cons_zero]; exact rfl)
      case hs5011 => kernel_rfl
      case hf5011 => kernel_rfl
      case hr5011 => kernel_rfl
      case hz5011 => kernel_rfl
      case hQ5011 => exact fun _ _ _ h => h
      case hw5011 => rfl
      case hy5011 => (intro W0 hSw; (try dsimp only at hSw); have u0 : W0.cell? ⟨q, 0, none⟩ = some (.pointer (some ⟨g, 0, none⟩)) := hSw.1; go_simp; (try with_reducible rfl))
      try simp only [Act.put, List.setIfInBounds_toArray, List.set_cons_zero, List.set_cons_succ]
      refine' wpTail_take (i := 11) (oi := _) ?hi5012 ?hs5012 ?hf5012 ?hr5012 ?hz5012 ?hQ5012 (v := _) (Or.inl ⟨?hw5012, ?hy5012⟩) (by assumption) ?_
      case hi5012 => (simp only [List.getElem?_toArray, List.getElem?_cons_succ, List.getElem?_cons_zero]; exact rfl)
      case hs5012 => kernel_rfl
      case hf5012 => kernel_rfl
      case hr5012 => kernel_rfl
      case hz5012 => kernel_rfl
      case hQ5012 => exact fun _ _ _ h => h
      case hw5012 => rfl
      case hy5012 => (intro W0 hSw; (try dsimp only at hSw); go_simp; (try with_reducible rfl))
      try simp only [Act.put, List.setIfInBounds_toArray, List.set_cons_zero, List.set_cons_succ]
      refine' wpTail_take (i := 12) (oi := _) ?hi5013 ?hs5013 ?hf5013 ?hr5013 ?hz5013 ?hQ5013 (v := _) (Or.inl ⟨?hw5013, ?hy5013⟩) (by assumption) ?_
      case hi5013 => (simp only [List.getElem?_toArray, List.getElem?_cons_succ, List.getElem?_cons_zero]; exact rfl)
      case hs5013 => kernel_rfl
      case hf5013 => kernel_rfl
      case hr5013 => kernel_rfl
      case hz5013 => kernel_rfl
      case hQ5013 => exact fun _ _ _ h => h
      case hw5013 => rfl
      case hy5013 => (intro W0 hSw; (try dsimp only at hSw); go_simp; (try with_reducible rfl))
      try simp only [Act.put, List.setIfInBounds_toArray, List.set_cons_zero, List.set_cons_succ]
      refine' wpTail_take (i := 13) (oi := _) ?hi5014 ?hs5014 ?hf5014 ?hr5014 ?hz5014 ?hQ5014 (v := _) (Or.inl ⟨?hw5014, ?hy5014⟩) (by assumption) ?_
      case hi5014 => (simp only [List.getElem?_toArray, List.getElem?_cons_succ, List.getElem?_cons_zero]; exact rfl)
      case hs5014 => kernel_rfl
      case hf5014 => kernel_rfl
      case hr5014 => kernel_rfl
      case hz5014 => kernel_rfl
      case hQ5014 => exact fun _ _ _ h => h
      case hw5014 => rfl
      case hy5014 => (intro W0 hSw; (try dsimp only at hSw); have u2 : W0.cell? ⟨g, 2, none⟩ = some (.slice Ab b.beyond.length cb) := hSw.2.2; go_simp; (try with_reducible rfl))
      try simp only [Act.put, List.setIfInBounds_toArray, List.set_cons_zero, List.set_cons_succ]
      refine' wpTail_one (i := 14) (o := _) (by kernel_rfl) ?ho5015 ?hw5015 (fun K hK => ?_)
      case ho5015 => (simp only [List.getElem?_toArray, List.getElem?_cons_succ, List.getElem?_cons_zero]; exact rfl)
      case hw5015 => rfl
      go_simp
      (with_reducible refine HSA.out.mono ?_)
      rintro e w4 ⟨rfl, hb4⟩
      have hd4 : Below w3.heap.size w3 w4 := (Below.refl w3.heap.size w3).drew.trans hb4
      have hS4 : w4.cell? ⟨q, 0, none⟩ = some (.pointer (some ⟨g, 0, none⟩)) ∧ w4.cell? ⟨g, 3, none⟩ = some (.bool true) ∧ w4.cell? ⟨g, 2, none⟩ = some (.slice Ab b.beyond.length cb) := ⟨(hd4.cell (p := ⟨q, 0, none⟩) HL3.out.1).trans hS0.1, (hd4.cell (p := ⟨g, 3, none⟩) HL3.out.2).trans hS0.2.1, (hd4.cell (p := ⟨g, 2, none⟩) HL3.out.2).trans hS0.2.2⟩
      refine hK.out _ _ (fun _ => hS4) ?_
      clear hK K
      try simp only [Act.put, List.setIfInBounds_toArray, List.set_cons_zero, List.set_cons_succ]
      refine' wpTail_one (i := 15) (o := _) (by kernel_rfl) ?ho5016 ?hw5016 (fun K hK => ?_)
      case ho5016 => (simp only [List.getElem?_toArray, List.getElem?_cons_succ, List.getElem?_cons_zero]; exact rfl)
      case hw5016 => rfl
      go_simp
      refine hK.out _ _ (fun _ => hS4) ?_
      clear hK K
      try simp only [Act.put, List.setIfInBounds_toArray, List.set_cons_zero, List.set_cons_succ]
      refine' wpTail_one (i := 16) (o := _) (by kernel_rfl) ?ho5017 ?hw5017 (fun K hK => ?_)
      case ho5017 => (simp only [List.getElem?_toArray, List.getElem?_cons_succ, List.getElem?_cons_zero]; exact rfl)
      case hw5017 => rfl
      go_simp
      refine hK.out _ _ (fun _ => hS4) ?_
      clear hK K
      refine wpTail_done (by kernel_rfl) ?_ _
      try simp only [Act.put, List.setIfInBounds_toArray, List.set_cons_zero, List.set_cons_succ]
      clear hHeld
      have HT4 := hide (HT3.out.below hd4)
      have HB4 := hide (HDW3.out.trans (hd4.mono HDW3.out.size))
      have HB14 := hide (HB3.out.trans (hd4.mono HB3.out.size))
      clear hS0 HL3 hb4 hd4
      cases sb with
      | false =>
        have HF := hide (show ∀ w', Below w.heap.size w w' → FinP w b (.returned (.tuple #[.slice none 0 0, iI 0, .slice none 0 0, iI 15])) w' from fun w' hb => (HP.out _ _).2 ⟨hb, by rw [if_pos (.inr (.inr rfl))]⟩)
        go_wp2_with fail
        refine bodyPost_ret (results_tmp4 rfl _ _ _) rfl ?_
        exact HF.out _ (HB4.out)
      | true =>
        have HLG := hide (long_any g b w4 HT4.out.bl)
        rw [← HE.out.2.2.2] at HLG
        have hq4 := hS4.1
        clear hS4
        go_wp2_with fail
        refine HLG.out.mono ?_
        rintro e w5 ⟨rfl, rfl⟩
        cases lg with
        | true =>
          have HF := hide (show ∀ w', Below w.heap.size w w' → FinP w b (.returned (.tuple #[.slice none 0 0, iI 0, .slice none 0 0, iI 3])) w' from fun w' hb => (HP.out _ _).2 ⟨hb, by rw [if_neg (by simp), if_pos rfl]⟩)
          go_wp2_with fail
          refine bodyPost_ret (results_tmp4 rfl _ _ _) rfl ?_
          exact HF.out _ (HB4.out)
        | false =>
          obtain ⟨m, hm⟩ : ∃ m, m = b.code.length := ⟨_, rfl⟩
          obtain ⟨i0, hi0, hz0, hz1, hz2⟩ := info_parts insInfo
          obtain ⟨Z, hZ⟩ : ∃ Z : Array Value, Z = madeCells (.agg #[.int .i64 0, .int .i64 0, .int .i64 0, .int .i64 0, .int .i64 0, .int .i64 0, .string ⟨#[]⟩, .int .i64 0, .int .i64 0, .int .i64 0, .int .i64 0, .string ⟨#[]⟩, .slice none 0 0, .int .i64 0, .int .i64 0, .slice none 0 0, .int .i64 0, .int .i64 0, .int .i64 0, .int .i64 0, .int .i64 0, .int .i64 0] : Value).cells (m * i0.size) := ⟨_, rfl⟩
          have hmk : ∀ W : World, (Instr.makeSlice 43 (.int .i64 (m : Int)) (.int .i64 (m : Int))).run Try.prog W = .ok (.slice (some ⟨W.heap.size, 0, none⟩) m m) (W.alloc (.cells Z 39)) := fun W => by
            rw [hZ]
            exact run_make_rowN (P := Try.prog) 43 39 i0 _ Try.underlying43 hi0 hz0 .i64 .i64 m m (Nat.le_refl _) (by rw [hz2]; have := HN.out.1.1; omega) (by have := HN.out.1.1; omega) W
          have HZS := hide (show Z.size = m * 22 by rw [hZ, size_madeCells, hz1])
          have HM := hide hm
          have HV2 := hide (show b.cv = .slice Ac m cc by rw [HV.out.1, hm])
          have h40 : w4.cell? ⟨g, 0, none⟩ = some (.slice Ac m cc) := by rw [← HV2.out]; exact HT4.out.bl.cell 0
          obtain ⟨o, ho⟩ : ∃ o, o = w4.heap.size := ⟨_, rfl⟩
          obtain ⟨W5, hW5⟩ : ∃ W5, W5 = w4.alloc (.cells Z 39) := ⟨_, rfl⟩
          have hb5 : Below w4.heap.size w4 W5 := by rw [hW5]; exact (Below.refl _ _).alloc (Nat.le_refl _) _
          have hbo : Blk W5 o 39 Z := by rw [hW5, ho]; exact Blk.new _ _ _
          have HT5 := hide (HT4.out.below hb5)
          have HB5 := hide (HB4.out.trans (hb5.mono HB4.out.size))
          have HB15 := hide (HB14.out.trans (hb5.mono HB14.out.size))
          have hq5 : W5.cell? ⟨q, 0, none⟩ = some (.pointer (some ⟨g, 0, none⟩)) := (HBQ.out.below HB15.out HBQ.out.lt).cell 0
          have h50 : W5.cell? ⟨g, 0, none⟩ = some (.slice Ac m cc) := by rw [← HV2.out]; exact HT5.out.bl.cell 0
          have HO := hide ho
          have HOW := hide (show w.heap.size ≤ o ∧ W1.heap.size ≤ o ∧ g < o by have h1 := HB4.out.size; have h2 := HB14.out.size; have h3 := HT4.out.bl.lt; omega)
          have HBO := hide hbo
          have HB45 := hide hb5
          have HW5 := hide hW5
          clear hi0 hz0 hz1 hz2 hZ hm ho hW5 hb5 hbo
          go_upto_region 7 with (fail)
          rw [← HW5.out, ← HO.out]
          go_wp2_with fail
          clear hmk hq4 h40 hq5 h50
          have HF := hide (show ∀ w' v sv L, Below w.heap.size w w' → L.map IV.i = b.code.map (fun x => placedI b x.i) → RV w' w.heap.size v L → w'.ownsRow w.heap.size 32 4 sv b.stmts.length (b.stmts.flatMap Sm.enc) → FinP w b (.returned (.tuple #[v, iI b.regs, sv, iI 0])) w' from fun w' v sv L hb h1 h2 h3 => (HP.out _ _).2 ⟨hb, by rw [if_neg (by simp), if_neg (by simp)]; exact ⟨v, sv, L, rfl, h1, h2, h3⟩⟩)
          go_loopw [46] (fun jj wr => ∃ j : Nat, j ≤ m ∧ jj = .int .i64 j ∧ ∃ (L : List IV) (R : List Value), Hid (L.length = j ∧ R.length = (m - j) * 22 ∧ L.map IV.i = (b.code.take j).map (fun x => placedI b x.i)) ∧ Hid (Blk wr o 39 (L.flatMap IV.enc ++ R).toArray) ∧ Hid (∀ x ∈ L, wr.ownsRow w.heap.size 3 1 x.av x.i.args.length (x.i.args.map iI) ∧ wr.ownsRow w.heap.size 41 6 x.rv x.i.arms.length (x.i.arms.flatMap Arm.enc)) ∧ Hid (Below w4.heap.size w4 wr)) (fun jj _ => m - (intOf jj).toNat)
          case atStart => exact ⟨0, Nat.zero_le _, rfl, [], Z.toList, hide ⟨rfl, by rw [Array.length_toList, HZS.out, Nat.sub_zero], rfl⟩, hide (by simpa using HBO.out), hide (fun x hx => by cases hx), HB45⟩
          case round =>
            obtain ⟨j, hj, rfl, L, R, HLR, HBR, HEL, HWR⟩ := hrel
            have HTR := hide (HT4.out.below HWR.out)
            have HWW := hide (HB4.out.trans (HWR.out.mono HB4.out.size))
            by_cases hlt : j < m
            · have j1 : (j : Int) < (m : Int) := by omega
              have j2 : (0 : Int) ≤ (j : Int) := by omega
              have q5 : IntKind.i64.wrap ((j : Int) + 1) = (j : Int) + 1 := IntWalk.i64_in _ (by have := HN.out.1.1; have := HM.out; omega)
              have hbW := HB14.out.trans (HWR.out.mono HB14.out.size)
              have hcvr := HROW.out.below hbW (Nat.le_refl _)
              rw [HV2.out] at hcvr
              obtain ⟨bb, of, x, rfl, hbl, hx, hcells⟩ := RowAt.at_ hcvr (i := j) (by have := HM.out; omega)
              have hmem := List.mem_of_getElem? hx
              have hix := (HOK.out x hmem).below hbW (Nat.le_refl _)
              have HLX := hide (HN.out.1.2 x hmem)
              have HSX := hide (HSTN.out x hmem)
              have HX := hide hx
              have HCE := hide (show wr.rangeAt bb (of + j * 22) (IV.enc x) from hcells)
              obtain ⟨V, hV⟩ : ∃ V, V = Ins.val x.i x.av x.rv := ⟨_, rfl⟩
              have HVI := hide hV
              obtain ⟨gx, hgx⟩ : ∃ gx, gx = wr.heap.size := ⟨_, rfl⟩
              have HG0 := hide hgx
              have HON := hide (ins_one hix)
              have HIX := hide hix
              clear hx hcells hV hgx hcvr hix hmem hbW
              go_upto_region 10 with (first
                | (refine wpList_load_midW 39 (.tmp 49) bb (of + j * 22) (IV.enc x) V HCE.out HVI.out Try.underlying39 rfl ins_size rfl (by kernel_rfl) rfl ?_)
                | (refine wpList_store_new 39 (.tmp 9) (.tmp 50) (x.i.arr x.av x.rv) V HVI.out ins_size HON.out rfl rfl rfl rfl rfl rfl ?_
                   intro W2 hbg hb2
                   rw [← HG0.out] at hbg
                   have HBG := hide hbg
                   have HB2 := hide hb2
                   clear hbg hb2))
              rw [← HG0.out]
              have HT2 := hide (HTR.out.below HB2.out)
              have HIX2 := hide (HIX.out.below HB2.out (Nat.le_refl _))
              have hq2 : W2.cell? ⟨q, 0, none⟩ = some (.pointer (some ⟨g, 0, none⟩)) := (HBQ.out.below (HB14.out.trans ((HWR.out.trans (HB2.out.mono HWR.out.size)).mono HB14.out.size)) HBQ.out.lt).cell 0
              have HPL := hide (placed_any g b x.i x.av x.rv W2 HT2.out.bl (IntsAt.own HT2.out.br.la) HIX2.out HLX.out HSX.out)
              rw [← HVI.out] at HPL
              clear hbl
              go_wp2_with (first
                | (refine wpList_load_blk (.tmp 9) HBG.out HVI.out Try.underlying39 rfl ins_size rfl (by kernel_rfl) rfl ?_))
              refine HPL.out.mono ?_
              rintro e w7 ⟨av7, rv7, rfl, ho7, hr7, hb7⟩
              obtain ⟨A6, c6, rfl⟩ := own_formT ho7
              obtain ⟨A7, c7, rfl⟩ := own_formT hr7
              obtain ⟨pi, hpi⟩ : ∃ pi, pi = placedI b x.i := ⟨_, rfl⟩
              rw [← hpi] at ho7 hr7 ⊢
              obtain ⟨n6, hn6⟩ : ∃ n, n = pi.args.length := ⟨_, rfl⟩
              obtain ⟨n7, hn7⟩ : ∃ n, n = pi.arms.length := ⟨_, rfl⟩
              rw [← hn6, ← hn7]
              obtain ⟨V7, hV7⟩ : ∃ V7, V7 = pi.val (.slice A6 n6 c6) (.slice A7 n7 c7) := ⟨_, rfl⟩
              rw [← hV7]
              have HV7 := hide hV7
              have HON7 := hide (show (pi.arr (.slice A6 n6 c6) (.slice A7 n7 c7)).all (·.oneCell') = true by simp [Value.oneCell'])
              have hb27 := HB2.out.trans (hb7.mono HB2.out.size)
              have hbo7 := HBR.out.below hb27 HBR.out.lt
              have hPL : (L.flatMap IV.enc).length = j * 22 := by rw [flat_lenR IV.enc_length L, HLR.out.1]
              have hRL : 22 ≤ R.length := by rw [HLR.out.2.1]; omega
              have HTH := hide (hbo7.there_ (j * 22) 22 (by rw [List.size_toArray, List.length_append, hPL]; omega))
              obtain ⟨W8, hW8⟩ : ∃ W8, W8 = w7.setCells o (j * 22) (pi.arr (.slice A6 n6 c6) (.slice A7 n7 c7)).toList := ⟨_, rfl⟩
              have hmid := Blk.mid_cells (pi.arr (.slice A6 n6 c6) (.slice A7 n7 c7)).toList (L.flatMap IV.enc) R w7 (by show 22 ≤ _; exact hRL) hbo7
              rw [hPL, ← hW8] at hmid
              have HBN : Hid (Blk W8 o 39 ((L ++ [(⟨pi, .slice A6 n6 c6, .slice A7 n7 c7⟩ : IV)]).flatMap IV.enc ++ R.drop 22).toArray) := hide (by rw [List.flatMap_append, List.flatMap_singleton]; exact hmid)
              have hl7 : HB4.out.size = HB4.out.size := rfl
              have hsz7 : w.heap.size ≤ W2.heap.size := Nat.le_trans HWW.out.size HB2.out.size
              have HEN : Hid (∀ y ∈ L ++ [(⟨pi, .slice A6 n6 c6, .slice A7 n7 c7⟩ : IV)], W8.ownsRow w.heap.size 3 1 y.av y.i.args.length (y.i.args.map iI) ∧ W8.ownsRow w.heap.size 41 6 y.rv y.i.arms.length (y.i.arms.flatMap Arm.enc)) := hide (fun y hy => by
                have hh : w7.ownsRow w.heap.size 3 1 y.av y.i.args.length (y.i.args.map iI) ∧ w7.ownsRow w.heap.size 41 6 y.rv y.i.arms.length (y.i.arms.flatMap Arm.enc) := by
                  rcases List.mem_append.1 hy with hy | hy
                  · exact ⟨own_belowT (HEL.out y hy).1 hb27, own_belowT (HEL.out y hy).2 hb27⟩
                  · simp at hy
                    subst hy
                    rw [hn6, hn7]
                    exact ⟨own_monoT ho7 hsz7, own_monoT hr7 hsz7⟩
                rw [hW8]
                exact ⟨own_cells o (own_blk_ne hh.1 hbo7 (by decide)) _ _ _ hh.1, own_cells o (own_blk_ne hh.2 hbo7 (by decide)) _ _ _ hh.2⟩)
              have HWN : Hid (Below w4.heap.size w4 W8) := hide (by rw [hW8]; exact Below.cells_ o (by rw [HO.out]; exact Nat.le_refl _) _ _ _ (HWR.out.trans (hb27.mono HWR.out.size)))
              have HLN : Hid ((L ++ [(⟨pi, .slice A6 n6 c6, .slice A7 n7 c7⟩ : IV)]).length = j + 1 ∧ (R.drop 22).length = (m - (j + 1)) * 22 ∧ (L ++ [(⟨pi, .slice A6 n6 c6, .slice A7 n7 c7⟩ : IV)]).map IV.i = (b.code.take (j + 1)).map (fun x => placedI b x.i)) := hide ⟨by rw [List.length_append, HLR.out.1]; rfl, by rw [List.length_drop, HLR.out.2.1]; omega, by rw [List.map_append, HLR.out.2.2, List.take_add_one, HX.out, List.map_append]; simp [hpi]⟩
              have HW8 := hide hW8
              clear hq2 hW8 hmid ho7 hr7 hb7 hb27 hbo7 hPL hRL hpi hn6 hn7 hV7 hl7 hsz7
              go_upto_region 11 with (first
                | (refine wpList_store_mid rfl 39 (.tmp 56) (.tmp 55) rfl o (j * 22) (pi.arr (.slice A6 n6 c6) (.slice A7 n7 c7)) rfl HV7.out HTH.out ins_size HON7.out ?_)
                | (refine wpList_store_mid rfl 39 (.tmp 56) (.tmp 55) rfl o (0 + j * 22) (pi.arr (.slice A6 n6 c6) (.slice A7 n7 c7)) rfl HV7.out (by rw [Nat.zero_add]; exact HTH.out) ins_size HON7.out ?_; rw [Nat.zero_add]))
              rw [← HW8.out]
              go_wp2_with fail
              go_roundw
              case rel => exact ⟨j + 1, by omega, by simp, _, _, HLN, HBN, HEN, HWN⟩
              case measure => simp [intOf]; omega
            · have hjm : j = m := by omega
              subst hjm
              have HR0 := hide (show R = [] from List.eq_nil_of_length_eq_zero (by rw [HLR.out.2.1]; omega))
              rw [HR0.out, List.append_nil] at HBR
              have HROWN : Hid (wr.ownsRow w.heap.size 39 22 (.slice (some ⟨o, 0, none⟩) j j) L.length (L.flatMap IV.enc)) := hide (by
                have hl : (L.flatMap IV.enc).length = L.length * 22 := flat_lenR IV.enc_length L
                refine ⟨hl, .inr ⟨o, j, (L.flatMap IV.enc).toArray, by rw [HLR.out.1], HOW.out.1, HBR.out, by rw [HLR.out.1]; exact Nat.le_refl _, by have := HN.out.1.1; have := HM.out; simp only [maxLen]; omega, by rw [List.size_toArray, hl, HLR.out.1], by rw [List.take_of_length_le (by rw [hl]; exact Nat.le_refl _)]⟩⟩)
              have hq9 : wr.cell? ⟨q, 0, none⟩ = some (.pointer (some ⟨g, 0, none⟩)) := (HBQ.out.below (HB14.out.trans (HWR.out.mono HB14.out.size)) HBQ.out.lt).cell 0
              have h94 : wr.cell? ⟨g, 4, none⟩ = some (iI b.regs) := HTR.out.bl.cell 4
              have h96 : wr.cell? ⟨g, 6, none⟩ = some (.slice As b.stmts.length cs) := by rw [← HV.out.2.2]; exact HTR.out.bl.cell 6
              have hS0 : wr.cell? ⟨q, 0, none⟩ = some (.pointer (some ⟨g, 0, none⟩)) ∧ wr.cell? ⟨g, 4, none⟩ = some (iI b.regs) ∧ wr.cell? ⟨g, 6, none⟩ = some (.slice As b.stmts.length cs) := ⟨hq9, h94, h96⟩
              have HL9 := hide (And.intro (World.block_lt_of_cell? wr ⟨q, 0, none⟩ hq9) (World.block_lt_of_cell? wr ⟨g, 4, none⟩ h94))
              have HCS := hide (clone_sms b.sv b.stmts wr.drew ((RowAt.own Sm.enc_length HTR.out.br.sm).below (Below.refl _ _).drew (Nat.le_refl _)) (by have := HN.out.2.2; omega))
              rw [HV.out.2.2] at HCS
              clear hq9 h94 h96
              have j1 : ¬ (j : Int) < (j : Int) := by omega
              go_upto_region 12 with (fail)
              refine wp_region_tail 99 (fun w' => w'.cell? ⟨q, 0, none⟩ = some (.pointer (some ⟨g, 0, none⟩)) ∧ w'.cell? ⟨g, 4, none⟩ = some (iI b.regs) ∧ w'.cell? ⟨g, 6, none⟩ = some (.slice As b.stmts.length cs)) (by kernel_rfl) hS0 (fun hHeld => ?_)
              try simp only [Act.put, List.setIfInBounds_toArray, List.set_cons_zero, List.set_cons_succ]
              refine' wpTail_take (i := 0) (oi := _) ?hi5018 ?hs5018 ?hf5018 ?hr5018 ?hz5018 ?hQ5018 (v := _) (Or.inl ⟨?hw5018, ?hy5018⟩) (by assumption) ?_
              case hi5018 => (simp only [List.getElem?_toArray, List.getElem?_cons_zero]; exact rfl)
              case hs5018 => kernel_rfl
              case hf5018 => kernel_rfl
              case hr5018 => kernel_rfl
              case hz5018 => kernel_rfl
              case hQ5018 => exact fun _ _ _ h => h
              case hw5018 => rfl
              case hy5018 => (intro W0 hSw; (try dsimp only at hSw); go_simp; (try with_reducible rfl))
              try simp only [Act.put, List.setIfInBounds_toArray, List.set_cons_zero, List.set_cons_succ]
              refine' wpTail_take (i := 1) (oi := _) ?hi5019 ?hs5019 ?hf5019 ?hr5019 ?hz5019 ?hQ5019 (v := _) (Or.inl ⟨?hw5019, ?hy5019⟩) (by assumption) ?_
              case hi5019 => (simp only [List.getElem?_toArray, List.getElem?_cons_succ, List.getElem?_cons_zero]; exact rfl)
              case hs5019 => kernel_rfl
              case hf5019 => kernel_rfl
              case hr5019 => kernel_rfl
              case hz5019 => kernel_rfl
              case hQ5019 => exact fun _ _ _ h => h
              case hw5019 => rfl
              case hy5019 => (intro W0 hSw; (try dsimp only at hSw); have u0 : W0.cell? ⟨q, 0, none⟩ = some (.pointer (some ⟨g, 0, none⟩)) := hSw.1; go_simp; (try with_reducible rfl))
              try simp only [Act.put, List.setIfInBounds_toArray, List.set_cons_zero, List.set_cons_succ]
              refine' wpTail_take (i := 2) (oi := _) ?hi5020 ?hs5020 ?hf5020 ?hr5020 ?hz5020 ?hQ5020 (v := _) (Or.inl ⟨?hw5020, ?hy5020⟩) (by assumption) ?_
              case hi5020 => (simp only [List.getElem?_toArray, List.getElem?_cons_succ, List.getElem?_cons_zero]; exact rfl)
              case hs5020 => kernel_rfl
              case hf5020 => kernel_rfl
              case hr5020 => kernel_rfl
              case hz5020 => kernel_rfl
              case hQ5020 => exact fun _ _ _ h => h
              case hw5020 => rfl
              case hy5020 => (intro W0 hSw; (try dsimp only at hSw); go_simp; (try with_reducible rfl))
              try simp only [Act.put, List.setIfInBounds_toArray, List.set_cons_zero, List.set_cons_succ]
              refine' wpTail_take (i := 3) (oi := _) ?hi5021 ?hs5021 ?hf5021 ?hr5021 ?hz5021 ?hQ5021 (v := _) (Or.inl ⟨?hw5021, ?hy5021⟩) (by assumption) ?_
              case hi5021 => (simp only [List.getElem?_toArray, List.getElem?_cons_succ, List.getElem?_cons_zero]; exact rfl)
              case hs5021 => kernel_rfl
              case hf5021 => kernel_rfl
              case hr5021 => kernel_rfl
              case hz5021 => kernel_rfl
              case hQ5021 => exact fun _ _ _ h => h
              case hw5021 => rfl
              case hy5021 => (intro W0 hSw; (try dsimp only at hSw); go_simp; (try with_reducible rfl))
              try simp only [Act.put, List.setIfInBounds_toArray, List.set_cons_zero, List.set_cons_succ]
              refine' wpTail_take (i := 4) (oi := _) ?hi5022 ?hs5022 ?hf5022 ?hr5022 ?hz5022 ?hQ5022 (v := _) (Or.inl ⟨?hw5022, ?hy5022⟩) (by assumption) ?_
              case hi5022 => (simp only [List.getElem?_toArray, List.getElem?_cons_succ, List.getElem?_cons_zero]; exact rfl)
              case hs5022 => kernel_rfl
              case hf5022 => kernel_rfl
              case hr5022 => kernel_rfl
              case hz5022 => kernel_rfl
              case hQ5022 => exact fun _ _ _ h => h
              case hw5022 => rfl
              case hy5022 => (intro W0 hSw; (try dsimp only at hSw); have u4 : W0.cell? ⟨g, 4, none⟩ = some (iI b.regs) := hSw.2.1; go_simp; (try with_reducible rfl))
              try simp only [Act.put, List.setIfInBounds_toArray, List.set_cons_zero, List.set_cons_succ]
              refine' wpTail_take (i := 5) (oi := _) ?hi5023 ?hs5023 ?hf5023 ?hr5023 ?hz5023 ?hQ5023 (v := _) (Or.inl ⟨?hw5023, ?hy5023⟩) (by assumption) ?_
              case hi5023 => (simp only [List.getElem?_toArray, List.getElem?_cons_succ, List.getElem?_cons_zero]; exact rfl)
              case hs5023 => kernel_rfl
              case hf5023 => kernel_rfl
              case hr5023 => kernel_rfl
              case hz5023 => kernel_rfl
              case hQ5023 => exact fun _ _ _ h => h
              case hw5023 => rfl
              case hy5023 => (intro W0 hSw; (try dsimp only at hSw); have u0 : W0.cell? ⟨q, 0, none⟩ = some (.pointer (some ⟨g, 0, none⟩)) := hSw.1; go_simp; (try with_reducible rfl))
              try simp only [Act.put, List.setIfInBounds_toArray, List.set_cons_zero, List.set_cons_succ]
              refine' wpTail_take (i := 6) (oi := _) ?hi5024 ?hs5024 ?hf5024 ?hr5024 ?hz5024 ?hQ5024 (v := _) (Or.inl ⟨?hw5024, ?hy5024⟩) (by assumption) ?_
              case hi5024 => (simp only [List.getElem?_toArray, List.getElem?_cons_succ, List.getElem?_cons_zero]; exact rfl)
              case hs5024 => kernel_rfl
              case hf5024 => kernel_rfl
              case hr5024 => kernel_rfl
              case hz5024 => kernel_rfl
              case hQ5024 => exact fun _ _ _ h => h
              case hw5024 => rfl
              case hy5024 => (intro W0 hSw; (try dsimp only at hSw); go_simp; (try with_reducible rfl))
              try simp only [Act.put, List.setIfInBounds_toArray, List.set_cons_zero, List.set_cons_succ]
              refine' wpTail_take (i := 7) (oi := _) ?hi5025 ?hs5025 ?hf5025 ?hr5025 ?hz5025 ?hQ5025 (v := _) (Or.inl ⟨?hw5025, ?hy5025⟩) (by assumption) ?_
              case hi5025 => (simp only [List.getElem?_toArray, List.getElem?_cons_succ, List.getElem?_cons_zero]; exact rfl)
              case hs5025 => kernel_rfl
              case hf5025 => kernel_rfl
              case hr5025 => kernel_rfl
              case hz5025 => kernel_rfl
              case hQ5025 => exact fun _ _ _ h => h
              case hw5025 => rfl
              case hy5025 => (intro W0 hSw; (try dsimp only at hSw); go_simp; (try with_reducible rfl))
              try simp only [Act.put, List.setIfInBounds_toArray, List.set_cons_zero, List.set_cons_succ]
              refine' wpTail_take (i := 8) (oi := _) ?hi5026 ?hs5026 ?hf5026 ?hr5026 ?hz5026 ?hQ5026 (v := _) (Or.inl ⟨?hw5026, ?hy5026⟩) (by assumption) ?_
              case hi5026 => (simp only [List.getElem?_toArray, List.getElem?_cons_succ, List.getElem?_cons_zero]; exact rfl)
              case hs5026 => kernel_rfl
              case hf5026 => kernel_rfl
              case hr5026 => kernel_rfl
              case hz5026 => kernel_rfl
              case hQ5026 => exact fun _ _ _ h => h
              case hw5026 => rfl
              case hy5026 => (intro W0 hSw; (try dsimp only at hSw); have u6 : W0.cell? ⟨g, 6, none⟩ = some (.slice As b.stmts.length cs) := hSw.2.2; go_simp; (try with_reducible rfl))
              try simp only [Act.put, List.setIfInBounds_toArray, List.set_cons_zero, List.set_cons_succ]
              refine' wpTail_one (i := 9) (o := _) (by kernel_rfl) ?ho5027 ?hw5027 (fun K hK => ?_)
              case ho5027 => (simp only [List.getElem?_toArray, List.getElem?_cons_succ, List.getElem?_cons_zero]; exact rfl)
              case hw5027 => rfl
              go_simp
              (with_reducible refine HCS.out.mono ?_)
              rintro e w9 ⟨v9, rfl, hown9, hb9⟩
              have hd9 : Below wr.heap.size wr w9 := (Below.refl wr.heap.size wr).drew.trans hb9
              have hS9 : w9.cell? ⟨q, 0, none⟩ = some (.pointer (some ⟨g, 0, none⟩)) ∧ w9.cell? ⟨g, 4, none⟩ = some (iI b.regs) ∧ w9.cell? ⟨g, 6, none⟩ = some (.slice As b.stmts.length cs) := ⟨(hd9.cell (p := ⟨q, 0, none⟩) HL9.out.1).trans hS0.1, (hd9.cell (p := ⟨g, 4, none⟩) HL9.out.2).trans hS0.2.1, (hd9.cell (p := ⟨g, 6, none⟩) HL9.out.2).trans hS0.2.2⟩
              refine hK.out _ _ (fun _ => hS9) ?_
              clear hK K
              try simp only [Act.put, List.setIfInBounds_toArray, List.set_cons_zero, List.set_cons_succ]
              refine' wpTail_one (i := 10) (o := _) (by kernel_rfl) ?ho5028 ?hw5028 (fun K hK => ?_)
              case ho5028 => (simp only [List.getElem?_toArray, List.getElem?_cons_succ, List.getElem?_cons_zero]; exact rfl)
              case hw5028 => rfl
              go_simp
              refine hK.out _ _ (fun _ => hS9) ?_
              clear hK K
              try simp only [Act.put, List.setIfInBounds_toArray, List.set_cons_zero, List.set_cons_succ]
              refine' wpTail_one (i := 11) (o := _) (by kernel_rfl) ?ho5029 ?hw5029 (fun K hK => ?_)
              case ho5029 => (simp only [List.getElem?_toArray, List.getElem?_cons_succ, List.getElem?_cons_zero]; exact rfl)
              case hw5029 => rfl
              go_simp
              refine hK.out _ _ (fun _ => hS9) ?_
              clear hK K
              try simp only [Act.put, List.setIfInBounds_toArray, List.set_cons_zero, List.set_cons_succ]
              refine' wpTail_one (i := 12) (o := _) (by kernel_rfl) ?ho5030 ?hw5030 (fun K hK => ?_)
              case ho5030 => (simp only [List.getElem?_toArray, List.getElem?_cons_succ, List.getElem?_cons_zero]; exact rfl)
              case hw5030 => rfl
              go_simp
              refine hK.out _ _ (fun _ => hS9) ?_
              clear hK K
              try simp only [Act.put, List.setIfInBounds_toArray, List.set_cons_zero, List.set_cons_succ]
              refine' wpTail_one (i := 13) (o := _) (by kernel_rfl) ?ho5031 ?hw5031 (fun K hK => ?_)
              case ho5031 => (simp only [List.getElem?_toArray, List.getElem?_cons_succ, List.getElem?_cons_zero]; exact rfl)
              case hw5031 => rfl
              go_simp
              refine hK.out _ _ (fun _ => hS9) ?_
              clear hK K
              refine wpTail_done (by kernel_rfl) ?_ _
              try simp only [Act.put, List.setIfInBounds_toArray, List.set_cons_zero, List.set_cons_succ]
              clear hHeld
              go_wp2_with fail
              refine bodyPost_ret (results_tmp4 rfl _ _ _) rfl ?_
              exact HF.out _ _ _ L (HWW.out.trans (hd9.mono HWW.out.size)) (by rw [HLR.out.2.2, List.take_of_length_le (by have := HM.out; omega)]) ⟨own_belowT HROWN.out hd9, fun y hy => ⟨own_belowT (HEL.out y hy).1 hd9, own_belowT (HEL.out y hy).2 hd9⟩⟩ (own_monoT hown9 HWW.out.size)
end Go.Proofs.Ytfdjomkkagommaa
