/- Which labels stand somewhere (stands, stand, and the closure of Finish); conditions: the builder is in memory. -/
import Derived.Test.YtfdjomkkagommaaCoO
namespace Go.Proofs.Ytfdjomkkagommaa
open Go.RowKit Go.WideShapes Go.ChangeShapes
set_option linter.unusedVariables false
set_option linter.unusedSimpArgs false
set_option maxRecDepth 100000

def labelAt (b : Bd) (x : Int) : Int := b.labels.getD x.toNat (-1)
def standsB (b : Bd) (x : Int) : Bool := decide (0 ≤ x ∧ x < (b.labels.length : Int)) && (decide (labelAt b x ≠ -1) && decide (labelAt b x < b.put))
set_option maxHeartbeats 4000000 in
theorem stands_any (g : Nat) (b : Bd) (x : Int) (w : World) (h : Blk w g 63 b.arr) (hl : IntsAt w b.lv b.labels) : Calls Try.prog 43 #[.pointer (some ⟨g, 0, none⟩), .int .i64 x] w (BoolP w (standsB b x)) := by
  obtain ⟨Al, cl, hlv⟩ := hl.form
  obtain ⟨n, hn⟩ : ∃ n, n = b.labels.length := ⟨_, rfl⟩
  rw [← hn] at hlv
  have z1 : w.cell? ⟨g, 1, none⟩ = some (.int .i64 b.put) := h.cell 1
  have z5 : w.cell? ⟨g, 5, none⟩ = some (.slice Al n cl) := by rw [← hlv]; exact h.cell 5
  have HS : Hid (standsB b x = (decide (0 ≤ x ∧ x < (n : Int)) && (decide (labelAt b x ≠ -1) && decide (labelAt b x < b.put)))) := hide (by unfold standsB; rw [← hn])
  rw [hlv] at hl
  have HL := hide hl
  have HN := hide hn
  clear h hl hlv hn
  by_cases h1 : 0 ≤ x
  · by_cases h2 : x < (n : Int)
    · obtain ⟨k, rfl⟩ : ∃ k : Nat, x = (k : Int) := ⟨x.toNat, by omega⟩
      obtain ⟨blk, off, v, rfl, hbl, hv, hc⟩ := HL.out.at_ (k := k) (by have := HN.out; omega)
      have HV := hide (show labelAt b (k : Int) = v by unfold labelAt; simp [hv])
      clear hv
      by_cases h3 : v = -1
      · subst h3
        have HF := hide (show standsB b (k : Int) = false by rw [HS.out, HV.out]; simp)
        go_enter Try.func43, Try.ntmps43
        go_wp2_with fail
        go_quiet (fail)
        go_wp2_with fail
        go_ret
        exact ⟨ret_bS HF.out.symm, below_drewL (Below.refl _ _) _⟩
      · by_cases h4 : v < b.put
        · have HF := hide (show standsB b (k : Int) = true by rw [HS.out, HV.out, decide_eq_true ⟨h1, h2⟩, decide_eq_true h3, decide_eq_true h4]; rfl)
          have i3 : (v == -1) = false := by rw [beq_eq_false_iff_ne]; exact h3
          go_enter Try.func43, Try.ntmps43
          go_wp2_with fail
          go_quiet (fail)
          go_wp2_with fail
          go_ret
          exact ⟨ret_bS (by rw [HF.out]; first | rfl | simp [h3] | simp [h3, h4]), below_drewL (Below.refl _ _) _⟩
        · have HF := hide (show standsB b (k : Int) = false by rw [HS.out, HV.out, decide_eq_false h4]; simp)
          have i3 : (v == -1) = false := by rw [beq_eq_false_iff_ne]; exact h3
          go_enter Try.func43, Try.ntmps43
          go_wp2_with fail
          go_quiet (fail)
          go_wp2_with fail
          go_ret
          exact ⟨ret_bS (by rw [HF.out]; first | rfl | simp [h4] | simp [h3, h4]), below_drewL (Below.refl _ _) _⟩
    · have HF := hide (show standsB b x = false by rw [HS.out, decide_eq_false (fun h => h2 h.2)]; rfl)
      have d1 : decide (0 ≤ x) = true := decide_eq_true h1
      have d2 : decide (x < (n : Int)) = false := decide_eq_false h2
      go_enter Try.func43, Try.ntmps43
      go_wp2_with fail
      go_quiet (fail)
      go_wp2_with fail
      go_ret
      exact ⟨ret_bS HF.out.symm, below_drewL (Below.refl _ _) _⟩
  · have HF := hide (show standsB b x = false by rw [HS.out, decide_eq_false (fun h => h1 h.1)]; rfl)
    have d1 : decide (0 ≤ x) = false := decide_eq_false h1
    go_enter Try.func43, Try.ntmps43
    go_wp2_with fail
    go_quiet (fail)
    go_wp2_with fail
    go_ret
    exact ⟨ret_bS HF.out.symm, below_drewL (Below.refl _ _) _⟩
theorem stand_clo (g q : Nat) (b : Bd) (x : Int) (w : World) (h : Blk w g 63 b.arr) (hl : IntsAt w b.lv b.labels) (hq : w.cell? ⟨q, 0, none⟩ = some (.pointer (some ⟨g, 0, none⟩))) : Calls Try.prog 42 #[.int .i64 x, .pointer (some ⟨q, 0, none⟩)] w (BoolP w (!(standsB b x))) := by
  have HST := hide (stands_any g b x w h hl)
  obtain ⟨s, hs⟩ : ∃ s, s = standsB b x := ⟨_, rfl⟩
  rw [← hs] at HST ⊢
  clear h hl hs
  go_enter Try.func42, Try.ntmps42
  go_wp2_with fail
  refine HST.out.mono ?_
  rintro e w3 ⟨rfl, hb3⟩
  go_wp2_with fail
  go_ret
  exact ⟨rfl, hb3⟩
def standB (b : Bd) (l : List Int) : Bool := l.all (standsB b)
theorem stand_any (g : Nat) (b : Bd) (v : Value) (l : List Int) (w : World) (h : Blk w g 63 b.arr) (hl : IntsAt w b.lv b.labels) (hv : IntsAt w v l) (hn : l.length ≤ 100000) : Calls Try.prog 26 #[.pointer (some ⟨g, 0, none⟩), v] w (BoolP w (standB b l)) := by
  obtain ⟨q, hq⟩ : ∃ q, q = w.heap.size := ⟨_, rfl⟩
  obtain ⟨W1, hW1⟩ : ∃ W1, W1 = w.alloc (.cells #[.pointer (some ⟨g, 0, none⟩)] 24) := ⟨_, rfl⟩
  have hb1 : Below w.heap.size w W1 := by rw [hW1]; exact (Below.refl _ _).alloc (Nat.le_refl _) _
  have hbq : Blk W1 q 24 #[.pointer (some ⟨g, 0, none⟩)] := by rw [hW1, hq]; exact Blk.new _ _ _
  have hg1 := h.below hb1 h.lt
  have HCF := hide (any_stand (.pointer (some ⟨q, 0, none⟩)) v l (fun x => !(standsB b x)) W1 (hv.below hb1 (Nat.le_refl _)) hn (fun W x hW _ => stand_clo g q b x W (hg1.below hW hg1.lt) ((hl.below hb1 (Nat.le_refl _)).below hW (Nat.le_refl _)) ((hbq.below hW hbq.lt).cell 0)))
  obtain ⟨s, hs⟩ : ∃ s, s = l.any (fun x => !(standsB b x)) := ⟨_, rfl⟩
  rw [← hs] at HCF
  have HF := hide (show standB b l = !s by
    rw [hs]
    unfold standB
    rw [List.not_any_eq_all_not]
    simp)
  have HB1 := hide hb1
  have HW1 := hide hW1
  have HQ := hide hq
  clear h hl hv hn hb1 hW1 hq hbq hg1 hs
  go_enter Try.func26, Try.ntmps26
  go_upto_region 1 with (fail)
  rw [← HW1.out, ← HQ.out]
  go_wp2_with fail
  refine HCF.out.mono ?_
  rintro e w3 ⟨rfl, hb3⟩
  go_wp2_with fail
  go_ret
  exact ⟨ret_bS HF.out.symm, HB1.out.trans (hb3.mono HB1.out.size)⟩
set_option maxHeartbeats 2000000 in
theorem fin_clo (g q : Nat) (b : Bd) (i : Ins) (av rv : Value) (w : World) (h : Blk w g 63 b.arr) (hl : IntsAt w b.lv b.labels) (hi : InsOk w i av rv) (hq : w.cell? ⟨q, 0, none⟩ = some (.pointer (some ⟨g, 0, none⟩))) (hn : i.arms.length ≤ 100000) : Calls Try.prog 25 #[i.val av rv, .pointer (some ⟨q, 0, none⟩)] w (BoolP w (!(standB b (meantI i)))) := by
  obtain ⟨Aa, ca, rfl⟩ := hi.ar.form
  obtain ⟨Ar, cr, rfl⟩ := hi.rm.form
  obtain ⟨m, hm⟩ : ∃ m, m = i.arms.length := ⟨_, rfl⟩
  obtain ⟨ma, hma⟩ : ∃ ma, ma = i.args.length := ⟨_, rfl⟩
  rw [← hm, ← hma] at hi ⊢
  obtain ⟨a, ha⟩ : ∃ a, a = w.heap.size := ⟨_, rfl⟩
  obtain ⟨W1, hW1⟩ : ∃ W1, W1 = w.alloc (.cells (i.arr (.slice Aa ma ca) (.slice Ar m cr)) 39) := ⟨_, rfl⟩
  have hb1 : Below w.heap.size w W1 := by rw [hW1]; exact (Below.refl _ _).alloc (Nat.le_refl _) _
  have hba : Blk W1 a 39 (i.arr (.slice Aa ma ca) (.slice Ar m cr)) := by rw [hW1, ha]; exact Blk.new _ _ _
  have hq1 : W1.cell? ⟨q, 0, none⟩ = some (.pointer (some ⟨g, 0, none⟩)) := (hb1.cell (p := ⟨q, 0, none⟩) (World.block_lt_of_cell? w ⟨q, 0, none⟩ hq)).trans hq
  obtain ⟨V, hV⟩ : ∃ V, V = i.val (.slice Aa ma ca) (.slice Ar m cr) := ⟨_, rfl⟩
  have HME := hide (fun W (hW : Below w.heap.size w W) => meant_any i (.slice Aa ma ca) (.slice Ar m cr) W (hi.below hW (Nat.le_refl _)) hn)
  rw [← hV] at HME
  have HML := hide (show (meantI i).length ≤ 100000 by unfold meantI; split; simp; split; rw [List.length_map]; exact hn; simp)
  have HV := hide hV
  have HG := hide h
  have HL := hide hl
  have HB1 := hide hb1
  have HW1 := hide hW1
  have HA := hide ha
  have HBA := hide hba
  have HAL := hide (And.intro hba.lt (World.block_lt_of_cell? W1 ⟨q, 0, none⟩ hq1))
  obtain ⟨s, hs⟩ : ∃ s, s = standB b (meantI i) := ⟨_, rfl⟩
  have HSS := hide hs
  rw [← hs]
  have hS0 : W1.cell? ⟨q, 0, none⟩ = some (.pointer (some ⟨g, 0, none⟩)) ∧ Blk W1 a 39 (i.arr (.slice Aa ma ca) (.slice Ar m cr)) := ⟨hq1, hba⟩
  clear h hl hi hq hn hm hma ha hW1 hb1 hba hq1 hV hs
  go_enter Try.func25, Try.ntmps25
  go_upto_region 1 with (fail)
  rw [← HW1.out, ← HA.out]
  go_wp2_with fail
  refine wp_region_tail 99 (fun w' => w'.cell? ⟨q, 0, none⟩ = some (.pointer (some ⟨g, 0, none⟩)) ∧ Blk w' a 39 (i.arr (.slice Aa ma ca) (.slice Ar m cr))) (by kernel_rfl) hS0 (fun hHeld => ?_)
  try simp only [Act.put, List.setIfInBounds_toArray, List.set_cons_zero, List.set_cons_succ]
  refine' wpTail_take (i := 0) (oi := _) ?hi5001 ?hs5001 ?hf5001 ?hr5001 ?hz5001 ?hQ5001 (v := _) (Or.inl ⟨?hw5001, ?hy5001⟩) (by assumption) ?_
  case hi5001 => (simp only [List.getElem?_toArray, List.getElem?_cons_zero]; exact rfl)
  case hs5001 => kernel_rfl
  case hf5001 => kernel_rfl
  case hr5001 => kernel_rfl
  case hz5001 => kernel_rfl
  case hQ5001 => exact fun _ _ _ h => h
  case hw5001 => rfl
  case hy5001 => (intro W0 hSw; (try dsimp only at hSw); have u0 : W0.cell? ⟨q, 0, none⟩ = some (.pointer (some ⟨g, 0, none⟩)) := hSw.1; go_simp; (try with_reducible rfl))
  try simp only [Act.put, List.setIfInBounds_toArray, List.set_cons_zero, List.set_cons_succ]
  refine' wpTail_take (i := 1) (oi := _) ?hi5002 ?hs5002 ?hf5002 ?hr5002 ?hz5002 ?hQ5002 (v := V) ?hy5002 (by assumption) ?_
  case hi5002 => (simp only [List.getElem?_toArray, List.getElem?_cons_succ, List.getElem?_cons_zero]; exact rfl)
  case hs5002 => kernel_rfl
  case hf5002 => kernel_rfl
  case hr5002 => kernel_rfl
  case hz5002 => kernel_rfl
  case hQ5002 => exact fun _ _ _ h => h
  case hy5002 => (rw [HV.out]; exact yieldsIf_load_mid rfl 39 (.tmp 2) rfl a 0 rfl (i.arr (.slice Aa ma ca) (.slice Ar m cr)).toList _ (fun W0 hSw j v hv => by rw [Nat.zero_add, Blk.cell hSw.2]; simpa using hv) Try.underlying39 rfl ins_size)
  try simp only [Act.put, List.setIfInBounds_toArray, List.set_cons_zero, List.set_cons_succ]
  refine' wpTail_one (i := 2) (o := _) (by kernel_rfl) ?ho5003 ?hw5003 (fun K hK => ?_)
  case ho5003 => (simp only [List.getElem?_toArray, List.getElem?_cons_succ, List.getElem?_cons_zero]; exact rfl)
  case hw5003 => rfl
  go_simp
  (with_reducible refine (HME.out _ HB1.out.drew).mono ?_)
  rintro e w3 ⟨v3, rfl, hown3, hb3⟩
  have hd3 : Below W1.heap.size W1 w3 := (Below.refl W1.heap.size W1).drew.trans hb3
  have hdw3 := HB1.out.trans (hd3.mono HB1.out.size)
  have hrow3 : IntsAt w3 v3 (meantI i) := IntsAt.own hown3
  have HSA := hide (stand_any g b v3 (meantI i) w3 (HG.out.below hdw3 HG.out.lt) (HL.out.below hdw3 (Nat.le_refl _)) hrow3 HML.out)
  rw [← HSS.out] at HSA
  have hS3 : w3.cell? ⟨q, 0, none⟩ = some (.pointer (some ⟨g, 0, none⟩)) ∧ Blk w3 a 39 (i.arr (.slice Aa ma ca) (.slice Ar m cr)) := ⟨(hd3.cell (p := ⟨q, 0, none⟩) HAL.out.2).trans hS0.1, hS0.2.below hd3 HAL.out.1⟩
  obtain ⟨A3, c3, rfl⟩ := own_formT hown3
  clear hown3 hrow3
  refine hK.out _ _ (fun _ => hS3) ?_
  clear hK K
  try simp only [Act.put, List.setIfInBounds_toArray, List.set_cons_zero, List.set_cons_succ]
  refine' wpTail_one (i := 3) (o := _) (by kernel_rfl) ?ho5004 ?hw5004 (fun K hK => ?_)
  case ho5004 => (simp only [List.getElem?_toArray, List.getElem?_cons_succ, List.getElem?_cons_zero]; exact rfl)
  case hw5004 => rfl
  go_simp
  (with_reducible refine HSA.out.mono ?_)
  rintro e w4 ⟨rfl, hb4⟩
  have hd4 : Below W1.heap.size W1 w4 := hd3.trans (hb4.mono hd3.size)
  have hS4 : w4.cell? ⟨q, 0, none⟩ = some (.pointer (some ⟨g, 0, none⟩)) ∧ Blk w4 a 39 (i.arr (.slice Aa ma ca) (.slice Ar m cr)) := ⟨(hd4.cell (p := ⟨q, 0, none⟩) HAL.out.2).trans hS0.1, hS0.2.below hd4 HAL.out.1⟩
  refine hK.out _ _ (fun _ => hS4) ?_
  clear hK K
  try simp only [Act.put, List.setIfInBounds_toArray, List.set_cons_zero, List.set_cons_succ]
  refine' wpTail_one (i := 4) (o := _) (by kernel_rfl) ?ho5005 ?hw5005 (fun K hK => ?_)
  case ho5005 => (simp only [List.getElem?_toArray, List.getElem?_cons_succ, List.getElem?_cons_zero]; exact rfl)
  case hw5005 => rfl
  go_simp
  refine hK.out _ _ (fun _ => hS4) ?_
  clear hK K
  try simp only [Act.put, List.setIfInBounds_toArray, List.set_cons_zero, List.set_cons_succ]
  refine' wpTail_one (i := 5) (o := _) (by kernel_rfl) ?ho5006 ?hw5006 (fun K hK => ?_)
  case ho5006 => (simp only [List.getElem?_toArray, List.getElem?_cons_succ, List.getElem?_cons_zero]; exact rfl)
  case hw5006 => rfl
  go_simp
  refine hK.out _ _ (fun _ => hS4) ?_
  clear hK K
  refine wpTail_done (by kernel_rfl) ?_ _
  try simp only [Act.put, List.setIfInBounds_toArray, List.set_cons_zero, List.set_cons_succ]
  clear hHeld
  go_wp2_with fail
  go_ret
  exact ⟨rfl, HB1.out.trans (hd4.mono HB1.out.size)⟩
end Go.Proofs.Ytfdjomkkagommaa
