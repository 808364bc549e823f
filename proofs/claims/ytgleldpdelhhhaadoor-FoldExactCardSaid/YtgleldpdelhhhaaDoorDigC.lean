/- The reference's numbers: what Answer and Cmp answer; conditions: the digits' cells are in memory. -/
import Derived.Test.YtgleldpdelhhhaaDoorDigB
import Derived.Test.YtgleldpdelhhhaaDoorWide8
import Derived.Test.YtgleldpdelhhhaaDoorWideC
namespace Go.Proofs.YtgleldpdelhhhaaDoor
open Go.RowKit Go.WideShapes Go.ChangeShapes
set_option linter.unusedVariables false
set_option maxRecDepth 100000

theorem fits_len {x : Int} (hx : Fits x) : (dgs x.natAbs).length ≤ 39 := dgs_len _ 39 (by unfold Fits at hx; omega)

set_option maxHeartbeats 8000000 in
theorem ref_answer {w : World} {n c : Nat} {A : Option Addr} (x : Int) (h : Dg w A n (dgs x.natAbs)) (hn : n ≤ 1100) (hc : n ≤ c) :
    Calls Tryd.prog 17 #[.agg #[.bool (decide (x < 0)), .slice A n c]] w fun e w' => e = .returned (ansW x) ∧ Below w.heap.size w w' := by
  have HFI := hide (fun (W : World) (hb : Below w.heap.size w W) => ref_fits x (h.below hb) hn (c := c))
  have HBI := hide (fun (W : World) (hb : Below w.heap.size w W) (hx : Fits x) => ref_bits hx (h.below hb) (by have := fits_len hx; have := h.1; omega) hc)
  obtain ⟨s, hs⟩ : ∃ s, s = decide (x < 0) := ⟨_, rfl⟩
  rw [← hs] at HFI HBI ⊢
  have HB := NB.add 24 #[.int .u64 0, .int .u64 0] (NB.add NumT #[.bool s, .slice A n c] (NB.nil w))
  clear h hs
  go_enter Tryd.func17, Tryd.ntmps17
  go_upto_region 1 with (fail)
  obtain ⟨W, hW⟩ : ∃ W : World, W = ((w.alloc (.cells #[.bool s, .slice A n c] NumT)).alloc (.cells #[.int .u64 0, .int .u64 0] 24)) := ⟨_, rfl⟩
  obtain ⟨g0, hg0⟩ : ∃ g, g = w.heap.size := ⟨_, rfl⟩
  obtain ⟨g1, hg1⟩ : ∃ g, g = (w.alloc (.cells #[.bool s, .slice A n c] NumT)).heap.size := ⟨_, rfl⟩
  have hg1' : w.heap.size + 1 = g1 := by rw [hg1]; simp
  rw [← hW] at HB ⊢
  rw [← hg1, ← hg0] at HB
  try rw [hg1']
  try rw [← hg0]
  obtain ⟨c0, c1, e0, e1⟩ := two_cellsN (NB.at_ HB (.tail _ (.head _)))
  clear hW hg0 hg1 hg1'
  go_wp2_with fail
  refine (HFI.out _ HB.out.low).mono ?_
  rintro e w1 ⟨rfl, hb1⟩
  have HB1 := NB.next hb1 HB
  obtain ⟨d0, d1, f0, f1⟩ := two_cellsN (NB.at_ HB1 (.tail _ (.head _)))
  obtain ⟨d2, d3, f2, f3⟩ := two_cellsN (NB.at_ HB1 (.head _))
  clear hb1
  by_cases hx : Fits x
  · have hd : decide (Fits x) = true := decide_eq_true hx
    rw [hd]
    have he : ansW x = .tuple #[wv (hiW x) (loW x), .int .i64 0] := by unfold ansW; rw [if_pos hx]
    have HBX := hide (HBI.out _ HB1.out.low hx)
    obtain ⟨p, hp⟩ : ∃ p, p = hiW x := ⟨_, rfl⟩
    obtain ⟨q, hq⟩ : ∃ q, q = loW x := ⟨_, rfl⟩
    rw [← hp, ← hq] at HBX he
    have HE := hide he
    clear hp hq hd he
    go_wp2_with fail
    refine HBX.out.mono ?_
    rintro e w2 ⟨rfl, hb2⟩
    have HB2 := NB.next hb2 HB1
    obtain ⟨z0, z1, y0, y1⟩ := two_cellsN (NB.at_ HB2 (.head _))
    have e1 := HB2.out.ge _ (List.Mem.head _)
    clear hb2
    go_wp2_with fail
    exact ret_wt (v := .int .i64 0) rfl rfl rfl rfl (set_twoN (NB.at_ HB2 (.head _)) _ _) ⟨by rw [HE.out], (HB2.out.low.setCell (p := ⟨g1, 0, none⟩) e1 _).setCell (p := ⟨g1, 1, none⟩) e1 _⟩
  · have hd : decide (Fits x) = false := decide_eq_false hx
    rw [hd]
    have he : ansW x = .tuple #[wv 0 0, .int .i64 10] := by unfold ansW; rw [if_neg hx]
    have e1 := HB1.out.ge _ (List.Mem.head _)
    have HE := hide he
    clear hd he
    go_wp2_with fail
    exact ret_wt (v := .int .i64 10) rfl rfl rfl rfl (set_twoN (NB.at_ HB1 (.head _)) _ _) ⟨by rw [HE.out], (HB1.out.low.setCell (p := ⟨g1, 0, none⟩) e1 _).setCell (p := ⟨g1, 1, none⟩) e1 _⟩

theorem cmp_kb {x y : Int} {kb : Nat} (h : (dgs (x + -y).natAbs).length = kb) : kb = 0 ↔ x = y := by
  rw [← h, List.length_eq_zero_iff, dgs_nil]
  omega
theorem cmp_args {w wr : World} {g0 g1 : Nat} {u0 u1 v0 v1 : Value} {t : TypeId} (h : Hid (NB w [(g1, t, #[u1, v1]), (g0, t, #[u0, v0])] wr)) :
    wr.cell? ⟨g0, 0, none⟩ = some u0 ∧ wr.cell? ⟨g0, 1, none⟩ = some v0 ∧ wr.cell? ⟨g1, 0, none⟩ = some u1 ∧ wr.cell? ⟨g1, 1, none⟩ = some v1 :=
  ⟨(NB.at_ h (.tail _ (.head _))).cell 0, (NB.at_ h (.tail _ (.head _))).cell 1, (NB.at_ h (.head _)).cell 0, (NB.at_ h (.head _)).cell 1⟩

set_option maxHeartbeats 8000000 in
theorem ref_cmp {w : World} {n m c c' : Nat} {A A' : Option Addr} (x y : Int) (h : Dg w A n (dgs x.natAbs)) (h' : Dg w A' m (dgs y.natAbs)) (hn : n ≤ 400) (hm : m ≤ 400) (hc : n ≤ c) (hc' : m ≤ c') :
    Calls Tryd.prog 51 #[.agg #[.bool (decide (x < 0)), .slice A n c], .agg #[.bool (decide (y < 0)), .slice A' m c']] w fun e w' => e = .returned (.int .i64 (cmpI x y)) ∧ Below w.heap.size w w' := by
  obtain ⟨sn, hsn⟩ : ∃ b, b = decide (-y < 0) := ⟨_, rfl⟩
  have HNE := hide (fun (W : World) (hb : Below w.heap.size w W) => (show Calls Tryd.prog 25 #[.agg #[.bool (decide (y < 0)), .slice A' m c']] W (NumS W sn (-y).natAbs) from by rw [hsn]; exact ref_neg y (h'.below hb) (by omega) hc'))
  obtain ⟨sa, hsa⟩ : ∃ b, b = decide (x + -y < 0) := ⟨_, rfl⟩
  have HAD := hide (fun (W : World) (B : Option Addr) (k d : Nat) (hb : Below w.heap.size w W) (hB : Dg W B k (dgs (-y).natAbs)) (hk : k ≤ d) => (show Calls Tryd.prog 52 #[.agg #[.bool (decide (x < 0)), .slice A n c], .agg #[.bool (decide (-y < 0)), .slice B k d]] W (NumS W sa (x + -y).natAbs) from by rw [hsa]; exact ref_add x (-y) (h.below hb) hB (by omega) (by have := hB.1; rw [Int.natAbs_neg] at this; have := h'.1; omega) hc hk))
  obtain ⟨s, hs⟩ : ∃ s, s = decide (x < 0) := ⟨_, rfl⟩
  obtain ⟨s', hs'⟩ : ∃ s, s = decide (y < 0) := ⟨_, rfl⟩
  rw [← hs'] at HNE ⊢
  rw [← hs, ← hsn] at HAD
  rw [← hs]
  have HB := NB.add NumT #[.bool s', .slice A' m c'] (NB.add NumT #[.bool s, .slice A n c] (NB.nil w))
  have HSA := hide hsa
  clear h h' hs hs' hsn hsa
  go_enter Tryd.func51, Tryd.ntmps51
  go_upto_region 1 with (fail)
  obtain ⟨W, hW⟩ : ∃ W : World, W = ((w.alloc (.cells #[.bool s, .slice A n c] NumT)).alloc (.cells #[.bool s', .slice A' m c'] NumT)) := ⟨_, rfl⟩
  obtain ⟨g0, hg0⟩ : ∃ g, g = w.heap.size := ⟨_, rfl⟩
  obtain ⟨g1, hg1⟩ : ∃ g, g = (w.alloc (.cells #[.bool s, .slice A n c] NumT)).heap.size := ⟨_, rfl⟩
  have hg1' : w.heap.size + 1 = g1 := by rw [hg1]; simp
  rw [← hW] at HB ⊢
  rw [← hg1, ← hg0] at HB
  try rw [hg1']
  try rw [← hg0]
  have HBD := NB.drew HB
  have HDR := hide (show W.drew.heap.size = W.heap.size from rfl)
  clear hW hg0 hg1 hg1'
  go_region_held3 (fun w' => w'.cell? ⟨g0, 0, none⟩ = some (.bool s) ∧ w'.cell? ⟨g0, 1, none⟩ = some (.slice A n c) ∧ w'.cell? ⟨g1, 0, none⟩ = some (.bool s') ∧ w'.cell? ⟨g1, 1, none⟩ = some (.slice A' m c'))
    (first
      | exact cmp_args (by assumption)
      | exact cmp_args (NB.next ((Below.refl _ _).alloc (Nat.le_refl _) _) (by assumption))
      | exact cmp_args (NB.tail (by assumption))
      | exact cmp_args (NB.tail (NB.put2 (by assumption) (by intro p hp; have q1 := (NB.at_ hma (.head _)).lt; have q2 := (NB.at_ hma (.tail _ (.head _))).lt; have q3 := (NB.at_ HB (.head _)).lt; have q4 := (NB.at_ HB (.tail _ (.head _))).lt; have q5 : W.drew.heap.size = W.heap.size := rfl; simp at hp; rcases hp with rfl | rfl <;> simp <;> omega))))
    (first
      | (go_at_call 25; (with_reducible refine (HNE.out _ ?hlw).mono ?_); (case hlw => first | exact HBD.out.low | exact HBD.out.low.alloc HBD.out.low.size _); rintro e wa ⟨Ba, ka, da, rfl, hda, hka, hba⟩; have hma := NB.next hba (by first | exact HBD | exact NB.add NumT _ HBD); (try rw [HDR.out] at hma))
      | (go_at_call 52; (with_reducible refine (HAD.out _ Ba ka da ?hlw ?hdw hka).mono ?_); (case hlw => first | exact hma.out.low | exact hma.out.low.alloc hma.out.low.size _); (case hdw => first | exact hda | exact hda.alloc _); rintro e wb ⟨Bb, kb, db, rfl, hdb, hkb, hbb⟩; have hmb := NB.next hbb (by first | exact hma | exact NB.add NumT _ hma); obtain ⟨p0, p1, p2, p3⟩ := two_cellsN (NB.at_ hmb (.head _))))
  · have HF := NB.add 43 #[.bool sa, .slice Bb kb db] hmb
    obtain ⟨z0, z1, z2, z3⟩ := two_cellsN (NB.at_ HF (.head _))
    have hkb0 := cmp_kb hdb.1
    have hsa := HSA.out
    have hlow := HF.out.low
    have HLW := hide hlow
    clear hlow hma hmb HB HBD HF hda hdb
    rcases Int.lt_trichotomy x y with h | h | h
    · have e1 : ((kb : Int) == 0) = false := by rw [beq_eq_false_iff_ne]; omega
      have e2 : sa = true := by rw [hsa, decide_eq_true_iff]; omega
      have HE := hide (show cmpI x y = -1 by unfold cmpI; rw [if_pos h])
      subst e2
      clear hsa hkb0
      go_wp2_with fail
      go_ret
      exact ⟨by rw [HE.out]; rfl, HLW.out⟩
    · have e1 : kb = 0 := by omega
      have HE := hide (show cmpI x y = 0 by unfold cmpI; rw [if_neg (by omega), if_neg (by omega)])
      subst e1
      clear hsa hkb0
      go_wp2_with fail
      go_ret
      exact ⟨by rw [HE.out]; rfl, HLW.out⟩
    · have e1 : ((kb : Int) == 0) = false := by rw [beq_eq_false_iff_ne]; omega
      have e2 : sa = false := by rw [hsa, decide_eq_false_iff_not]; omega
      have HE := hide (show cmpI x y = 1 by unfold cmpI; rw [if_neg (by omega), if_pos h])
      subst e2
      clear hsa hkb0
      go_wp2_with fail
      go_ret
      exact ⟨by rw [HE.out]; rfl, HLW.out⟩
  · have HF := NB.put2 (x := .bool sa) (y := .slice Bb kb db) hmb (by intro p hp; have q1 := (NB.at_ hma (.head _)).lt; have q2 := (NB.at_ hma (.tail _ (.head _))).lt; have q3 := (NB.at_ HB (.head _)).lt; have q4 := (NB.at_ HB (.tail _ (.head _))).lt; simp at hp; rcases hp with rfl | rfl <;> simp <;> omega)
    obtain ⟨z0, z1, z2, z3⟩ := two_cellsN (NB.at_ HF (.head _))
    have hkb0 := cmp_kb hdb.1
    have hsa := HSA.out
    have hlow := HF.out.low
    have HLW := hide hlow
    clear hlow hma hmb HB HBD HF hda hdb
    rcases Int.lt_trichotomy x y with h | h | h
    · have e1 : ((kb : Int) == 0) = false := by rw [beq_eq_false_iff_ne]; omega
      have e2 : sa = true := by rw [hsa, decide_eq_true_iff]; omega
      have HE := hide (show cmpI x y = -1 by unfold cmpI; rw [if_pos h])
      subst e2
      clear hsa hkb0
      go_wp2_with fail
      go_ret
      exact ⟨by rw [HE.out]; rfl, HLW.out⟩
    · have e1 : kb = 0 := by omega
      have HE := hide (show cmpI x y = 0 by unfold cmpI; rw [if_neg (by omega), if_neg (by omega)])
      subst e1
      clear hsa hkb0
      go_wp2_with fail
      go_ret
      exact ⟨by rw [HE.out]; rfl, HLW.out⟩
    · have e1 : ((kb : Int) == 0) = false := by rw [beq_eq_false_iff_ne]; omega
      have e2 : sa = false := by rw [hsa, decide_eq_false_iff_not]; omega
      have HE := hide (show cmpI x y = 1 by unfold cmpI; rw [if_neg (by omega), if_pos h])
      subst e2
      clear hsa hkb0
      go_wp2_with fail
      go_ret
      exact ⟨by rw [HE.out]; rfl, HLW.out⟩
  · have HF := NB.put2 (x := .bool sa) (y := .slice Bb kb db) hmb (by intro p hp; have q1 := (NB.at_ hma (.head _)).lt; have q2 := (NB.at_ hma (.tail _ (.head _))).lt; have q3 := (NB.at_ HB (.head _)).lt; have q4 := (NB.at_ HB (.tail _ (.head _))).lt; simp at hp; rcases hp with rfl | rfl <;> simp <;> omega)
    obtain ⟨z0, z1, z2, z3⟩ := two_cellsN (NB.at_ HF (.head _))
    have hkb0 := cmp_kb hdb.1
    have hsa := HSA.out
    have hlow := HF.out.low
    have HLW := hide hlow
    clear hlow hma hmb HB HBD HF hda hdb
    rcases Int.lt_trichotomy x y with h | h | h
    · have e1 : ((kb : Int) == 0) = false := by rw [beq_eq_false_iff_ne]; omega
      have e2 : sa = true := by rw [hsa, decide_eq_true_iff]; omega
      have HE := hide (show cmpI x y = -1 by unfold cmpI; rw [if_pos h])
      subst e2
      clear hsa hkb0
      go_wp2_with fail
      go_ret
      exact ⟨by rw [HE.out]; rfl, HLW.out⟩
    · have e1 : kb = 0 := by omega
      have HE := hide (show cmpI x y = 0 by unfold cmpI; rw [if_neg (by omega), if_neg (by omega)])
      subst e1
      clear hsa hkb0
      go_wp2_with fail
      go_ret
      exact ⟨by rw [HE.out]; rfl, HLW.out⟩
    · have e1 : ((kb : Int) == 0) = false := by rw [beq_eq_false_iff_ne]; omega
      have e2 : sa = false := by rw [hsa, decide_eq_false_iff_not]; omega
      have HE := hide (show cmpI x y = 1 by unfold cmpI; rw [if_neg (by omega), if_pos h])
      subst e2
      clear hsa hkb0
      go_wp2_with fail
      go_ret
      exact ⟨by rw [HE.out]; rfl, HLW.out⟩
end Go.Proofs.YtgleldpdelhhhaaDoor
