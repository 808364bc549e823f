/- The trees that are awake (lorgnettelaw03.awake); conditions: the library's powers are laid. -/
import Derived.Test.YtnphfogepdkpbaaDoorTrW
namespace Go.Proofs.YtnphfogepdkpbaaDoor
open Go.RowKit Go.WideShapes Go.ChangeShapes
set_option linter.unusedVariables false
set_option linter.unusedSimpArgs false
set_option maxRecDepth 100000

abbrev awA : Nd := ⟨9, 0, 0, 0, ⟨#[120]⟩, []⟩
abbrev awB : Nd := ⟨26, 0, 0, 0, ⟨#[]⟩, [1]⟩
abbrev awC : Nd := ⟨26, 0, 0, 0, ⟨#[]⟩, [3]⟩
abbrev awN : Nd := ⟨9, 0, 0, 0, ⟨#[95]⟩, []⟩
theorem aw_ok : OkL [awA, awB] := by
  intro i n h
  match i, h with
  | 0, h => simp at h; subst h; decide
  | 1, h => simp at h; subst h; decide
  | i + 2, h => simp at h
theorem aw_W : W [awA, awB] 2 = [2, 1] := by rfl
theorem aw_walk : walkOf [awA, awB] 2 = [2, 1] := by rfl
theorem aw_D : D [awA, awB] 2 = 2 := by rfl
theorem aw_Wx : Wx [awA, awB] 1 2 = [2, 1] := by rfl
theorem aw_Sx : Sx [awA, awB] 1 (labN awN) 2 = [labN awB, labN awN] := by rfl
theorem aw_S : S [awA, awB] 2 = [labN awB, labN awA] := by rfl
/-- The swapped tree's nodes. -/
theorem aw_swapped {M : List Nd} (hM : OkL M) (hl : M.length = 2) (hS : S M 2 = [labN awB, labN awN]) : (nodeOf M 2).kids = [1] ∧ (nodeOf M 1).text = ⟨#[95]⟩ := by
  match M, hl with
  | [a, b], _ =>
    have hb : nodeOf [a, b] 2 = b := by rfl
    have ha : nodeOf [a, b] 1 = a := by rfl
    have e2 := S_unf hM (i := 2) (by omega) (by simp)
    rw [hS] at e2
    injection e2 with e3 e4
    have hlb : lab [a, b] 2 = labN b := by rfl
    rw [hlb] at e3
    have hk : b.kids.map (fun k => !(k == 0)) = [true] := by
      have := congrArg (fun p : Lab => p.2.2) e3
      simpa [labN] using this.symm
    have hgb := goodN_iff.1 (hM 1 b rfl)
    obtain ⟨k, hbk⟩ : ∃ k, b.kids = [k] := by
      have := congrArg List.length hk
      rw [List.length_map] at this
      exact List.length_eq_one_iff.1 this
    rw [hbk] at hk
    have hk0 : k ≠ 0 := by simpa using hk
    have hkr := hgb.2 k (by rw [hbk]; simp)
    have hk1 : k = 1 := by have := hkr.2; have := hkr.1; omega
    rw [hk1] at hbk
    have ht : thr [a, b] 2 = [1] := by
      show (thrI b.kids).map Int.toNat = [1]
      rw [hbk]
      rfl
    rw [ht] at e4
    have e5 := S_unf hM (i := 1) (by omega) (by simp)
    simp only [List.flatMap_cons, List.flatMap_nil, List.append_nil] at e4
    rw [e5] at e4
    injection e4 with e6 _
    have hla : lab [a, b] 1 = labN a := by rfl
    rw [hla] at e6
    refine ⟨by rw [hb, hbk], ?_⟩
    rw [ha]
    have := congrArg (fun p : Lab => p.2.1) e6
    exact this.symm
theorem field_kids (n1 n2 n3 n4 : Int) (n5 : ByteArray) (v : Value) (w : World) : (Instr.field 34 (.agg #[.int .i64 n1, .int .i64 n2, .int .i64 n3, .int .i64 n4, .string n5, v]) 3).run Tryd.prog w = .ok v w := by kernel_rfl
theorem field_text (n1 n2 n3 n4 : Int) (n5 : ByteArray) (v : Value) (w : World) : (Instr.field 34 (.agg #[.int .i64 n1, .int .i64 n2, .int .i64 n3, .int .i64 n4, .string n5, v]) 2).run Tryd.prog w = .ok (.string n5) w := by kernel_rfl
theorem field_kind (n1 n2 n3 n4 : Int) (n5 : ByteArray) (v : Value) (w : World) : (Instr.field 34 (.agg #[.int .i64 n1, .int .i64 n2, .int .i64 n3, .int .i64 n4, .string n5, v]) 0).run Tryd.prog w = .ok (.int .i64 n1) w := by kernel_rfl
/-- A slice that is written out. -/
theorem ints_lit (w : World) (k : Int) : IntsAt (w.alloc (.cells #[.int .i64 k] 3)) (.slice (some ⟨w.heap.size, 0, none⟩) 1 1) [k] := by
  refine ⟨some ⟨w.heap.size, 0, none⟩, 1, rfl, Nat.le_refl _, fun i b hi => ⟨w.heap.size, 0, rfl, by simp, ?_⟩⟩
  match i, hi with
  | 0, hi =>
    simp at hi
    subst hi
    exact (Blk.new w 3 #[.int .i64 k]).cell 0
  | i + 1, hi => simp at hi
theorem RB.kb {rows : List It} (h : RB rows) : KB (nds rows) := fun n hn => by
  obtain ⟨r, hr, rfl⟩ := List.mem_map.1 hn
  exact (h r hr).1
theorem RB.tx {rows : List It} (h : RB rows) : TX (nds rows) := fun n hn => by
  obtain ⟨r, hr, rfl⟩ := List.mem_map.1 hn
  exact (h r hr).2
theorem aw_kb : KB [awA, awB] := fun n hn => by
  simp at hn
  rcases hn with rfl | rfl <;> decide
theorem aw_tx : TX [awA, awB] := fun n hn => by
  simp at hn
  rcases hn with rfl | rfl <;> decide
theorem aw_same : sameB [awA, awB] 2 [awA, awB] 2 = true := by
  unfold sameB
  rw [if_pos ⟨by decide, by decide⟩]
  simp
theorem aw_apart {M : List Nd} (hl : M.length = 2) (hS : S M 2 = [labN awB, labN awN]) : sameB [awA, awB] 2 M 2 = false := by
  unfold sameB
  rw [if_pos ⟨by decide, by unfold hasB; rw [hl]; decide⟩]
  refine decide_eq_false (fun h => ?_)
  have h2 : S [awA, awB] 2 = S M 2 := h
  rw [aw_S, hS] at h2
  injection h2 with _ h3
  injection h3 with h4 _
  have h5 := congrArg (fun p : Lab => p.2.1.data) h4
  simp [labN] at h5
set_option maxHeartbeats 8000000 in
theorem awake_any (w : World) (hpw : powT w) : Calls Tryd.prog 7 #[] w (BoolP w true) := by
  have HPW := hide hpw
  have HNEW := hide (tree_new w)
  clear hpw
  go_enter Tryd.func7, Tryd.ntmps7
  go_wp2_with fail
  refine HNEW.out.mono ?_
  rintro e w1 ⟨rfl, hw1⟩
  obtain ⟨tb, htb⟩ : ∃ tb, tb = w.heap.size := ⟨_, rfl⟩
  have hb1 : Below w.heap.size w w1 := by rw [hw1]; exact (Below.refl _ _).alloc (Nat.le_refl _) _
  have hT1 : TO w1 w.heap.size tb (.slice none 0 0) [] := ⟨by rw [hw1, htb]; exact Blk.new _ _ _, World.ownsRow_nil _ _ _ _, fun i r hr => by simp at hr, fun i n hn => by simp at hn, Nat.zero_le _, by omega⟩
  rw [← htb]
  have HB1 := hide hb1
  have HA1 := hide (add_ok w.heap.size tb _ [] awA (.slice none 0 0) w1 hT1 (zero_ints _) (by decide) (by decide) (by decide))
  clear hw1 htb hb1 hT1 HNEW
  go_wp2_with fail
  refine HA1.out.mono ?_
  rintro e w2 ⟨rfl, v2, r2, hr2, _, _, hT2, hb2, _⟩
  have HB2 := hide (HB1.out.trans hb2)
  have HT2 := hide (And.intro hr2 hT2)
  clear hr2 hT2 hb2
  obtain ⟨V2, hV2⟩ : ∃ V2, V2 = w2.alloc (.cells #[.int .i64 1] 3) := ⟨_, rfl⟩
  have hbV2 : Below w2.heap.size w2 V2 := by rw [hV2]; exact (Below.refl _ _).alloc (Nat.le_refl _) _
  have hn2 : nds ([] ++ [r2]) = [awA] := by show [r2.n] = _; rw [HT2.out.1]
  have hl2 : ([] ++ [r2] : List It).length = 1 := rfl
  have HA2 := hide (add_ok w.heap.size tb v2 ([] ++ [r2]) awB (.slice (some ⟨w2.heap.size, 0, none⟩) 1 1) V2 (HT2.out.2.later hbV2) (by rw [hV2]; exact ints_lit w2 1) (by rw [hl2]; decide) (by rw [hl2]; decide) (by decide))
  have HBV2 := hide (HB2.out.trans (hbV2.mono HB2.out.size))
  have HV2 := hide hV2
  clear hV2 hbV2 hl2
  go_upto_region 5 with (fail)
  go_wp2_with fail
  rw [← HV2.out]
  refine HA2.out.mono ?_
  rintro e w3 ⟨rfl, v3, r3, hr3, _, _, hT3, hb3, _⟩
  have hb3w := HBV2.out.trans hb3
  have hn3 : nds (([] ++ [r2]) ++ [r3]) = [awA, awB] := by rw [nds_app, hn2]; show [awA] ++ [r3.n] = _; rw [hr3]; rfl
  have hT3r := hT3.tr
  rw [hn3] at hT3r
  obtain ⟨V3, hV3⟩ : ∃ V3, V3 = w3.alloc (.cells #[.int .i64 3] 3) := ⟨_, rfl⟩
  have hbV3 : Below w3.heap.size w3 V3 := by rw [hV3]; exact (Below.refl _ _).alloc (Nat.le_refl _) _
  have hTV3 := hT3r.below hbV3 (Nat.le_refl _)
  have HA3 := hide (add_bad tb [awA, awB] awC (.slice (some ⟨w3.heap.size, 0, none⟩) 1 1) V3 hTV3 (by rw [hV3]; exact ints_lit w3 3) (by decide) (by decide))
  have HT3 := hide hTV3
  have HB3 := hide (hb3w.trans (hbV3.mono hb3w.size))
  have HV3 := hide hV3
  clear hV3 hbV3 hTV3 hT3r hn3 hn2 hr3 hT3 hb3 hb3w
  go_upto_region 6 with (fail)
  go_wp2_with fail
  rw [← HV3.out]
  refine HA3.out.mono ?_
  rintro e w4 ⟨rfl, hb4⟩
  have hT4 := HT3.out.below hb4 (Nat.le_refl _)
  have hb4w := HB3.out.trans (hb4.mono HB3.out.size)
  have HWK := hide (walk_any tb [awA, awB] 2 w4 hT4)
  rw [aw_walk] at HWK
  have HT4 := hide hT4
  have HB4 := hide hb4w
  clear hT4 hb4w hb4
  go_wp2_with fail
  refine HWK.out.mono ?_
  rintro e w5 ⟨vw, rfl, hown5, hb5⟩
  have hI5 : IntsAt w5 vw [2, 1] := IntsAt.own (B := w4.heap.size) (l := [2, 1]) hown5
  obtain ⟨A5, c5, rfl⟩ := hI5.form
  obtain ⟨b5, of5, x5, rfl, hl5, hx5, hc5⟩ := hI5.at_ (k := 0) (by decide)
  obtain ⟨b5', of5', y5, he5, _, hy5, hd5⟩ := hI5.at_ (k := 1) (by decide)
  injection he5 with he5
  injection he5 with he5 he6
  subst he5 he6
  simp at hx5 hy5
  subst hx5 hy5
  have hT5 := HT4.out.below hb5 (Nat.le_refl _)
  have hb5w := HB4.out.trans (hb5.mono HB4.out.size)
  have HSW := hide (swap_some tb [awA, awB] 2 1 awN w5 hT5 aw_kb aw_tx (by decide) (by decide) rfl (by decide) (by decide) (by rw [aw_Wx]; decide))
  have HT5 := hide hT5
  have HB5 := hide hb5w
  have HC5 := hide (And.intro hl5 (And.intro hc5 hd5))
  clear hT5 hb5w hb5 hI5 hown5 hl5 hc5 hd5
  go_wp2_with fail
  refine HSW.out.mono ?_
  rintro e w6 ⟨ub, vu, ru, rfl, hTu, hb6, hlu, hSu, hRB⟩
  have hl2 : ru.length = 2 := by rw [hlu, aw_Wx]; rfl
  have hc2 : ((ru.length : Nat) : Int) = 2 := by omega
  rw [hc2]
  rw [aw_Sx, hl2] at hSu
  have hnl : (nds ru).length = 2 := by rw [nds_length]; exact hl2
  have hsp := aw_swapped hTu.tr.ok hnl hSu
  have hT6 := HT5.out.below hb6 (Nat.le_refl _)
  have hb6w := HB5.out.trans (hb6.mono HB5.out.size)
  have g0 : w6.cell? ⟨b5, of5, none⟩ = some (.int .i64 2) := (hb6.cell (p := ⟨b5, of5, none⟩) HC5.out.1).trans HC5.out.2.1
  have g1 : w6.cell? ⟨b5, of5 + 1, none⟩ = some (.int .i64 1) := (hb6.cell (p := ⟨b5, of5 + 1, none⟩) HC5.out.1).trans HC5.out.2.2
  have HD := hide (depth_any tb [awA, awB] 2 w6 hT6)
  have HND := hide (node_any ub (nds ru) 2 w6 hTu.tr hRB.kb)
  have HTU := hide (And.intro hTu.tr (And.intro hRB.kb hRB.tx))
  have HSP := hide hsp
  have HT6 := hide hT6
  have HB6 := hide hb6w
  have HAP := hide (aw_apart hnl hSu)
  clear hTu hb6 hlu hSu hRB hl2 hc2 hnl hsp hT6 hb6w
  go_wp2_with fail
  refine HD.out.mono ?_
  rintro e w' ⟨rfl, rfl⟩
  rw [show ((D [awA, awB] (2 : Int).toNat : Nat) : Int) = 2 from rfl]
  go_wp2_with fail
  refine HND.out.mono ?_
  rintro e w7 ⟨kv, rfl, hI7, hb7⟩
  rw [HSP.out.1] at hI7
  obtain ⟨A7, c7, rfl⟩ := hI7.form
  obtain ⟨b7, of7, x7, rfl, _, hx7, hc7⟩ := hI7.at_ (k := 0) (by decide)
  simp at hx7
  subst hx7
  simp only [Nat.add_zero] at hc7
  obtain ⟨N2, hN2⟩ : ∃ N2, N2 = nodeOf (nds ru) 2 := ⟨_, rfl⟩
  rw [← hN2]
  have HND8 := node_any ub (nds ru) 1 w7 (HTU.out.1.below hb7 (Nat.le_refl _)) HTU.out.2.1
  obtain ⟨N1, hN1⟩ : ∃ N1, N1 = nodeOf (nds ru) 1 := ⟨_, rfl⟩
  have hNt := HSP.out.2
  rw [← hN1] at HND8 hNt
  rcases N1 with ⟨n1, n2, n3, n4, n5, n6⟩
  obtain rfl : n5 = ⟨#[95]⟩ := hNt
  have HND8 := hide HND8
  have HB7 := hide hb7
  clear hN2 hN1 hI7 hb7
  simp only [Nd.val]
  have fk := field_kids
  have ft := field_text
  go_wp2_with fail
  refine HND8.out.mono ?_
  rintro e w8 ⟨kv8, rfl, _, hb8⟩
  simp only [Nd.val]
  have hb68 := HB7.out.trans (hb8.mono HB7.out.size)
  have hT8 := HT6.out.below hb68 (Nat.le_refl _)
  have hU8 := HTU.out.1.below hb68 (Nat.le_refl _)
  have hb8w := HB6.out.trans (hb68.mono HB6.out.size)
  have hp8 := HPW.out.below hb8w
  have HSM := hide (same_any tb [awA, awB] 2 tb [awA, awB] 2 w8 hT8 hT8 aw_kb aw_kb aw_tx aw_tx hp8)
  rw [aw_same] at HSM
  have HT8 := hide hT8
  have HU8 := hide hU8
  have HB8 := hide hb8w
  have HP8 := hide hp8
  clear hb68 hT8 hU8 hb8w hp8 hb8
  go_wp2_with fail
  refine HSM.out.mono ?_
  rintro e w9 ⟨rfl, hb9⟩
  have HSN := hide (same_any tb [awA, awB] 2 ub (nds ru) 2 w9 (HT8.out.below hb9 (Nat.le_refl _)) (HU8.out.below hb9 (Nat.le_refl _)) aw_kb HTU.out.2.1 aw_tx HTU.out.2.2 (HP8.out.below hb9))
  rw [HAP.out] at HSN
  have HB9 := hide (HB8.out.trans (hb9.mono HB8.out.size))
  clear hb9
  go_wp2_with fail
  refine HSN.out.mono ?_
  rintro e w10 ⟨rfl, hb10⟩
  have HB10 := hide (HB9.out.trans (hb10.mono HB9.out.size))
  clear hb10
  go_wp2_with fail
  go_ret
  exact ⟨rfl, HB10.out⟩
end Go.Proofs.YtnphfogepdkpbaaDoor
