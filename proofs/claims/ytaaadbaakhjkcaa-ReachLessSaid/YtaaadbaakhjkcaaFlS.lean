/- The fixed answers of layer 19 (awake); no conditions. -/
import Derived.Test.YtaaadbaakhjkcaaFlR
namespace Go.Proofs.Ytaaadbaakhjkcaa
open Go.RowKit Go.WideShapes Go.ChangeShapes
set_option linter.unusedVariables false
set_option linter.unusedSimpArgs false
set_option maxRecDepth 100000

set_option maxHeartbeats 8000000 in
theorem awake19_any (w : World) : Calls Try.prog 7 #[] w (BoolP w true) := by
  obtain ⟨s, hs⟩ : ∃ s, s = w.heap.size := ⟨_, rfl⟩
  obtain ⟨C, hC⟩ : ∃ C, C = ((.int .i64 1 :: .int .i64 0 :: .int .i64 0 :: .int .i64 0 :: .int .i64 0 :: .int .i64 0 :: .string ⟨#[]⟩ :: .int .i64 0 :: .int .i64 0 :: .int .i64 0 :: .int .i64 0 :: .string ⟨#[]⟩ :: .slice none 0 0 :: .int .i64 0 :: .int .i64 0 :: .slice none 0 0 :: .int .i64 (-1) :: .int .i64 0 :: .int .i64 0 :: .int .i64 0 :: .int .i64 0 :: .int .i64 0 :: .int .i64 20 :: .int .i64 0 :: .int .i64 0 :: .int .i64 0 :: .int .i64 0 :: .int .i64 0 :: .string ⟨#[]⟩ :: .int .i64 0 :: .int .i64 0 :: .int .i64 0 :: .int .i64 0 :: .string ⟨#[]⟩ :: .slice none 0 0 :: .int .i64 0 :: .int .i64 3 :: .slice none 0 0 :: .int .i64 (-1) :: .int .i64 0 :: .int .i64 0 :: .int .i64 0 :: .int .i64 0 :: .int .i64 0 :: .int .i64 19 :: .int .i64 0 :: .int .i64 0 :: .int .i64 0 :: .int .i64 0 :: .int .i64 0 :: .string ⟨#[]⟩ :: .int .i64 0 :: .int .i64 0 :: .int .i64 0 :: .int .i64 0 :: .string ⟨#[]⟩ :: .slice none 0 0 :: .int .i64 0 :: .int .i64 0 :: .slice none 0 0 :: .int .i64 (-1) :: .int .i64 0 :: .int .i64 0 :: .int .i64 0 :: .int .i64 0 :: .int .i64 0 :: .int .i64 23 :: .int .i64 0 :: .int .i64 0 :: .int .i64 0 :: .int .i64 0 :: .int .i64 0 :: .string ⟨#[]⟩ :: .int .i64 0 :: .int .i64 0 :: .int .i64 0 :: .int .i64 0 :: .string ⟨#[]⟩ :: .slice none 0 0 :: .int .i64 0 :: .int .i64 0 :: .slice none 0 0 :: .int .i64 (-1) :: .int .i64 0 :: .int .i64 0 :: .int .i64 0 :: .int .i64 0 :: .int .i64 0 :: [] : List Value).toArray) := ⟨_, rfl⟩
  obtain ⟨W3, hW3⟩ : ∃ W3, W3 = (w.alloc (.cells C 45)).alloc (.cells #[.string ⟨#[]⟩, .int .i64 0, .int .i64 0, .slice none 0 0, .slice none 0 0, .int .i64 1, .slice (some ⟨s, 0, none⟩) 4 4, .int .i64 0, .slice none 0 0, .slice none 0 0, .slice none 0 0] 29) := ⟨_, rfl⟩
  have hb3 : Below w.heap.size w W3 := by rw [hW3]; exact ((Below.refl _ _).alloc (Nat.le_refl _) _).alloc (by simp) _
  have hbc : Blk W3 s 45 C := by rw [hW3, hs]; exact (Blk.new _ _ _).alloc _
  have hbp : Blk W3 (s + 1) 29 #[.string ⟨#[]⟩, .int .i64 0, .int .i64 0, .slice none 0 0, .slice none 0 0, .int .i64 1, .slice (some ⟨s, 0, none⟩) 4 4, .int .i64 0, .slice none 0 0, .slice none 0 0, .slice none 0 0] := by
    have h := Blk.new (w.alloc (.cells C 45)) 29 #[.string ⟨#[]⟩, .int .i64 0, .int .i64 0, .slice none 0 0, .slice none 0 0, .int .i64 1, .slice (some ⟨s, 0, none⟩) 4 4, .int .i64 0, .slice none 0 0, .slice none 0 0, .slice none 0 0]
    rw [← hW3] at h
    have e : (w.alloc (.cells C 45)).heap.size = s + 1 := by rw [hs]; simp
    rw [e] at h
    exact h
  obtain ⟨p, hp⟩ : ∃ p : Pr, p = { key := ⟨#[]⟩, pkg := 0, params := 0, regs := 1, caps := 0, vv := (.slice none 0 0), rs := (.slice none 0 0), cv := .slice (some ⟨s, 0, none⟩) 4 4, sv := (.slice none 0 0), ve := (.slice none 0 0), sn := (.slice none 0 0) } := ⟨_, rfl⟩
  have HPR := hide (show PrOk W3 p [] code9 0 by
    rw [hp]
    rw [hC] at hbc
    exact ⟨⟨none, 0, rfl, fun k b hk => by (cases hk)⟩, RowAt.own (B := 0) (e := 45) IV.enc_length (row9 W3 _ hbc), all9 W3, ⟨none, 0, rfl⟩⟩)
  have HGD := hide (show goodP p [] code9 0 = true from good9 p (by rw [hp]) (by rw [hp]) (by rw [hp]))
  have HOF := hide (of_some p [] code9 0 W3 HPR.out (by decide) small9 HGD.out)
  obtain ⟨VP, hVP⟩ : ∃ VP, VP = p.val := ⟨_, rfl⟩
  rw [← hVP] at HOF
  have HVP := hide (show VP = .agg p.arr from hVP)
  have HVP2 := hide (show VP = p.val from hVP)
  have HBP := hide (show Blk W3 (s + 1) 29 p.arr by rw [hp]; exact hbp)
  have HB3 := hide hb3
  have HW3 := hide hW3
  have HS := hide hs
  have HC := hide hC
  clear hp hVP hbp hbc hb3 hW3 hs hC
  go_enter Try.func7, Try.ntmps7
  go_upto_region 2 with (fail)
  rw [← HC.out, ← HS.out]
  rw [← HW3.out]
  go_wp2_with (first
    | (refine wpList_load_blk (.tmp 1) HBP.out HVP.out Try.underlying29 rfl pr_size rfl rfl rfl ?_)
    | (refine wp_load_blk (.tmp 1) HBP.out HVP.out Try.underlying29 rfl pr_size rfl rfl ?_))
  refine HOF.out.mono ?_
  rintro e w4 ⟨B, vb, va, vo, R, i, hB, rfl, hpath, hGR, hb4⟩
  obtain rfl : B = begU code9 4 := hB
  have ho := ord9 hpath
  rw [ho] at hGR
  have hrow : RowAt 4 BV.enc w4 vb (blV [(0, 2), (2, 3), (3, 4)] R) := by
    have h := hGR.bl
    rw [show code9.length = 4 from rfl, bls9.2] at h
    exact h
  have hord : IntsAt w4 vo [0, 2, 1] := hGR.or_
  have hnx : IntsAt w4 (R 0) [1, 2] := by
    have h := hGR.rws 0 (by rw [show code9.length = 4 from rfl, bls9.2]; decide)
    rw [show rowsU (nxB code9 (begU code9 4)) (bls (begU code9 4) code9.length).length 0 = [1, 2] from nx9 0] at h
    exact h
  obtain ⟨Ab, cb, hvb⟩ := hrow.form
  obtain rfl : vb = .slice Ab 3 cb := hvb
  obtain ⟨Ao, co, hvo⟩ := hord.form
  obtain rfl : vo = .slice Ao 3 co := hvo
  obtain ⟨Aa, ca, hva⟩ := hGR.at_.form
  obtain rfl : va = .slice Aa 4 ca := by rw [hva, List.length_map, List.length_range]; rfl
  obtain ⟨An, cn, hvn⟩ := hnx.form
  have hvn : R 0 = .slice An 2 cn := hvn
  obtain ⟨W5, hW5⟩ : ∃ W5, W5 = w4.alloc (.cells #[.slice Ab 3 cb, .slice Aa 4 ca, .slice Ao 3 co] 34) := ⟨_, rfl⟩
  have hb5 : Below w4.heap.size w4 W5 := by rw [hW5]; exact (Below.refl _ _).alloc (Nat.le_refl _) _
  obtain ⟨g, hg⟩ : ∃ g, g = w4.heap.size := ⟨_, rfl⟩
  have hbg : Blk W5 g 34 #[.slice Ab 3 cb, .slice Aa 4 ca, .slice Ao 3 co] := by rw [hW5, hg]; exact Blk.new _ _ _
  have HBX := hide (show Below w.heap.size w W5 from (HB3.out.trans (hb4.mono HB3.out.size)).trans (hb5.mono (HB3.out.trans (hb4.mono HB3.out.size)).size))
  have HBY := hide (show Below W3.heap.size W3 W5 from hb4.trans (hb5.mono hb4.size))
  have HROW := hide (hrow.below hb5 (Nat.le_refl _))
  have HORD := hide (hord.below hb5 (Nat.le_refl _))
  have HVN := hide hvn
  have HG := hide hg
  have HBG := hide hbg
  have HW5 := hide hW5
  clear hpath hGR hb4 ho hrow hord hnx hvn hb5 hbg hg hW5
  go_upto_region 3 with (fail)
  rw [← HG.out, ← HW5.out]
  obtain ⟨bb, ob, x0, rfl, hl0, hx0, hc0⟩ := RowAt.at_ HROW.out (i := 0) (by rw [blV_len]; decide)
  obtain ⟨bb', ob', x1, e1, hl1, hx1, hc1⟩ := RowAt.at_ HROW.out (i := 1) (by rw [blV_len]; decide)
  injection e1 with e1
  injection e1 with e1 e2
  subst e1 e2
  rw [blV_at (x := (0, 2)) R rfl] at hx0
  injection hx0 with hx0
  rw [blV_at (x := (2, 3)) R rfl] at hx1
  injection hx1 with hx1
  obtain ⟨bo, oo, y0, rfl, hlo, hy0, yo⟩ := HORD.out.at_ (k := 0) (by decide)
  obtain rfl : (0 : Int) = y0 := by simpa using hy0
  have yo : W5.cell? ⟨bo, oo, none⟩ = some (.int .i64 0) := yo
  have yt : W5.cell? ⟨bb, ob + 1, none⟩ = some (.int .i64 2) := by
    have h := hc0 1 (.int .i64 2) (by rw [← hx0]; rfl)
    simpa using h
  have yn : W5.cell? ⟨bb, ob + 2, none⟩ = some (.slice An 2 cn) := by
    have h := hc0 2 (.slice An 2 cn) (by rw [← hx0, ← HVN.out]; rfl)
    simpa using h
  have yf : W5.cell? ⟨bb, ob + 4, none⟩ = some (.int .i64 2) := by
    have h := hc1 0 (.int .i64 2) (by rw [← hx1]; rfl)
    simpa using h
  have g0 : W5.cell? ⟨g, 0, none⟩ = some (.slice (some ⟨bb, ob, none⟩) 3 cb) := HBG.out.cell 0
  have g2 : W5.cell? ⟨g, 2, none⟩ = some (.slice (some ⟨bo, oo, none⟩) 3 co) := HBG.out.cell 2
  have HBP5 := hide (HBP.out.below HBY.out HBP.out.lt)
  have HC1 := hide (comes_any p [] code9 0 0 3 W5 (HPR.out.below HBY.out (Nat.le_refl _)) (by decide) small9)
  rw [← HVP2.out] at HC1
  clear hl0 hx0 hc0 hl1 hx1 hc1 hlo hy0
  go_wp2_with (first
    | (refine wpList_load_blk (.tmp 1) HBP5.out HVP.out Try.underlying29 rfl pr_size rfl (wanted_of 30 51 true rfl rfl rfl rfl) rfl ?_))
  refine HC1.out.mono ?_
  rintro e w6 ⟨r6, rfl, hb6, hr6⟩
  obtain rfl : r6 = true := hr6.2 ⟨by decide, by decide, by decide, by decide, HGD.out, rch9_03⟩
  have HBY6 := hide (HBY.out.trans (hb6.mono HBY.out.size))
  have HBX6 := hide (HBX.out.trans (hb6.mono HBX.out.size))
  have HBP6 := hide (HBP.out.below HBY6.out HBP.out.lt)
  have HC2 := hide (comes_any p [] code9 0 3 0 w6 (HPR.out.below HBY6.out (Nat.le_refl _)) (by decide) small9)
  rw [← HVP2.out] at HC2
  clear hb6 hr6 yo yt yn yf g0 g2
  go_wp2_with (first
    | (refine wpList_load_blk (.tmp 1) HBP6.out HVP.out Try.underlying29 rfl pr_size rfl (wanted_of 34 55 true rfl rfl rfl rfl) rfl ?_))
  refine HC2.out.mono ?_
  rintro e w7 ⟨r7, rfl, hb7, hr7⟩
  obtain rfl : r7 = false := by
    cases r7 with
    | false => rfl
    | true => exact absurd (hr7.1 rfl).2.2.2.2.2 rch9_30
  have HBX7 := hide (HBX6.out.trans (hb7.mono HBX6.out.size))
  clear hb7 hr7
  go_wp2_with fail
  go_ret
  exact ⟨rfl, HBX7.out⟩
end Go.Proofs.Ytaaadbaakhjkcaa
