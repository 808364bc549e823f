/- The fixed answers (awake); no conditions. -/
import Derived.Test.YtfdjomkkagommaaCoY
namespace Go.Proofs.Ytfdjomkkagommaa
open Go.RowKit Go.WideShapes Go.ChangeShapes
set_option linter.unusedVariables false
set_option linter.unusedSimpArgs false
set_option maxRecDepth 100000

set_option maxHeartbeats 8000000 in
theorem awake_any (w : World) : Calls Try.prog 6 #[] w (BoolP w true) := by
  have HR := hide (reads_any iStore (.slice none 0 0) (.slice none 0 0) w (ok_nil w iStore rfl rfl) (by decide) (by decide))
  rw [reads_store] at HR
  have HNX := hide (fun W => next_any iIf (.slice none 0 0) (.slice none 0 0) 7 W (ok_nil W iIf rfl rfl) (by decide))
  rw [next_if] at HNX
  go_enter Try.func6, Try.ntmps6
  go_wp2_with fail
  refine HR.out.mono ?_
  rintro e w1 ⟨v1, rfl, hr1, hb1⟩
  have hr1' : w1.ownsRow w.heap.size 3 1 v1 3 [iI 1, iI 4, iI 5] := hr1
  have HI1 := hide (show IntsAt w1 v1 [1, 4, 5] from IntsAt.own hr1)
  obtain ⟨A1, c1, rfl⟩ := own_formT hr1'
  have HB1 := hide hb1
  clear hr1 hr1' hb1
  go_wp2_with fail
  refine (HNX.out w1).mono ?_
  rintro e w2 ⟨v2, rfl, hr2, hb2⟩
  have hr2' : w2.ownsRow w1.heap.size 3 1 v2 2 [iI 3, iI 8] := hr2
  have HI2 := hide (show IntsAt w2 v2 [3, 8] from IntsAt.own hr2)
  obtain ⟨A2, c2, rfl⟩ := own_formT hr2'
  have HB2 := hide (HB1.out.trans (hb2.mono HB1.out.size))
  have HI12 := hide (HI1.out.below hb2 (Nat.le_refl _))
  clear hr2 hr2' hb2
  obtain ⟨W3, hW3⟩ : ∃ W3, W3 = ((w2.alloc (.cells #[.int .i64 0] 3)).alloc (.cells ((.int .i64 1 :: .int .i64 0 :: .int .i64 0 :: .int .i64 0 :: .int .i64 0 :: .int .i64 0 :: .string ⟨#[]⟩ :: .int .i64 0 :: .int .i64 0 :: .int .i64 0 :: .int .i64 0 :: .string ⟨#[]⟩ :: .slice none 0 0 :: .int .i64 0 :: .int .i64 0 :: .slice none 0 0 :: .int .i64 (-1) :: .int .i64 0 :: .int .i64 0 :: .int .i64 0 :: .int .i64 0 :: .int .i64 0 :: .int .i64 23 :: .int .i64 0 :: .int .i64 0 :: .int .i64 0 :: .int .i64 0 :: .int .i64 0 :: .string ⟨#[]⟩ :: .int .i64 0 :: .int .i64 0 :: .int .i64 0 :: .int .i64 0 :: .string ⟨#[]⟩ :: .slice (some ⟨w2.heap.size, 0, none⟩) 1 1 :: .int .i64 0 :: .int .i64 0 :: .slice none 0 0 :: .int .i64 (-1) :: .int .i64 0 :: .int .i64 0 :: .int .i64 0 :: .int .i64 0 :: .int .i64 0 :: [] : List Value).toArray) 39)).alloc (.cells #[.string ⟨#[]⟩, .int .i64 0, .int .i64 0, .slice none 0 0, .slice none 0 0, .int .i64 1, .slice (some ⟨w2.heap.size + 1, 0, none⟩) 2 2, .int .i64 0, .slice none 0 0, .slice none 0 0, .slice none 0 0] 53) := ⟨_, rfl⟩
  have hb3 : Below w2.heap.size w2 W3 := by rw [hW3]; exact (((Below.refl _ _).alloc (Nat.le_refl _) _).alloc (by simp) _).alloc (by simp; omega) _
  have hbi : Blk W3 w2.heap.size 3 #[.int .i64 0] := by rw [hW3]; exact ((Blk.new _ _ _).alloc _).alloc _
  have hbc : Blk W3 (w2.heap.size + 1) 39 ((.int .i64 1 :: .int .i64 0 :: .int .i64 0 :: .int .i64 0 :: .int .i64 0 :: .int .i64 0 :: .string ⟨#[]⟩ :: .int .i64 0 :: .int .i64 0 :: .int .i64 0 :: .int .i64 0 :: .string ⟨#[]⟩ :: .slice none 0 0 :: .int .i64 0 :: .int .i64 0 :: .slice none 0 0 :: .int .i64 (-1) :: .int .i64 0 :: .int .i64 0 :: .int .i64 0 :: .int .i64 0 :: .int .i64 0 :: .int .i64 23 :: .int .i64 0 :: .int .i64 0 :: .int .i64 0 :: .int .i64 0 :: .int .i64 0 :: .string ⟨#[]⟩ :: .int .i64 0 :: .int .i64 0 :: .int .i64 0 :: .int .i64 0 :: .string ⟨#[]⟩ :: .slice (some ⟨w2.heap.size, 0, none⟩) 1 1 :: .int .i64 0 :: .int .i64 0 :: .slice none 0 0 :: .int .i64 (-1) :: .int .i64 0 :: .int .i64 0 :: .int .i64 0 :: .int .i64 0 :: .int .i64 0 :: [] : List Value).toArray) := by
    have h := (Blk.new (w2.alloc (.cells #[.int .i64 0] 3)) 39 ((.int .i64 1 :: .int .i64 0 :: .int .i64 0 :: .int .i64 0 :: .int .i64 0 :: .int .i64 0 :: .string ⟨#[]⟩ :: .int .i64 0 :: .int .i64 0 :: .int .i64 0 :: .int .i64 0 :: .string ⟨#[]⟩ :: .slice none 0 0 :: .int .i64 0 :: .int .i64 0 :: .slice none 0 0 :: .int .i64 (-1) :: .int .i64 0 :: .int .i64 0 :: .int .i64 0 :: .int .i64 0 :: .int .i64 0 :: .int .i64 23 :: .int .i64 0 :: .int .i64 0 :: .int .i64 0 :: .int .i64 0 :: .int .i64 0 :: .string ⟨#[]⟩ :: .int .i64 0 :: .int .i64 0 :: .int .i64 0 :: .int .i64 0 :: .string ⟨#[]⟩ :: .slice (some ⟨w2.heap.size, 0, none⟩) 1 1 :: .int .i64 0 :: .int .i64 0 :: .slice none 0 0 :: .int .i64 (-1) :: .int .i64 0 :: .int .i64 0 :: .int .i64 0 :: .int .i64 0 :: .int .i64 0 :: [] : List Value).toArray)).alloc (.cells #[.string ⟨#[]⟩, .int .i64 0, .int .i64 0, .slice none 0 0, .slice none 0 0, .int .i64 1, .slice (some ⟨w2.heap.size + 1, 0, none⟩) 2 2, .int .i64 0, .slice none 0 0, .slice none 0 0, .slice none 0 0] 53)
    rw [← hW3] at h
    have e : (w2.alloc (.cells #[.int .i64 0] 3)).heap.size = w2.heap.size + 1 := by simp
    rw [e] at h
    exact h
  have hbp : Blk W3 (w2.heap.size + 2) 53 #[.string ⟨#[]⟩, .int .i64 0, .int .i64 0, .slice none 0 0, .slice none 0 0, .int .i64 1, .slice (some ⟨w2.heap.size + 1, 0, none⟩) 2 2, .int .i64 0, .slice none 0 0, .slice none 0 0, .slice none 0 0] := by
    have h := Blk.new ((w2.alloc (.cells #[.int .i64 0] 3)).alloc (.cells ((.int .i64 1 :: .int .i64 0 :: .int .i64 0 :: .int .i64 0 :: .int .i64 0 :: .int .i64 0 :: .string ⟨#[]⟩ :: .int .i64 0 :: .int .i64 0 :: .int .i64 0 :: .int .i64 0 :: .string ⟨#[]⟩ :: .slice none 0 0 :: .int .i64 0 :: .int .i64 0 :: .slice none 0 0 :: .int .i64 (-1) :: .int .i64 0 :: .int .i64 0 :: .int .i64 0 :: .int .i64 0 :: .int .i64 0 :: .int .i64 23 :: .int .i64 0 :: .int .i64 0 :: .int .i64 0 :: .int .i64 0 :: .int .i64 0 :: .string ⟨#[]⟩ :: .int .i64 0 :: .int .i64 0 :: .int .i64 0 :: .int .i64 0 :: .string ⟨#[]⟩ :: .slice (some ⟨w2.heap.size, 0, none⟩) 1 1 :: .int .i64 0 :: .int .i64 0 :: .slice none 0 0 :: .int .i64 (-1) :: .int .i64 0 :: .int .i64 0 :: .int .i64 0 :: .int .i64 0 :: .int .i64 0 :: [] : List Value).toArray) 39)) 53 #[.string ⟨#[]⟩, .int .i64 0, .int .i64 0, .slice none 0 0, .slice none 0 0, .int .i64 1, .slice (some ⟨w2.heap.size + 1, 0, none⟩) 2 2, .int .i64 0, .slice none 0 0, .slice none 0 0, .slice none 0 0]
    rw [← hW3] at h
    have e : ((w2.alloc (.cells #[.int .i64 0] 3)).alloc (.cells ((.int .i64 1 :: .int .i64 0 :: .int .i64 0 :: .int .i64 0 :: .int .i64 0 :: .int .i64 0 :: .string ⟨#[]⟩ :: .int .i64 0 :: .int .i64 0 :: .int .i64 0 :: .int .i64 0 :: .string ⟨#[]⟩ :: .slice none 0 0 :: .int .i64 0 :: .int .i64 0 :: .slice none 0 0 :: .int .i64 (-1) :: .int .i64 0 :: .int .i64 0 :: .int .i64 0 :: .int .i64 0 :: .int .i64 0 :: .int .i64 23 :: .int .i64 0 :: .int .i64 0 :: .int .i64 0 :: .int .i64 0 :: .int .i64 0 :: .string ⟨#[]⟩ :: .int .i64 0 :: .int .i64 0 :: .int .i64 0 :: .int .i64 0 :: .string ⟨#[]⟩ :: .slice (some ⟨w2.heap.size, 0, none⟩) 1 1 :: .int .i64 0 :: .int .i64 0 :: .slice none 0 0 :: .int .i64 (-1) :: .int .i64 0 :: .int .i64 0 :: .int .i64 0 :: .int .i64 0 :: .int .i64 0 :: [] : List Value).toArray) 39)).heap.size = w2.heap.size + 2 := by simp
    rw [e] at h
    exact h
  obtain ⟨p, hp⟩ : ∃ p : Pr, p = { key := ⟨#[]⟩, pkg := 0, params := 0, regs := 1, caps := 0, vv := (.slice none 0 0), rs := (.slice none 0 0), cv := .slice (some ⟨w2.heap.size + 1, 0, none⟩) 2 2, sv := (.slice none 0 0), ve := (.slice none 0 0), sn := (.slice none 0 0) } := ⟨_, rfl⟩
  have HPR := hide (show PrOk W3 p [] ([⟨iPut, (.slice none 0 0), (.slice none 0 0)⟩, ⟨iRet, .slice (some ⟨w2.heap.size, 0, none⟩) 1 1, (.slice none 0 0)⟩] : List IV) 0 by
    rw [hp]
    have hok : ∀ x ∈ ([⟨iPut, (.slice none 0 0), (.slice none 0 0)⟩, ⟨iRet, .slice (some ⟨w2.heap.size, 0, none⟩) 1 1, (.slice none 0 0)⟩] : List IV), InsOk W3 x.i x.av x.rv := by
      rw [List.forall_mem_cons, List.forall_mem_cons]
      exact ⟨ok_nil W3 iPut rfl rfl, fix_args W3 _ hbi, fun x hx => by (cases hx)⟩
    exact ⟨⟨none, 0, rfl, fun k b hk => by (cases hk)⟩, RowAt.own (B := 0) (e := 39) IV.enc_length (fix_row W3 _ hbc), hok, ⟨none, 0, rfl⟩⟩)
  have HGP := hide (show goodP p [] ([⟨iPut, (.slice none 0 0), (.slice none 0 0)⟩, ⟨iRet, .slice (some ⟨w2.heap.size, 0, none⟩) 1 1, (.slice none 0 0)⟩] : List IV) 0 = true from good_fix p _ (by rw [hp]) (by rw [hp]) (by rw [hp]))
  obtain ⟨VP, hVP⟩ : ∃ VP, VP = p.val := ⟨_, rfl⟩
  have HVP := hide (show VP = .agg p.arr from hVP)
  have HVP2 := hide (show VP = p.val from hVP)
  have HBP := hide (show Blk W3 (w2.heap.size + 2) 53 p.arr by rw [hp]; exact hbp)
  have HI13 := hide (HI12.out.below hb3 (Nat.le_refl _))
  have HI23 := hide (HI2.out.below hb3 (Nat.le_refl _))
  have HB3 := hide (HB2.out.trans (hb3.mono HB2.out.size))
  have HW3 := hide hW3
  have HNEW := hide (new_any W3)
  clear hp hVP hbp hbc hbi hb3 hW3
  go_upto_region 4 with (fail)
  rw [← HW3.out]
  go_wp2_with fail
  refine HNEW.out.mono ?_
  rintro e w4 ⟨rfl, hT4, hb4⟩
  obtain ⟨g, hg⟩ : ∃ g, g = W3.heap.size := ⟨_, rfl⟩
  rw [← hg] at hT4 ⊢
  have HPUT := hide (put_any g g emptyB iRet0 (.slice none 0 0) (.slice none 0 0) w4 hT4 (fun W _ => ok_nil W iRet0 rfl rfl) ⟨by decide, by decide⟩ (by decide) (by decide) (by decide))
  have HB34 := hide hb4
  have HG := hide hg
  clear hT4 hb4 hg
  go_wp2_with fail
  refine HPUT.out.mono ?_
  rintro e w5 ⟨rfl, av5, rv5, cv5, hT5, hs5, hb5⟩
  have HFIN := hide (fin_any g g _ w5 hT5 (by
    refine ⟨by show 1 ≤ 100000; omega, fun x hx => ?_⟩
    rcases List.mem_cons.1 hx with rfl | hx
    · exact ⟨Nat.zero_le _, Nat.zero_le _⟩
    · cases hx) (by show 0 ≤ 100000 ∧ 0 ≤ 100000; omega))
  have HB35 := hide (show Below W3.heap.size W3 w5 from HB34.out.trans (by rw [← HG.out]; exact hb5))
  clear hT5 hs5 hb5
  go_wp2_with fail
  refine HFIN.out.mono ?_
  rintro e w6 ⟨hb6, hf⟩
  rw [if_neg (by
    rintro (h | h | h)
    · exact nomatch (show true = false from h)
    · exact nomatch (show false = true from h)
    · exact nomatch (show true = false from h)), if_neg (show ¬ longB (putB emptyB iRet0 av5 rv5 cv5) = true from fun h => nomatch (show false = true from h))] at hf
  obtain ⟨v6, sv6, L, rfl, hL, hRV, hSV⟩ := hf
  rcases L with _ | ⟨x, _ | ⟨y, L⟩⟩
  · exact nomatch hL
  · have hxi : x.i.st = -1 := by
      injection hL with h1 h2
      rw [h1]
      rfl
    obtain ⟨A6, c6, rfl⟩ := own_formT hRV.row
    obtain ⟨A7, c7, rfl⟩ := own_formT hSV
    have HB36 := hide (HB35.out.trans (hb6.mono HB35.out.size))
    have HROW := hide (show InssAt w6 (.slice A6 1 c6) [x] from RowAt.own IV.enc_length hRV.row)
    have HXI := hide hxi
    clear hb6 hL hRV hSV hxi
    obtain ⟨b1, o1, x1, rfl, hl1, hx1, y10⟩ := (HI13.out.below HB36.out (Nat.le_refl _)).at_ (k := 0) (by decide)
    obtain ⟨b2, o2, x2, e2, hl2, hx2, y12⟩ := (HI13.out.below HB36.out (Nat.le_refl _)).at_ (k := 2) (by decide)
    obtain ⟨b3, o3, x3, rfl, hl3, hx3, y20⟩ := (HI23.out.below HB36.out (Nat.le_refl _)).at_ (k := 0) (by decide)
    obtain ⟨b4, o4, x4, e4, hl4, hx4, y21⟩ := (HI23.out.below HB36.out (Nat.le_refl _)).at_ (k := 1) (by decide)
    obtain ⟨b5, o5, x5, rfl, hl5, hx5, y5⟩ := RowAt.at_ HROW.out (i := 0) (by show 0 < 1; decide)
    injection e2 with e2
    injection e2 with e2 e3
    injection e4 with e4
    injection e4 with e4 e5
    subst e2 e3 e4 e5
    obtain rfl : (1 : Int) = x1 := by simpa using hx1
    obtain rfl : (5 : Int) = x2 := by simpa using hx2
    obtain rfl : (3 : Int) = x3 := by simpa using hx3
    obtain rfl : (8 : Int) = x4 := by simpa using hx4
    obtain rfl : x = x5 := by simpa using hx5
    have y10 : w6.cell? ⟨b1, o1, none⟩ = some (.int .i64 1) := y10
    have y20 : w6.cell? ⟨b3, o3, none⟩ = some (.int .i64 3) := y20
    have hst : w6.cell? ⟨b5, o5 + 16, none⟩ = some (.int .i64 (-1)) := by
      have h := y5 16 (.int .i64 x.i.st) rfl
      rw [HXI.out, Nat.zero_mul, Nat.add_zero] at h
      exact h
    have HST := hide (And.intro hst (World.block_lt_of_cell? w6 ⟨b5, o5 + 16, none⟩ hst))
    have HEN := hide (ends_any iRet0 (.slice none 0 0) (.slice none 0 0) w6)
    rw [ends_ret0] at HEN
    clear hl1 hl2 hl3 hl4 hl5 hx1 hx2 hx3 hx4 hx5 y5 hst
    go_wp2_with fail
    refine HEN.out.mono ?_
    rintro e w7 ⟨rfl, hb7⟩
    have HB37 := hide (HB36.out.trans (hb7.mono HB36.out.size))
    have HBP7 := hide (HBP.out.below HB37.out HBP.out.lt)
    have HG7 := hide (good_any p [] ([⟨iPut, (.slice none 0 0), (.slice none 0 0)⟩, ⟨iRet, .slice (some ⟨w2.heap.size, 0, none⟩) 1 1, (.slice none 0 0)⟩] : List IV) 0 w7 (HPR.out.below HB37.out (Nat.le_refl _)) (by show 2 ≤ 1000; decide) (by
      rw [List.forall_mem_cons, List.forall_mem_cons]
      exact ⟨⟨by decide, by decide⟩, ⟨(by show 0 ≤ 100; decide), (by show 1 ≤ 100; decide)⟩, fun x hx => by (cases hx)⟩))
    rw [HGP.out, ← HVP2.out] at HG7
    have HB67 := hide hb7
    clear hb7 y10 y12 y20 y21
    go_wp2_with (first
      | (refine wpList_load_blk (.tmp 3) HBP7.out HVP.out Try.underlying53 rfl pr_size rfl (wanted_of 26 67 true rfl rfl rfl rfl) rfl ?_))
    refine HG7.out.mono ?_
    rintro e w8 ⟨rfl, hb8⟩
    have HB68 := hide (HB67.out.trans (hb8.mono HB67.out.size))
    have HG8 := hide (good_any pNone [] [] 0 w8 (none_ok w8) (by decide) (fun x hx => by (cases hx)))
    rw [good_none] at HG8
    clear hb8
    go_wp2_with fail
    refine HG8.out.mono ?_
    rintro e w9 ⟨rfl, hb9⟩
    have hb69 := HB68.out.trans (hb9.mono HB68.out.size)
    have hst := (hb69.cell (p := ⟨b5, o5 + 16, none⟩) HST.out.2).trans HST.out.1
    have HB9 := hide (HB3.out.trans ((HB36.out.trans (hb69.mono HB36.out.size)).mono HB3.out.size))
    clear hb9 hb69
    go_wp2_with fail
    go_ret
    exact ⟨rfl, HB9.out⟩
  · injection hL with h1 h2
    exact nomatch h2
end Go.Proofs.Ytfdjomkkagommaa
