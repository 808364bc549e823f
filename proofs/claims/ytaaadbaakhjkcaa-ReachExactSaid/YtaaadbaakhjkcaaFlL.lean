/- Of of code that can be; conditions: the func is in memory. -/
import Derived.Test.YtaaadbaakhjkcaaFlJN
import Derived.Test.YtaaadbaakhjkcaaTail
namespace Go.Proofs.Ytaaadbaakhjkcaa
open Go.RowKit Go.WideShapes Go.ChangeShapes
set_option linter.unusedVariables false
set_option linter.unusedSimpArgs false
set_option maxRecDepth 100000

theorem good_pos {p : Pr} {hs : List Bool} {code : List IV} {ns : Nat} (h : goodP p hs code ns = true) : 0 < code.length := by
  rcases code with _ | ⟨x, l⟩
  · unfold goodP lastB at h
    simp at h
  · simp
theorem blockInfo : (Try.prog.info? 37).map (fun i => (i.zero, i.size, i.bytes)) = some (some (.agg #[.int .i64 0, .int .i64 0, .slice none 0 0, .slice none 0 0]), 4, 64) := by kernel_rfl
theorem bls_le (B : Nat → Bool) : ∀ k, (bls B k).length ≤ k
  | 0 => Nat.le_refl _
  | k + 1 => by
    have ih := bls_le B k
    unfold bls
    split
    · simp; omega
    · cases hl : (bls B k).getLast? <;> simp <;> omega
set_option maxHeartbeats 16000000 in
theorem of_some (p : Pr) (hs : List Bool) (code : List IV) (ns : Nat) (w : World) (h : PrOk w p hs code ns) (hn : code.length ≤ 1000) (hl : ∀ x ∈ code, x.i.arms.length ≤ 100 ∧ x.i.args.length ≤ 100) (hg : goodP p hs code ns = true) :
    Calls Try.prog 10 #[p.val] w (GrP code w) := by
  obtain ⟨i0, hi0, hz0, hz1, hz2⟩ := info_parts intInfoT
  obtain ⟨ib0, hib0, hiz0, hiz1, hiz2⟩ := info_parts blockInfo
  have hpos := good_pos hg
  obtain ⟨gp, hgp⟩ : ∃ gp, gp = w.heap.size := ⟨_, rfl⟩
  obtain ⟨zs, hzs⟩ : ∃ zs : Array Value, zs = #[.slice none 0 0, .slice none 0 0, .slice none 0 0] := ⟨_, rfl⟩
  obtain ⟨W1, hW1⟩ : ∃ W1, W1 = (w.alloc (.cells p.arr 29)).alloc (.cells zs 34) := ⟨_, rfl⟩
  have hb1 : Below w.heap.size w W1 := by rw [hW1]; exact ((Below.refl _ _).alloc (Nat.le_refl _) _).alloc (by simp) _
  have hbp : Blk W1 gp 29 p.arr := by rw [hW1, hgp]; exact (Blk.new _ _ _).alloc _
  have hbz : Blk W1 (gp + 1) 34 zs := by
    have h := Blk.new (w.alloc (.cells p.arr 29)) 34 zs
    rw [← hW1] at h
    rw [hgp]
    simpa using h
  have HOK := hide (h.below hb1 (Nat.le_refl _))
  obtain ⟨Ac, cc, hcv⟩ := h.cv.form
  obtain ⟨n, hnn⟩ : ∃ n, n = code.length := ⟨_, rfl⟩
  rw [← hnn] at hcv hn hpos
  obtain ⟨PV, hPV⟩ : ∃ PV, PV = p.val := ⟨_, rfl⟩
  have HGC := hide (good_any p hs code ns W1 HOK.out (by omega) hl)
  rw [← hPV, hg] at HGC
  have HPV := hide hPV
  have HZ := hide hzs
  have HZS := hide (show zs.size = 3 by rw [hzs]; rfl)
  have HB1 := hide hb1
  have HW1 := hide hW1
  have HGP := hide hgp
  have HBP := hide hbp
  have HBZ := hide hbz
  have HN := hide (And.intro hnn (And.intro hn hpos))
  have HL := hide hl
  have HCV := hide hcv
  have HGD := hide hg
  have HED := hide (fun (q : Nat) (x : IV) (hx : code[q]? = some x) => edge_in hg hx)
  clear h hn hl hg hb1 hW1 hgp hbp hbz hPV hzs hnn hpos hcv
  go_enter Try.func10, Try.ntmps10
  go_upto_region 1 with (fail)
  rw [← HZ.out, ← HW1.out, ← HGP.out]
  rw [← HPV.out]
  go_wp2_with (first
    | (refine wpList_load_blk (.tmp 1) HBP.out HPV.out Try.underlying29 rfl pr_size rfl rfl rfl ?_)
    | (refine wp_load_blk (.tmp 1) HBP.out HPV.out Try.underlying29 rfl pr_size rfl rfl ?_))
  refine HGC.out.mono ?_
  rintro e w3 ⟨rfl, hb3⟩
  have HBZ3 := hide (HBZ.out.below hb3 HBZ.out.lt)
  have HBP3 := hide (HBP.out.below hb3 HBP.out.lt)
  have HB3W := hide (HB1.out.trans (hb3.mono HB1.out.size))
  have HB1W := hide (show Below W1.heap.size W1 w3 from hb3)
  have HGP3 := hide (show gp + 1 < w3.heap.size from HBZ3.out.lt)
  have y6 : w3.cell? ⟨gp, 6, none⟩ = some (.slice Ac n cc) := by rw [← HCV.out]; exact HBP3.out.cell 6
  have hmk := make_ints n (by have := HN.out; omega)
  obtain ⟨Z, hZ⟩ : ∃ Z, Z = ic n (fun _ => 0) := ⟨_, rfl⟩
  rw [← hZ] at hmk
  obtain ⟨gA, hgA⟩ : ∃ gA, gA = w3.heap.size := ⟨_, rfl⟩
  obtain ⟨W4, hW4⟩ : ∃ W4, W4 = w3.alloc (.cells Z 3) := ⟨_, rfl⟩
  have HGA := hide hgA
  have HW4 := hide hW4
  have HZI := hide hZ
  clear hb3 hgA hW4 hZ
  go_upto_region 4 with (fail)
  rw [← HGA.out, ← HW4.out]
  obtain ⟨gG, hgG⟩ : ∃ gG, gG = gA + 1 := ⟨_, rfl⟩
  obtain ⟨W5, hW5⟩ : ∃ W5, W5 = W4.alloc (.cells (grA (.slice none 0 0) (.slice (some ⟨gA, 0, none⟩) n n) (.slice none 0 0)) 34) := ⟨_, rfl⟩
  have hz4 : W4.heap.size = gA + 1 := by rw [HW4.out, HGA.out]; simp
  have hb5 : Below w3.heap.size w3 W5 := by rw [hW5, HW4.out]; exact ((Below.refl _ _).alloc (Nat.le_refl _) _).alloc (by simp) _
  have HA5 := hide (show Blk W5 gA 3 Z by rw [hW5, HW4.out, HGA.out]; exact (Blk.new _ _ _).alloc _)
  have HG5 := hide (show Blk W5 gG 34 (grA (.slice none 0 0) (.slice (some ⟨gA, 0, none⟩) n n) (.slice none 0 0)) by rw [hW5, hgG, ← hz4]; exact Blk.new _ _ _)
  have HB5 := hide (HB3W.out.trans (hb5.mono HB3W.out.size))
  have HP5 := hide (HBP3.out.below hb5 HBP3.out.lt)
  have HR5 := hide (HBZ3.out.below hb5 HBZ3.out.lt)
  have hbw5 : Below W1.heap.size W1 W5 := HB1W.out.trans (hb5.mono HB1W.out.size)
  have HOK5 := hide (HOK.out.below hbw5 (Nat.le_refl _))
  have u6 : W5.cell? ⟨gp, 6, none⟩ = some (.slice Ac n cc) := by rw [← HCV.out]; exact HP5.out.cell 6
  have hcv5 := HOK5.out.cv
  rw [HCV.out] at hcv5
  have HBEG := hide (beg_any (.slice Ac n cc) code W5 hcv5 HOK5.out.ok HL.out (by have := HN.out; omega) HED.out)
  rw [← HN.out.1] at HBEG
  have HGG := hide (show gp + 1 < gA ∧ gG = gA + 1 ∧ gG < W5.heap.size by
    refine ⟨by rw [HGA.out]; exact HGP3.out, hgG, ?_⟩
    rw [hW5, hgG]
    simp
    omega)
  have HW5 := hide hW5
  rw [← hgG, ← hW5]
  have HL5 := hide (show Below w3.heap.size w3 W5 from hb5)
  clear hgG hW5 hz4 hb5 hbw5 hcv5 hmk y6
  go_wp2_with fail
  refine HBEG.out.mono ?_
  rintro e w6 ⟨gb, rfl, hgb, hbb6, hb6⟩
  have HB6 := hide (HB5.out.trans (hb6.mono HB5.out.size))
  have HB56 := hide (show Below W5.heap.size W5 w6 from hb6)
  have HA6 := hide (HA5.out.below hb6 HA5.out.lt)
  have HG6 := hide (HG5.out.below hb6 HG5.out.lt)
  have HP6 := hide (HP5.out.below hb6 HP5.out.lt)
  have HR6 := hide (HR5.out.below hb6 HR5.out.lt)
  have HBB6 := hide hbb6
  have HGB := hide (And.intro hgb (And.intro hbb6.lt hb6.size))
  have v6 : w6.cell? ⟨gp, 6, none⟩ = some (.slice Ac n cc) := by rw [← HCV.out]; exact HP6.out.cell 6
  clear hgb hbb6 hb6 u6
  go_upto_region 6 with (fail)
  obtain ⟨B, hBB⟩ : ∃ B, B = begU code n := ⟨_, rfl⟩
  obtain ⟨Bd, hBd⟩ : ∃ Bd, Bd = w6.heap.size := ⟨_, rfl⟩
  have HB0 := hide (show B 0 = true by rw [hBB]; unfold begU; simp)
  have HBD := hide hBd
  have HKN := hide (fun (k : Nat) (hk : k ≤ n) => show (bls B k).length ≤ 1000 by have := bls_le B k; have := HN.out; omega)
  have HBB := hide hBB
  have HBBU := hide hBB
  rw [← hBB] at HBB6
  have HW6 := hide (show Below w3.heap.size w3 w6 from HL5.out.trans (HB56.out.mono HL5.out.size))
  clear hBB hBd v6
  go_loopw [27] (fun jj wr => ∃ (j : Nat) (Ab : Option Addr) (kb cb : Nat), j ≤ n ∧ jj = .int .i64 (j : Int) ∧ Hid (kb = (bls B j).length) ∧ Hid (Blk wr gG 34 (grA (.slice Ab kb cb) (.slice (some ⟨gA, 0, none⟩) n n) (.slice none 0 0))) ∧ Hid (Blk wr gA 3 (ic n (fun q => if q < j then atB B q else 0))) ∧ Hid (Blk wr gb 4 (bc (n + 1) B)) ∧ Hid (wr.ownsRow Bd 37 4 (.slice Ab kb cb) kb ((blV (bls B j) (fun _ => .slice none 0 0)).flatMap BV.enc)) ∧ Hid (Below w3.heap.size w3 wr) ∧ Hid (Bd ≤ wr.heap.size)) (fun jj _ => n - (intOf jj).toNat)
  case atStart => exact ⟨0, none, 0, 0, Nat.zero_le _, rfl, hide rfl, HG6, hide (by have h := HA6.out; rw [HZI.out] at h; exact h), HBB6, hide (World.ownsRow_nil _ _ _ _), HW6, hide (Nat.le_of_eq HBD.out)⟩
  case round =>
    obtain ⟨j, Ab, kb, cb, hj, rfl, HKB, HG, HA, HB, HO, HWR, HS⟩ := hrel
    by_cases hlt : j < n
    · have j1 : (j : Int) < (n : Int) := by omega
      have j2 : (0 : Int) ≤ (j : Int) := by omega
      have j3 : (j : Int) < ((n + 1 : Nat) : Int) := by omega
      have q5 : IntKind.i64.wrap ((j : Int) + 1) = ((j + 1 : Nat) : Int) := by rw [IntWalk.i64_in _ (by have := HN.out; omega)]; omega
      obtain ⟨jn, hjn⟩ : ∃ jn, jn = j + 1 := ⟨_, rfl⟩
      rw [← hjn] at q5
      have HJN := hide hjn
      clear hjn
      have yb : wr.cell? ⟨gb, j, none⟩ = some (.bool (B j)) := (HB.out.cell j).trans (bc_at _ (by omega))
      cases hbj : B j with
      | true =>
        rw [hbj] at yb
        have HBJ := hide hbj
        clear hbj
        have yg : wr.cell? ⟨gG, 0, none⟩ = some (.slice Ab kb cb) := HG.out.cell 0
        obtain ⟨W7, hW7⟩ : ∃ W7, W7 = wr.alloc (.cells #[.int .i64 (j : Int), .int .i64 0, .slice none 0 0, .slice none 0 0] 37) := ⟨_, rfl⟩
        have hb7 : Below wr.heap.size wr W7 := by rw [hW7]; exact (Below.refl _ _).alloc (Nat.le_refl _) _
        have HC7 := hide (show Blk W7 wr.heap.size 37 #[.int .i64 (j : Int), .int .i64 0, .slice none 0 0, .slice none 0 0] by rw [hW7]; exact Blk.new _ _ _)
        have HZ7 := hide (show W7.heap.size = wr.heap.size + 1 by rw [hW7]; simp)
        have HG7 := hide (HG.out.below hb7 HG.out.lt)
        have HA7 := hide (HA.out.below hb7 HA.out.lt)
        have HB7 := hide (HB.out.below hb7 HB.out.lt)
        have HO7 := hide (own_belowT HO.out hb7)
        have HWR7 := hide (HWR.out.trans (hb7.mono HWR.out.size))
        have HW7 := hide hW7
        clear hW7 hb7
        go_upto_region 9 with (fail)
        go_upto_region 10 with (first
          | (at_builtin
             rw [← HW7.out]
             refine wpList_append_any _ rfl (.tmp 35) (.tmp 38) _ rfl Bd 37 ib0 _ 4 64 Try.underlying32 hib0 hiz0 hiz1 hiz2 rfl (by omega) (.slice Ab kb cb) kb _ rfl HO7.out (wr.heap.size + 1) (some ⟨wr.heap.size, 0, none⟩) 1 1 [.int .i64 (j : Int), .int .i64 0, .slice none 0 0, .slice none 0 0] rfl ?rd ?on ?b1 ?b2 ?sz ?_
             case rd => exact ⟨rfl, fun _ => ⟨_, rfl, Nat.lt_succ_self _, fun q u hu => by rw [Addr.add_lit, Nat.zero_add, HC7.out.cell q]; simpa using hu⟩⟩
             case on => (intro u hu; simp at hu; rcases hu with rfl | rfl | rfl <;> rfl)
             case b1 => (have := HKN.out j hj; have := HKB.out; simp only [maxLen]; omega)
             case b2 => (have := HKN.out j hj; have := HKB.out; omega)
             case sz => (have := HS.out; have := HZ7.out; omega)
             intro v10 w10 hown10 hg10 hat10
             have HG10 := hide (HG7.out.grown hg10 (fun e => own_blk_ne HO7.out HG7.out (by decide) e.symm))
             have HA10 := hide (HA7.out.grown hg10 (fun e => own_blk_ne HO7.out HA7.out (by decide) e.symm))
             have HB10 := hide (HB7.out.grown hg10 (fun e => own_blk_ne HO7.out HB7.out (by decide) e.symm))
             have HWR10 := hide (HWR7.out.grown hg10 HWR7.out.size (fun q hq => by have := (HO7.out.lt q hq).1; have := HBD.out; have := HW6.out.size; omega))
             have HSZ10 := hide (show Bd ≤ w10.heap.size by have := hg10.size; have := HS.out; have := HZ7.out; omega)
             have HO10 := hide (show w10.ownsRow Bd 37 4 v10 (kb + 1) ((blV (bls B j ++ [((j, 0) : Nat × Nat)]) (fun _ => .slice none 0 0)).flatMap BV.enc) by rw [blV_snoc, List.flatMap_append]; exact hown10)
             obtain ⟨A10, c10, rfl⟩ := own_formT hown10
             have yf := HG10.out.frozen 0
             have yg2 : w10.cell? ⟨gG, 0, none⟩ = some (.slice Ab kb cb) := HG10.out.cell 0
             obtain ⟨W11, hW11⟩ : ∃ W11, W11 = w10.setCell ⟨gG, 0, none⟩ (.slice A10 (kb + 1) c10) := ⟨_, rfl⟩
             have HGt := hide (show Blk W11 gG 34 (grA (.slice A10 (kb + 1) c10) (.slice (some ⟨gA, 0, none⟩) n n) (.slice none 0 0)) by rw [hW11]; exact HG10.out.set_ 0 _)
             have HAt := hide (show Blk W11 gA 3 (ic n (fun q => if q < j then atB B q else 0)) by rw [hW11]; exact HA10.out.far (p := ⟨gG, 0, none⟩) (by have := HGG.out; show gA ≠ gG; omega) _)
             have HBt := hide (show Blk W11 gb 4 (bc (n + 1) B) by rw [hW11]; exact HB10.out.far (p := ⟨gG, 0, none⟩) (by have := HGG.out; have := HGB.out; show gb ≠ gG; omega) _)
             have HOt := hide (show W11.ownsRow Bd 37 4 (.slice A10 (kb + 1) c10) (kb + 1) ((blV (bls B j ++ [((j, 0) : Nat × Nat)]) (fun _ => .slice none 0 0)).flatMap BV.enc) by rw [hW11]; exact ownsRow_setCell_other (a := ⟨gG, 0, none⟩) HO10.out (own_blk_ne HO10.out HG10.out (by decide)) _)
             have HWt := hide (show Below w3.heap.size w3 W11 by rw [hW11]; exact HWR10.out.setCell (p := ⟨gG, 0, none⟩) (by have := HGG.out; have := HGA.out; show w3.heap.size ≤ gG; omega) _)
             have HSt := hide (show Bd ≤ W11.heap.size by rw [hW11]; simpa using HSZ10.out)
             have HW11 := hide hW11
             clear hown10 hg10 hat10 hW11 yg yb))
        rw [← HW11.out]
        clear yf yg2
        obtain ⟨cv, hcv⟩ : ∃ cv, cv = c10 := ⟨_, rfl⟩
        obtain ⟨k1, hk1⟩ : ∃ k1, k1 = kb := ⟨_, rfl⟩
        rw [← hk1, ← hcv] at HGt HOt
        rw [← hk1, ← hcv]
        have HK1 := hide (show k1 ≤ 1000 by rw [hk1, HKB.out]; exact HKN.out j hj)
        have HPL := hide (show (bls B j).length = k1 by rw [hk1]; exact HKB.out.symm)
        have HPX := hide (show bls B (j + 1) = bls B j ++ [(((j, 0) : Nat × Nat).1, j + 1)] from bls_new HBJ.out)
        have HAT := hide (show atB B j = k1 by unfold atB; rw [HPX.out, ← HPL.out]; simp)
        clear hk1 hcv
        obtain ⟨gv, rfl, hkc, hgvB, cur, hgv⟩ := own_some HOt.out (by omega)
        have HGV := hide (And.intro hkc hgvB)
        have q1 : IntKind.i64.wrap (((k1 + 1 : Nat) : Int) - 1) = (k1 : Int) := by rw [show ((k1 + 1 : Nat) : Int) - 1 = (k1 : Int) by omega]; exact IntWalk.i64_in _ (by have := HK1.out; omega)
        have q2 : IntKind.i64.wrap ((k1 : Int) + 1 - 1) = (k1 : Int) := by rw [show (k1 : Int) + 1 - 1 = (k1 : Int) by omega]; exact IntWalk.i64_in _ (by have := HK1.out; omega)
        have q3 : IntKind.i64.wrap (k1 : Int) = (k1 : Int) := IntWalk.i64_in _ (by have := HK1.out; omega)
        have z0 : W11.cell? ⟨gG, 0, none⟩ = some (.slice (some ⟨gv, 0, none⟩) (k1 + 1) cv) := HGt.out.cell 0
        have z1 : W11.cell? ⟨gG, 1, none⟩ = some (.slice (some ⟨gA, 0, none⟩) n n) := HGt.out.cell 1
        have za : W11.cell? ⟨gA, j, none⟩ = some (.int .i64 (((if j < j then atB B j else 0) : Nat) : Int)) := (HAt.out.cell j).trans (ic_at _ hlt)
        rw [if_neg (Nat.lt_irrefl j)] at za
        have fa := HAt.out.frozen j
        obtain ⟨W8, hW8⟩ : ∃ W8, W8 = W11.setCell ⟨gA, j, none⟩ (.int .i64 (k1 : Int)) := ⟨_, rfl⟩
        have hG8 : Blk W8 gG 34 (grA (.slice (some ⟨gv, 0, none⟩) (k1 + 1) cv) (.slice (some ⟨gA, 0, none⟩) n n) (.slice none 0 0)) := by rw [hW8]; exact HGt.out.far (p := ⟨gA, j, none⟩) (by have := HGG.out; show gG ≠ gA; omega) _
        have HA8 := hide (show Blk W8 gA 3 (ic n (fun q => if q < j + 1 then atB B q else 0)) by
          have h := HAt.out.set_ j (.int .i64 (k1 : Int))
          rw [ic_set] at h
          rw [hW8]
          rw [show (fun q => if q < j + 1 then atB B q else 0) = (fun q => if q = j then k1 else if q < j then atB B q else 0) from funext fun q => by
            by_cases e : q = j
            · subst e
              rw [if_pos (Nat.lt_succ_self q), if_pos rfl, HAT.out]
            · rw [if_neg e]
              by_cases e2 : q < j
              · rw [if_pos e2, if_pos (by omega)]
              · rw [if_neg e2, if_neg (by omega)]]
          exact h)
        have hB8 : Blk W8 gb 4 (bc (n + 1) B) := by rw [hW8]; exact HBt.out.far (p := ⟨gA, j, none⟩) (by have := HGG.out; have := HGB.out; show gb ≠ gA; omega) _
        have hO8 : W8.ownsRow Bd 37 4 (.slice (some ⟨gv, 0, none⟩) (k1 + 1) cv) (k1 + 1) ((blV ((bls B j) ++ [((j, 0) : Nat × Nat)]) (fun _ => .slice none 0 0)).flatMap BV.enc) := by rw [hW8]; exact ownsRow_setCell_other (a := ⟨gA, j, none⟩) HOt.out (own_blk_ne HOt.out HAt.out (by decide)) _
        have hWR8 : Below w3.heap.size w3 W8 := by rw [hW8]; exact HWt.out.setCell (p := ⟨gA, j, none⟩) (by rw [HGA.out]; exact Nat.le_refl _) _
        have hS8 : Bd ≤ W8.heap.size := by rw [hW8]; simpa using HSt.out
        have HW8 := hide hW8
        have HS8 := hide (And.intro hG8 (And.intro hB8 (And.intro hO8 (And.intro hWR8 hS8))))
        have k2 : (0 : Int) ≤ (k1 : Int) := by omega
        have k3 : (k1 : Int) < (k1 : Int) + 1 := by omega
        have k4 : (k1 : Int) < ((k1 + 1 : Nat) : Int) := by omega
        clear hW8 hG8 hB8 hO8 hWR8 hS8 hkc hgvB hgv
        go_upto_region 12 with (fail)
        rw [← HW8.out]
        clear z0 z1 za fa
        have z0 : W8.cell? ⟨gG, 0, none⟩ = some (.slice (some ⟨gv, 0, none⟩) (k1 + 1) cv) := HS8.out.1.cell 0
        have zt : W8.cell? ⟨gv, k1 * 4 + 1, none⟩ = some (.int .i64 (((j, 0) : Nat × Nat).2 : Int)) := by
          have h := HS8.out.2.2.1.cells (g := gv) rfl (k1 * 4 + 1) (.int .i64 (((j, 0) : Nat × Nat).2 : Int)) (flat_atR BV.enc_length _ k1 ⟨(((j, 0) : Nat × Nat).1 : Int), (((j, 0) : Nat × Nat).2 : Int), .slice none 0 0, .slice none 0 0⟩ (by rw [← HPL.out]; exact blV_at _ (snoc_last (bls B j) ((j, 0) : Nat × Nat))) 1 _ rfl)
          rw [Addr.add_lit, Nat.zero_add] at h
          exact h
        obtain ⟨gv', hgv', _, _, cur', hcur'⟩ := own_some HS8.out.2.2.1 (by omega)
        have hgve : gv = gv' := by injection hgv' with h; injection h
        subst hgve
        have ft := hcur'.frozen (k1 * 4 + 1)
        obtain ⟨W9, hW9⟩ : ∃ W9, W9 = W8.setCell ⟨gv, k1 * 4 + 1, none⟩ (.int .i64 (jn : Int)) := ⟨_, rfl⟩
        have HG9 := hide (show Blk W9 gG 34 (grA (.slice (some ⟨gv, 0, none⟩) (k1 + 1) cv) (.slice (some ⟨gA, 0, none⟩) n n) (.slice none 0 0)) by rw [hW9]; exact HS8.out.1.far (p := ⟨gv, k1 * 4 + 1, none⟩) (by have := own_blk_ne HS8.out.2.2.1 HS8.out.1 (by decide); intro e; exact this (by rw [e]; rfl)) _)
        have HA9 := hide (show Blk W9 gA 3 (ic n (fun q => if q < j + 1 then atB B q else 0)) by rw [hW9]; exact HA8.out.far (p := ⟨gv, k1 * 4 + 1, none⟩) (by have := own_blk_ne HS8.out.2.2.1 HA8.out (by decide); intro e; exact this (by rw [e]; rfl)) _)
        have HB9 := hide (show Blk W9 gb 4 (bc (n + 1) B) by rw [hW9]; exact HS8.out.2.1.far (p := ⟨gv, k1 * 4 + 1, none⟩) (by have := own_blk_ne HS8.out.2.2.1 HS8.out.2.1 (by decide); intro e; exact this (by rw [e]; rfl)) _)
        have HO9 := hide (show W9.ownsRow Bd 37 4 (.slice (some ⟨gv, 0, none⟩) (k1 + 1) cv) (k1 + 1) ((blV (bls B (j + 1)) (fun _ => .slice none 0 0)).flatMap BV.enc) by
          have h := own_set (q := k1 * 4 + 1) HS8.out.2.2.1 (.int .i64 (jn : Int))
          rw [← HPL.out, HJN.out] at h
          rw [show (((bls B j).length : Nat) : Nat) = (bls B j).length from rfl, blV_to, ← HPX.out] at h
          rw [hW9, HJN.out, ← HPL.out]
          exact h)
        have HWR9 := hide (show Below w3.heap.size w3 W9 by rw [hW9]; exact HS8.out.2.2.2.1.setCell (p := ⟨gv, k1 * 4 + 1, none⟩) (by have := HGV.out.2; have := HBD.out; have := HW6.out.size; show w3.heap.size ≤ gv; omega) _)
        have HS9 := hide (show Bd ≤ W9.heap.size by rw [hW9]; simpa using HS8.out.2.2.2.2)
        have HW9 := hide hW9
        clear hW9 hcur'
        go_upto_region 13 with (fail)
        rw [← HW9.out]
        clear z0 zt ft
        go_wp2_with fail
        go_roundw
        case rel =>
          refine ⟨j + 1, some ⟨gv, 0, none⟩, k1 + 1, cv, by omega, by rw [HJN.out], hide (by rw [HPX.out]; simp [HPL.out]), HG9, HA9, HB9, HO9, HWR9, HS9⟩
        case measure => rw [HJN.out]; simp [intOf]; omega
      | false =>
        rw [hbj] at yb
        have hj0 : 0 < j := by
          rcases Nat.eq_zero_or_pos j with e | e
          · rw [e, HB0.out] at hbj; cases hbj
          · exact e
        obtain ⟨j', hj'⟩ : ∃ j', j = j' + 1 := ⟨j - 1, by omega⟩
        obtain ⟨P, X, hPX⟩ := bls_snoc HB0.out j'
        rw [← hj'] at hPX
        obtain ⟨k1, hk1⟩ : ∃ k1, k1 = P.length := ⟨_, rfl⟩
        have hkb : kb = k1 + 1 := by rw [HKB.out, hPX, hk1]; simp
        have HKB' := hide (HKN.out j hj)
        subst hkb
        obtain ⟨cv, hcv⟩ : ∃ cv, cv = cb := ⟨_, rfl⟩
        have HGt := HG
        have HAt := HA
        have HBt := HB
        have HOt := HO
        rw [hPX] at HOt
        have HWt := HWR
        have HSt := HS
        rw [← hcv] at HGt HOt
        have HK1 := hide (show k1 ≤ 1000 by have := HKB'.out; rw [hPX, List.length_append, ← hk1] at this; omega)
        have HPL := hide (show P.length = k1 from hk1.symm)
        have HPX := hide (show bls B (j + 1) = P ++ [(X.1, j + 1)] from bls_more (by rw [hbj]; decide) hPX)
        have HAT := hide (show atB B j = k1 by unfold atB; rw [HPX.out, ← HPL.out]; simp)
        clear hk1 hcv hPX hj' hj0 hbj HKB' HKB HG HA HB HO HWR HS
        go_upto_region 10 with (fail)
        obtain ⟨gv, rfl, hkc, hgvB, cur, hgv⟩ := own_some HOt.out (by omega)
        have HGV := hide (And.intro hkc hgvB)
        have q1 : IntKind.i64.wrap (((k1 + 1 : Nat) : Int) - 1) = (k1 : Int) := by rw [show ((k1 + 1 : Nat) : Int) - 1 = (k1 : Int) by omega]; exact IntWalk.i64_in _ (by have := HK1.out; omega)
        have q2 : IntKind.i64.wrap ((k1 : Int) + 1 - 1) = (k1 : Int) := by rw [show (k1 : Int) + 1 - 1 = (k1 : Int) by omega]; exact IntWalk.i64_in _ (by have := HK1.out; omega)
        have q3 : IntKind.i64.wrap (k1 : Int) = (k1 : Int) := IntWalk.i64_in _ (by have := HK1.out; omega)
        have z0 : wr.cell? ⟨gG, 0, none⟩ = some (.slice (some ⟨gv, 0, none⟩) (k1 + 1) cv) := HGt.out.cell 0
        have z1 : wr.cell? ⟨gG, 1, none⟩ = some (.slice (some ⟨gA, 0, none⟩) n n) := HGt.out.cell 1
        have za : wr.cell? ⟨gA, j, none⟩ = some (.int .i64 (((if j < j then atB B j else 0) : Nat) : Int)) := (HAt.out.cell j).trans (ic_at _ hlt)
        rw [if_neg (Nat.lt_irrefl j)] at za
        have fa := HAt.out.frozen j
        obtain ⟨W8, hW8⟩ : ∃ W8, W8 = wr.setCell ⟨gA, j, none⟩ (.int .i64 (k1 : Int)) := ⟨_, rfl⟩
        have hG8 : Blk W8 gG 34 (grA (.slice (some ⟨gv, 0, none⟩) (k1 + 1) cv) (.slice (some ⟨gA, 0, none⟩) n n) (.slice none 0 0)) := by rw [hW8]; exact HGt.out.far (p := ⟨gA, j, none⟩) (by have := HGG.out; show gG ≠ gA; omega) _
        have HA8 := hide (show Blk W8 gA 3 (ic n (fun q => if q < j + 1 then atB B q else 0)) by
          have h := HAt.out.set_ j (.int .i64 (k1 : Int))
          rw [ic_set] at h
          rw [hW8]
          rw [show (fun q => if q < j + 1 then atB B q else 0) = (fun q => if q = j then k1 else if q < j then atB B q else 0) from funext fun q => by
            by_cases e : q = j
            · subst e
              rw [if_pos (Nat.lt_succ_self q), if_pos rfl, HAT.out]
            · rw [if_neg e]
              by_cases e2 : q < j
              · rw [if_pos e2, if_pos (by omega)]
              · rw [if_neg e2, if_neg (by omega)]]
          exact h)
        have hB8 : Blk W8 gb 4 (bc (n + 1) B) := by rw [hW8]; exact HBt.out.far (p := ⟨gA, j, none⟩) (by have := HGG.out; have := HGB.out; show gb ≠ gA; omega) _
        have hO8 : W8.ownsRow Bd 37 4 (.slice (some ⟨gv, 0, none⟩) (k1 + 1) cv) (k1 + 1) ((blV (P ++ [X]) (fun _ => .slice none 0 0)).flatMap BV.enc) := by rw [hW8]; exact ownsRow_setCell_other (a := ⟨gA, j, none⟩) HOt.out (own_blk_ne HOt.out HAt.out (by decide)) _
        have hWR8 : Below w3.heap.size w3 W8 := by rw [hW8]; exact HWt.out.setCell (p := ⟨gA, j, none⟩) (by rw [HGA.out]; exact Nat.le_refl _) _
        have hS8 : Bd ≤ W8.heap.size := by rw [hW8]; simpa using HSt.out
        have HW8 := hide hW8
        have HS8 := hide (And.intro hG8 (And.intro hB8 (And.intro hO8 (And.intro hWR8 hS8))))
        have k2 : (0 : Int) ≤ (k1 : Int) := by omega
        have k3 : (k1 : Int) < (k1 : Int) + 1 := by omega
        have k4 : (k1 : Int) < ((k1 + 1 : Nat) : Int) := by omega
        clear hW8 hG8 hB8 hO8 hWR8 hS8 hkc hgvB hgv
        go_upto_region 12 with (fail)
        rw [← HW8.out]
        clear z0 z1 za fa
        have z0 : W8.cell? ⟨gG, 0, none⟩ = some (.slice (some ⟨gv, 0, none⟩) (k1 + 1) cv) := HS8.out.1.cell 0
        have zt : W8.cell? ⟨gv, k1 * 4 + 1, none⟩ = some (.int .i64 (X.2 : Int)) := by
          have h := HS8.out.2.2.1.cells (g := gv) rfl (k1 * 4 + 1) (.int .i64 (X.2 : Int)) (flat_atR BV.enc_length _ k1 ⟨(X.1 : Int), (X.2 : Int), .slice none 0 0, .slice none 0 0⟩ (by rw [← HPL.out]; exact blV_at _ (snoc_last P X)) 1 _ rfl)
          rw [Addr.add_lit, Nat.zero_add] at h
          exact h
        obtain ⟨gv', hgv', _, _, cur', hcur'⟩ := own_some HS8.out.2.2.1 (by omega)
        have hgve : gv = gv' := by injection hgv' with h; injection h
        subst hgve
        have ft := hcur'.frozen (k1 * 4 + 1)
        obtain ⟨W9, hW9⟩ : ∃ W9, W9 = W8.setCell ⟨gv, k1 * 4 + 1, none⟩ (.int .i64 (jn : Int)) := ⟨_, rfl⟩
        have HG9 := hide (show Blk W9 gG 34 (grA (.slice (some ⟨gv, 0, none⟩) (k1 + 1) cv) (.slice (some ⟨gA, 0, none⟩) n n) (.slice none 0 0)) by rw [hW9]; exact HS8.out.1.far (p := ⟨gv, k1 * 4 + 1, none⟩) (by have := own_blk_ne HS8.out.2.2.1 HS8.out.1 (by decide); intro e; exact this (by rw [e]; rfl)) _)
        have HA9 := hide (show Blk W9 gA 3 (ic n (fun q => if q < j + 1 then atB B q else 0)) by rw [hW9]; exact HA8.out.far (p := ⟨gv, k1 * 4 + 1, none⟩) (by have := own_blk_ne HS8.out.2.2.1 HA8.out (by decide); intro e; exact this (by rw [e]; rfl)) _)
        have HB9 := hide (show Blk W9 gb 4 (bc (n + 1) B) by rw [hW9]; exact HS8.out.2.1.far (p := ⟨gv, k1 * 4 + 1, none⟩) (by have := own_blk_ne HS8.out.2.2.1 HS8.out.2.1 (by decide); intro e; exact this (by rw [e]; rfl)) _)
        have HO9 := hide (show W9.ownsRow Bd 37 4 (.slice (some ⟨gv, 0, none⟩) (k1 + 1) cv) (k1 + 1) ((blV (bls B (j + 1)) (fun _ => .slice none 0 0)).flatMap BV.enc) by
          have h := own_set (q := k1 * 4 + 1) HS8.out.2.2.1 (.int .i64 (jn : Int))
          rw [← HPL.out, HJN.out] at h
          rw [show ((P.length : Nat) : Nat) = P.length from rfl, blV_to, ← HPX.out] at h
          rw [hW9, HJN.out, ← HPL.out]
          exact h)
        have HWR9 := hide (show Below w3.heap.size w3 W9 by rw [hW9]; exact HS8.out.2.2.2.1.setCell (p := ⟨gv, k1 * 4 + 1, none⟩) (by have := HGV.out.2; have := HBD.out; have := HW6.out.size; show w3.heap.size ≤ gv; omega) _)
        have HS9 := hide (show Bd ≤ W9.heap.size by rw [hW9]; simpa using HS8.out.2.2.2.2)
        have HW9 := hide hW9
        clear hW9 hcur'
        go_upto_region 13 with (fail)
        rw [← HW9.out]
        clear z0 zt ft
        go_wp2_with fail
        go_roundw
        case rel =>
          refine ⟨j + 1, some ⟨gv, 0, none⟩, k1 + 1, cv, by omega, by rw [HJN.out], hide (by rw [HPX.out]; simp [HPL.out]), HG9, HA9, HB9, HO9, HWR9, HS9⟩
        case measure => rw [HJN.out]; simp [intOf]; omega
    · have hjn : n = j := by omega
      subst hjn
      have j1 : ¬ (n : Int) < (n : Int) := by omega
      have yg : wr.cell? ⟨gG, 0, none⟩ = some (.slice Ab kb cb) := HG.out.cell 0
      have hkb0 : 0 < kb := by
        obtain ⟨m', hm'⟩ : ∃ m', n = m' + 1 := ⟨n - 1, by have := HN.out; omega⟩
        rw [HKB.out, hm']
        exact bls_pos HB0.out m'
      obtain ⟨gv, rfl, hkc, hgvB, cur, hgv⟩ := own_some HO.out hkb0
      have hgvl : gv < wr.heap.size := hgv.lt
      have hAt : ic n (fun q => if q < n then atB B q else 0) = ic n (atB B) := ic_congr fun q hq => if_pos hq
      have HAe := HA
      rw [hAt] at HAe
      have HOKB := hide (show BlsOk B n (bls B n) by
        obtain ⟨m', hm'⟩ : ∃ m', n = m' + 1 := ⟨n - 1, by have := HN.out; omega⟩
        rw [hm']
        exact bls_ok HB0.out m')
      have HK0 := hide (And.intro hkb0 (And.intro hkc hgvB))
      obtain ⟨Be, hBe⟩ : ∃ Be, Be = wr.heap.size := ⟨_, rfl⟩
      have HBE := hide (show gA < Be ∧ gG < Be ∧ gv < Be ∧ w3.heap.size ≤ Be ∧ gp + 1 < gA by
        rw [hBe]
        exact ⟨HAe.out.lt, HG.out.lt, hgvl, HWR.out.size, HGG.out.1⟩)
      obtain ⟨NX, hNX⟩ : ∃ NX, NX = nxB code B := ⟨_, rfl⟩
      have HNX := hide hNX
      have HNXL := hide (show ∀ k, (NX k).length ≤ 102 by intro k; rw [hNX]; exact nxB_len HL.out B k)
      have HNXB := hide (show ∀ k, ∀ y ∈ NX k, y < kb by intro k y hy; rw [hNX] at hy; rw [HKB.out]; have := nxB_lt HGD.out HB0.out k y hy; rw [← HN.out.1] at this; exact this)
      have HF0 := hide (Fam.start wr Be (2 * kb))
      have HBe2 := hide (show Be ≤ wr.heap.size from Nat.le_of_eq hBe)
      clear hlt hj hkb0 hkc hgvB hgvl hgv hAt hBe hNX HA HS
      go_upto_region 15 with (fail)
      clear yg j1
      have HGs := HG
      have HOs := HO
      have HWs := HWR
      clear HG HO HWR
      go_loopw [61] (fun kk wr => ∃ (k : Nat) (R : Nat → Value) (RL : Nat → List Int), k ≤ kb ∧ kk = .int .i64 (k : Int) ∧ Hid (RL = rowsU NX k) ∧ Hid (Fam wr Be (2 * kb) R RL) ∧ Hid (Blk wr gG 34 (grA (.slice (some ⟨gv, 0, none⟩) kb cb) (.slice (some ⟨gA, 0, none⟩) n n) (.slice none 0 0))) ∧ Hid (Blk wr gA 3 (ic n (atB B))) ∧ Hid (wr.ownsRow Bd 37 4 (.slice (some ⟨gv, 0, none⟩) kb cb) kb ((blV (bls B n) R).flatMap BV.enc)) ∧ Hid (Below w3.heap.size w3 wr) ∧ Hid (Be ≤ wr.heap.size)) (fun kk _ => kb - (intOf kk).toNat)
      case atStart => exact ⟨0, fun _ => .slice none 0 0, fun _ => [], Nat.zero_le _, rfl, hide rfl, HF0, HGs, HAe, HOs, HWs, HBe2⟩
      case round =>
        clear HF0 HBe2 HGs HAe HOs HWs
        obtain ⟨k, R, RL, hk, rfl, HRL, HF, HG, HA, HO, HWR, HS⟩ := hrel
        by_cases hlt : k < kb
        · have i1 : (k : Int) < (kb : Int) := by omega
          have i2 : (0 : Int) ≤ (k : Int) := by omega
          have q9 : IntKind.i64.wrap ((k : Int) + 1) = ((k + 1 : Nat) : Int) := by rw [IntWalk.i64_in _ (by have := HKN.out n (Nat.le_refl _); have := HKB.out; omega)]; omega
          obtain ⟨kn, hkn⟩ : ∃ kn, kn = k + 1 := ⟨_, rfl⟩
          rw [← hkn] at q9
          have HKN1 := hide hkn
          obtain ⟨x, hx⟩ : ∃ x, (bls B n)[k]? = some x := ⟨_, List.getElem?_eq_getElem (by rw [← HKB.out]; exact hlt)⟩
          have hxl := HOKB.out.lt k x hx
          obtain ⟨te, hte⟩ : ∃ te, x.2 = te + 1 := ⟨x.2 - 1, by omega⟩
          have hten : te < n := by omega
          have hbw : Below W1.heap.size W1 wr := HB1W.out.trans (HWR.out.mono HB1W.out.size)
          obtain ⟨b0, of, y, hAc, hbl, hy, hcells⟩ := RowAt.at_ (show RowAt 22 IV.enc wr (.slice Ac n cc) code by rw [← HCV.out]; exact HOK.out.cv.below hbw (Nat.le_refl _)) (i := te) (by have := HN.out; omega)
          subst hAc
          have HCE := hide (show wr.rangeAt b0 (of + te * 22) (IV.enc y) from hcells)
          obtain ⟨V, hV⟩ : ∃ V, V = Ins.val y.i y.av y.rv := ⟨_, rfl⟩
          have HVE := hide (show V = .agg (IV.enc y).toArray from hV)
          have HLX := hide (HL.out y (List.mem_of_getElem? hy))
          have HNC := hide (next_any y.i y.av y.rv (te : Int) wr.drew ((HOK.out.ok y (List.mem_of_getElem? hy)).below (show Below W1.heap.size W1 wr.drew from hbw.drew) (Nat.le_refl _)) (by have := HLX.out; omega))
          rw [← hV] at HNC
          obtain ⟨L, hL⟩ : ∃ L, L = nextI y.i (te : Int) := ⟨_, rfl⟩
          rw [← hL] at HNC
          have HLL := hide (show L.length ≤ 200 by rw [hL]; have := nextI_len y.i (te : Int); have := HLX.out; omega)
          have HLN := hide (show NX k = L.map (fun q => atB B q.toNat) by
            have h := nxB_eq (code := code) (B := B) (k := k) (x := x) (y := y) (by rw [← HN.out.1]; exact hx) (by rw [hte]; exact hy)
            rw [hte] at h
            rw [HNX.out, h, hL]
            rfl)
          have HLB := hide (show ∀ q ∈ L, 0 ≤ q ∧ q < (n : Int) by rw [hL, HN.out.1]; exact HED.out te y hy)
          have y6 : wr.cell? ⟨gp, 6, none⟩ = some (.slice (some ⟨b0, of, none⟩) n cc) := by rw [← HCV.out]; exact (HBP3.out.below HWR.out HBP3.out.lt).cell 6
          have yg : wr.cell? ⟨gG, 0, none⟩ = some (.slice (some ⟨gv, 0, none⟩) kb cb) := HG.out.cell 0
          have yt : wr.cell? ⟨gv, k * 4 + 1, none⟩ = some (.int .i64 ((te + 1 : Nat) : Int)) := by
            have h := HO.out.cells (g := gv) rfl (k * 4 + 1) (.int .i64 (x.2 : Int)) (flat_atR BV.enc_length _ k ⟨(x.1 : Int), (x.2 : Int), R (2 * k), R (2 * k + 1)⟩ (blV_at _ hx) 1 _ rfl)
            rw [Addr.add_lit, Nat.zero_add, hte] at h
            exact h
          have p1 : (te : Int) < (n : Int) := by omega
          have p2 : (0 : Int) ≤ (te : Int) := by omega
          have q1 : IntKind.i64.wrap (((te + 1 : Nat) : Int) - 1) = (te : Int) := by rw [show ((te + 1 : Nat) : Int) - 1 = (te : Int) by omega]; exact IntWalk.i64_in _ (by have := HN.out; omega)
          have q2 : IntKind.i64.wrap ((te : Int) + 1 - 1) = (te : Int) := by rw [show (te : Int) + 1 - 1 = (te : Int) by omega]; exact IntWalk.i64_in _ (by have := HN.out; omega)
          have q3 : IntKind.i64.wrap (te : Int) = (te : Int) := IntWalk.i64_in _ (by have := HN.out; omega)
          have hS0 : wr.cell? ⟨gp, 6, none⟩ = some (.slice (some ⟨b0, of, none⟩) n cc) ∧ wr.cell? ⟨gv, k * 4 + 1, none⟩ = some (.int .i64 ((te + 1 : Nat) : Int)) ∧ wr.rangeAt b0 (of + te * 22) (IV.enc y) := ⟨y6, yt, HCE.out⟩
          have HX := hide hx
          clear hx hxl hten hbw hbl hy hcells hV hL hte hkn
          go_upto_region 17 with (fail)
          go_upto_region 18 with (fail)
          clear yg
          clear y6 yt
          refine wp_region_tail 99 (fun w' => w'.cell? ⟨gp, 6, none⟩ = some (.slice (some ⟨b0, of, none⟩) n cc) ∧ w'.cell? ⟨gv, k * 4 + 1, none⟩ = some (.int .i64 ((te + 1 : Nat) : Int)) ∧ w'.rangeAt b0 (of + te * 22) (IV.enc y)) (by kernel_rfl) hS0 (fun hHeld => ?_)
          try simp only [Act.put, List.setIfInBounds_toArray, List.set_cons_zero, List.set_cons_succ]
          refine' wpTail_take (i := 0) (oi := _) ?hin5001 ?hsn5001 ?hfn5001 ?hrn5001 ?hzn5001 ?hQn5001 (v := _) (Or.inl ⟨?hwn5001, ?hyn5001⟩) (by assumption) ?_
          case hin5001 => (simp only [List.getElem?_toArray, List.getElem?_cons_zero]; exact rfl)
          case hsn5001 => kernel_rfl
          case hfn5001 => kernel_rfl
          case hrn5001 => kernel_rfl
          case hzn5001 => kernel_rfl
          case hQn5001 => exact fun _ _ _ h => h
          case hwn5001 => rfl
          case hyn5001 => (intro W0 hSw; (try dsimp only at hSw); go_simp; (try with_reducible rfl))
          try simp only [Act.put, List.setIfInBounds_toArray, List.set_cons_zero, List.set_cons_succ]
          refine' wpTail_take (i := 1) (oi := _) ?hin5002 ?hsn5002 ?hfn5002 ?hrn5002 ?hzn5002 ?hQn5002 (v := _) (Or.inl ⟨?hwn5002, ?hyn5002⟩) (by assumption) ?_
          case hin5002 => (simp only [List.getElem?_toArray, List.getElem?_cons_succ, List.getElem?_cons_zero]; exact rfl)
          case hsn5002 => kernel_rfl
          case hfn5002 => kernel_rfl
          case hrn5002 => kernel_rfl
          case hzn5002 => kernel_rfl
          case hQn5002 => exact fun _ _ _ h => h
          case hwn5002 => rfl
          case hyn5002 => (intro W0 hSw; (try dsimp only at hSw); have u0 : W0.cell? ⟨gp, 6, none⟩ = some (.slice (some ⟨b0, of, none⟩) n cc) := hSw.1; go_simp; (try with_reducible rfl))
          try simp only [Act.put, List.setIfInBounds_toArray, List.set_cons_zero, List.set_cons_succ]
          refine' wpTail_take (i := 2) (oi := _) ?hin5003 ?hsn5003 ?hfn5003 ?hrn5003 ?hzn5003 ?hQn5003 (v := _) (Or.inl ⟨?hwn5003, ?hyn5003⟩) (by assumption) ?_
          case hin5003 => (simp only [List.getElem?_toArray, List.getElem?_cons_succ, List.getElem?_cons_zero]; exact rfl)
          case hsn5003 => kernel_rfl
          case hfn5003 => kernel_rfl
          case hrn5003 => kernel_rfl
          case hzn5003 => kernel_rfl
          case hQn5003 => exact fun _ _ _ h => h
          case hwn5003 => rfl
          case hyn5003 => (intro W0 hSw; (try dsimp only at hSw); go_simp; (try with_reducible rfl))
          try simp only [Act.put, List.setIfInBounds_toArray, List.set_cons_zero, List.set_cons_succ]
          refine' wpTail_take (i := 3) (oi := _) ?hin5004 ?hsn5004 ?hfn5004 ?hrn5004 ?hzn5004 ?hQn5004 (v := _) (Or.inl ⟨?hwn5004, ?hyn5004⟩) (by assumption) ?_
          case hin5004 => (simp only [List.getElem?_toArray, List.getElem?_cons_succ, List.getElem?_cons_zero]; exact rfl)
          case hsn5004 => kernel_rfl
          case hfn5004 => kernel_rfl
          case hrn5004 => kernel_rfl
          case hzn5004 => kernel_rfl
          case hQn5004 => exact fun _ _ _ h => h
          case hwn5004 => rfl
          case hyn5004 => (intro W0 hSw; (try dsimp only at hSw); go_simp; (try with_reducible rfl))
          try simp only [Act.put, List.setIfInBounds_toArray, List.set_cons_zero, List.set_cons_succ]
          refine' wpTail_take (i := 4) (oi := _) ?hin5005 ?hsn5005 ?hfn5005 ?hrn5005 ?hzn5005 ?hQn5005 (v := _) (Or.inl ⟨?hwn5005, ?hyn5005⟩) (by assumption) ?_
          case hin5005 => (simp only [List.getElem?_toArray, List.getElem?_cons_succ, List.getElem?_cons_zero]; exact rfl)
          case hsn5005 => kernel_rfl
          case hfn5005 => kernel_rfl
          case hrn5005 => kernel_rfl
          case hzn5005 => kernel_rfl
          case hQn5005 => exact fun _ _ _ h => h
          case hwn5005 => rfl
          case hyn5005 => (intro W0 hSw; (try dsimp only at hSw); go_simp; (try with_reducible rfl))
          try simp only [Act.put, List.setIfInBounds_toArray, List.set_cons_zero, List.set_cons_succ]
          refine' wpTail_take (i := 5) (oi := _) ?hin5006 ?hsn5006 ?hfn5006 ?hrn5006 ?hzn5006 ?hQn5006 (v := _) (Or.inl ⟨?hwn5006, ?hyn5006⟩) (by assumption) ?_
          case hin5006 => (simp only [List.getElem?_toArray, List.getElem?_cons_succ, List.getElem?_cons_zero]; exact rfl)
          case hsn5006 => kernel_rfl
          case hfn5006 => kernel_rfl
          case hrn5006 => kernel_rfl
          case hzn5006 => kernel_rfl
          case hQn5006 => exact fun _ _ _ h => h
          case hwn5006 => rfl
          case hyn5006 => (intro W0 hSw; (try dsimp only at hSw); have u0 : W0.cell? ⟨gv, k * 4 + 1, none⟩ = some (.int .i64 ((te + 1 : Nat) : Int)) := hSw.2.1; go_simp; (try with_reducible rfl))
          try simp only [Act.put, List.setIfInBounds_toArray, List.set_cons_zero, List.set_cons_succ]
          refine' wpTail_take (i := 6) (oi := _) ?hin5007 ?hsn5007 ?hfn5007 ?hrn5007 ?hzn5007 ?hQn5007 (v := _) (Or.inl ⟨?hwn5007, ?hyn5007⟩) (by assumption) ?_
          case hin5007 => (simp only [List.getElem?_toArray, List.getElem?_cons_succ, List.getElem?_cons_zero]; exact rfl)
          case hsn5007 => kernel_rfl
          case hfn5007 => kernel_rfl
          case hrn5007 => kernel_rfl
          case hzn5007 => kernel_rfl
          case hQn5007 => exact fun _ _ _ h => h
          case hwn5007 => rfl
          case hyn5007 => (intro W0 hSw; (try dsimp only at hSw); go_simp; (try with_reducible rfl))
          try simp only [Act.put, List.setIfInBounds_toArray, List.set_cons_zero, List.set_cons_succ]
          refine' wpTail_take (i := 7) (oi := _) ?hin5008 ?hsn5008 ?hfn5008 ?hrn5008 ?hzn5008 ?hQn5008 (v := _) (Or.inl ⟨?hwn5008, ?hyn5008⟩) (by assumption) ?_
          case hin5008 => (simp only [List.getElem?_toArray, List.getElem?_cons_succ, List.getElem?_cons_zero]; exact rfl)
          case hsn5008 => kernel_rfl
          case hfn5008 => kernel_rfl
          case hrn5008 => kernel_rfl
          case hzn5008 => kernel_rfl
          case hQn5008 => exact fun _ _ _ h => h
          case hwn5008 => rfl
          case hyn5008 => (intro W0 hSw; (try dsimp only at hSw); go_simp; (try with_reducible rfl))
          try simp only [Act.put, List.setIfInBounds_toArray, List.set_cons_zero, List.set_cons_succ]
          refine' wpTail_take (i := 8) (oi := _) ?hin5009 ?hsn5009 ?hfn5009 ?hrn5009 ?hzn5009 ?hQn5009 (v := V) ?hyn5009 (by assumption) ?_
          case hin5009 => (simp only [List.getElem?_toArray, List.getElem?_cons_succ, List.getElem?_cons_zero]; exact rfl)
          case hsn5009 => kernel_rfl
          case hfn5009 => kernel_rfl
          case hrn5009 => kernel_rfl
          case hzn5009 => kernel_rfl
          case hQn5009 => exact fun _ _ _ h => h
          case hyn5009 => (rw [HVE.out]; exact yieldsIf_load_mid rfl 45 (.tmp 75) rfl b0 (of + te * 22) rfl (IV.enc y) _ (fun W0 hSw => hSw.2.2) Try.underlying45 rfl ins_size)
          try simp only [Act.put, List.setIfInBounds_toArray, List.set_cons_zero, List.set_cons_succ]
          refine' wpTail_take (i := 9) (oi := _) ?hin5010 ?hsn5010 ?hfn5010 ?hrn5010 ?hzn5010 ?hQn5010 (v := _) (Or.inl ⟨?hwn5010, ?hyn5010⟩) (by assumption) ?_
          case hin5010 => (simp only [List.getElem?_toArray, List.getElem?_cons_succ, List.getElem?_cons_zero]; exact rfl)
          case hsn5010 => kernel_rfl
          case hfn5010 => kernel_rfl
          case hrn5010 => kernel_rfl
          case hzn5010 => kernel_rfl
          case hQn5010 => exact fun _ _ _ h => h
          case hwn5010 => rfl
          case hyn5010 => (intro W0 hSw; (try dsimp only at hSw); go_simp; (try with_reducible rfl))
          try simp only [Act.put, List.setIfInBounds_toArray, List.set_cons_zero, List.set_cons_succ]
          refine' wpTail_take (i := 10) (oi := _) ?hin5011 ?hsn5011 ?hfn5011 ?hrn5011 ?hzn5011 ?hQn5011 (v := _) (Or.inl ⟨?hwn5011, ?hyn5011⟩) (by assumption) ?_
          case hin5011 => (simp only [List.getElem?_toArray, List.getElem?_cons_succ, List.getElem?_cons_zero]; exact rfl)
          case hsn5011 => kernel_rfl
          case hfn5011 => kernel_rfl
          case hrn5011 => kernel_rfl
          case hzn5011 => kernel_rfl
          case hQn5011 => exact fun _ _ _ h => h
          case hwn5011 => rfl
          case hyn5011 => (intro W0 hSw; (try dsimp only at hSw); go_simp; (try with_reducible rfl))
          try simp only [Act.put, List.setIfInBounds_toArray, List.set_cons_zero, List.set_cons_succ]
          refine' wpTail_take (i := 11) (oi := _) ?hin5012 ?hsn5012 ?hfn5012 ?hrn5012 ?hzn5012 ?hQn5012 (v := _) (Or.inl ⟨?hwn5012, ?hyn5012⟩) (by assumption) ?_
          case hin5012 => (simp only [List.getElem?_toArray, List.getElem?_cons_succ, List.getElem?_cons_zero]; exact rfl)
          case hsn5012 => kernel_rfl
          case hfn5012 => kernel_rfl
          case hrn5012 => kernel_rfl
          case hzn5012 => kernel_rfl
          case hQn5012 => exact fun _ _ _ h => h
          case hwn5012 => rfl
          case hyn5012 => (intro W0 hSw; (try dsimp only at hSw); go_simp; (try with_reducible rfl))
          try simp only [Act.put, List.setIfInBounds_toArray, List.set_cons_zero, List.set_cons_succ]
          refine' wpTail_take (i := 12) (oi := _) ?hin5013 ?hsn5013 ?hfn5013 ?hrn5013 ?hzn5013 ?hQn5013 (v := _) (Or.inl ⟨?hwn5013, ?hyn5013⟩) (by assumption) ?_
          case hin5013 => (simp only [List.getElem?_toArray, List.getElem?_cons_succ, List.getElem?_cons_zero]; exact rfl)
          case hsn5013 => kernel_rfl
          case hfn5013 => kernel_rfl
          case hrn5013 => kernel_rfl
          case hzn5013 => kernel_rfl
          case hQn5013 => exact fun _ _ _ h => h
          case hwn5013 => rfl
          case hyn5013 => (intro W0 hSw; (try dsimp only at hSw); have u0 : W0.cell? ⟨gv, k * 4 + 1, none⟩ = some (.int .i64 ((te + 1 : Nat) : Int)) := hSw.2.1; go_simp; (try with_reducible rfl))
          try simp only [Act.put, List.setIfInBounds_toArray, List.set_cons_zero, List.set_cons_succ]
          refine' wpTail_take (i := 13) (oi := _) ?hin5014 ?hsn5014 ?hfn5014 ?hrn5014 ?hzn5014 ?hQn5014 (v := _) (Or.inl ⟨?hwn5014, ?hyn5014⟩) (by assumption) ?_
          case hin5014 => (simp only [List.getElem?_toArray, List.getElem?_cons_succ, List.getElem?_cons_zero]; exact rfl)
          case hsn5014 => kernel_rfl
          case hfn5014 => kernel_rfl
          case hrn5014 => kernel_rfl
          case hzn5014 => kernel_rfl
          case hQn5014 => exact fun _ _ _ h => h
          case hwn5014 => rfl
          case hyn5014 => (intro W0 hSw; (try dsimp only at hSw); go_simp; (try with_reducible rfl))
          try simp only [Act.put, List.setIfInBounds_toArray, List.set_cons_zero, List.set_cons_succ]
          refine' wpTail_take (i := 16) (oi := _) ?hin5015 ?hsn5015 ?hfn5015 ?hrn5015 ?hzn5015 ?hQn5015 (v := _) (Or.inl ⟨?hwn5015, ?hyn5015⟩) (by assumption) ?_
          case hin5015 => (simp only [List.getElem?_toArray, List.getElem?_cons_succ, List.getElem?_cons_zero]; exact rfl)
          case hsn5015 => kernel_rfl
          case hfn5015 => kernel_rfl
          case hrn5015 => kernel_rfl
          case hzn5015 => kernel_rfl
          case hQn5015 => exact fun _ _ _ h => h
          case hwn5015 => rfl
          case hyn5015 => (intro W0 hSw; (try dsimp only at hSw); go_simp; (try with_reducible rfl))
          try simp only [Act.put, List.setIfInBounds_toArray, List.set_cons_zero, List.set_cons_succ]
          refine' wpTail_one (i := 14) (o := _) (by kernel_rfl) ?ho5016 ?hw5016 (fun K hK => ?_)
          case ho5016 => (simp only [List.getElem?_toArray, List.getElem?_cons_succ, List.getElem?_cons_zero]; exact rfl)
          case hw5016 => rfl
          go_simp
          refine HNC.out.mono ?_
          rintro e w7 ⟨v7, rfl, hown7, hb7⟩
          obtain ⟨nl, hnl⟩ : ∃ nl, nl = L.length := ⟨_, rfl⟩
          rw [← hnl] at hown7
          have HNL := hide hnl
          clear hnl
          obtain ⟨A7, c7, rfl⟩ := own_formT hown7
          have hb7 : Below wr.heap.size wr w7 := (show Below wr.heap.size wr wr.drew from (Below.refl _ _).drew).trans hb7
          have hS7 : w7.cell? ⟨gp, 6, none⟩ = some (.slice (some ⟨b0, of, none⟩) n cc) ∧ w7.cell? ⟨gv, k * 4 + 1, none⟩ = some (.int .i64 ((te + 1 : Nat) : Int)) ∧ w7.rangeAt b0 (of + te * 22) (IV.enc y) := ⟨(hb7.cell (p := ⟨gp, 6, none⟩) (World.block_lt_of_cell? wr _ hS0.1)).trans hS0.1, (hb7.cell (p := ⟨gv, k * 4 + 1, none⟩) (World.block_lt_of_cell? wr _ hS0.2.1)).trans hS0.2.1, fun j v hv => (hb7.cell (p := ⟨b0, of + te * 22 + j, none⟩) (World.block_lt_of_cell? wr _ (hS0.2.2 j v hv))).trans (hS0.2.2 j v hv)⟩
          refine hK.out _ _ (fun _ => hS7) ?_
          clear hK K
          try simp only [Act.put, List.setIfInBounds_toArray, List.set_cons_zero, List.set_cons_succ]
          refine' wpTail_one (i := 15) (o := _) (by kernel_rfl) ?ho5017 ?hw5017 (fun K hK => ?_)
          case ho5017 => (simp only [List.getElem?_toArray, List.getElem?_cons_succ, List.getElem?_cons_zero]; exact rfl)
          case hw5017 => rfl
          go_simp
          refine hK.out _ _ (fun _ => hS7) ?_
          clear hK K
          refine wpTail_done (by kernel_rfl) ?_ _
          try simp only [Act.put, List.setIfInBounds_toArray, List.set_cons_zero, List.set_cons_succ]
          have hown7' : w7.ownsRow wr.heap.size 3 1 (.slice A7 nl c7) nl (L.map iI) := hown7
          have HO7 := hide (own_monoT hown7' HS.out)
          have HD7 := hide (fun i (hi : i < 2 * kb) q (hq : (R i).ownBlock = some q) => show (Value.slice A7 nl c7).ownBlock ≠ some q from fun e => by
            have h1 := (hown7'.lt q e).1
            have h2 := ((HF.out.own i hi).lt q hq).2
            omega)
          have HF7 := hide (HF.out.below hb7)
          have HG7 := hide (HG.out.below hb7 HG.out.lt)
          have HA7 := hide (HA.out.below hb7 HA.out.lt)
          have HR7 := hide (own_belowT HO.out hb7)
          have HW7 := hide (HWR.out.trans (hb7.mono HWR.out.size))
          have HS7 := hide (show Be ≤ w7.heap.size from Nat.le_trans HS.out hb7.size)
          have HRL0 := HRL
          have HKL := hide hlt
          clear HF HG HA HO HWR HS hown7 hown7' hb7 hS0 hS7 hHeld q1 q2 q3 p1 p2 HRL hlt hk i1 i2
          go_upto_region 19 with (fail)
          go_loopw [84] (fun tt wr => ∃ (t : Nat) (R : Nat → Value) (RL : Nat → List Int), t ≤ nl ∧ tt = .int .i64 (t : Int) ∧ Hid (RL = putL k ((NX k).take t) (rowsU NX k)) ∧ Hid (Fam wr Be (2 * kb) R RL) ∧ Hid (Blk wr gG 34 (grA (.slice (some ⟨gv, 0, none⟩) kb cb) (.slice (some ⟨gA, 0, none⟩) n n) (.slice none 0 0))) ∧ Hid (Blk wr gA 3 (ic n (atB B))) ∧ Hid (wr.ownsRow Bd 37 4 (.slice (some ⟨gv, 0, none⟩) kb cb) kb ((blV (bls B n) R).flatMap BV.enc)) ∧ Hid (Below w3.heap.size w3 wr) ∧ Hid (Be ≤ wr.heap.size) ∧ Hid (wr.ownsRow Be 3 1 (.slice A7 nl c7) nl (L.map iI)) ∧ Hid (∀ i, i < 2 * kb → ∀ q, (R i).ownBlock = some q → (Value.slice A7 nl c7).ownBlock ≠ some q)) (fun tt _ => nl - (intOf tt).toNat)
          case atStart => exact ⟨0, R, RL, Nat.zero_le _, rfl, hide (by rw [HRL0.out]; rfl), HF7, HG7, HA7, HR7, HW7, HS7, HO7, HD7⟩
          case round =>
            clear HF7 HG7 HA7 HR7 HW7 HS7 HO7 HD7 HRL0
            obtain ⟨t, R, RL, ht, rfl, HRL, HF, HG, HA, HO, HWR, HS, HO2, HD2⟩ := hrel
            by_cases htn : t < nl
            · have t1 : (t : Int) < (nl : Int) := by omega
              have t2 : (0 : Int) ≤ (t : Int) := by omega
              have q6 : IntKind.i64.wrap ((t : Int) + 1) = ((t + 1 : Nat) : Int) := by rw [show (t : Int) + 1 = ((t + 1 : Nat) : Int) by omega]; exact IntWalk.i64_in _ (by have := HNL.out; have := HLL.out; omega)
              obtain ⟨tn, htn1⟩ : ∃ tn, tn = t + 1 := ⟨_, rfl⟩
              rw [← htn1] at q6
              have HTN := hide htn1
              obtain ⟨b3, o3, yv, hA7, hbl3, hyv, y3⟩ := (IntsAt.own (l := L) (by rw [← HNL.out]; exact HO2.out) : IntsAt wr (.slice A7 L.length c7) L).at_ (k := t) (by rw [← HNL.out]; exact htn)
              subst hA7
              have hyr := HLB.out yv (List.mem_of_getElem? hyv)
              obtain ⟨yn, rfl⟩ : ∃ yn : Nat, yv = (yn : Int) := ⟨yv.toNat, by omega⟩
              have hyn : yn < n := by omega
              obtain ⟨to_, hto⟩ : ∃ x, x = atB B yn := ⟨_, rfl⟩
              have hNt : (NX k)[t]? = some to_ := by rw [HLN.out, List.getElem?_map, hyv, hto]; rfl
              have hkb2 : to_ < kb := HNXB.out k to_ (List.mem_of_getElem? hNt)
              have n1 : (yn : Int) < (n : Int) := by omega
              have n2 : (0 : Int) ≤ (yn : Int) := by omega
              have z1 : wr.cell? ⟨gG, 1, none⟩ = some (.slice (some ⟨gA, 0, none⟩) n n) := HG.out.cell 1
              have za : wr.cell? ⟨gA, yn, none⟩ = some (.int .i64 (to_ : Int)) := by rw [hto]; exact (HA.out.cell yn).trans (ic_at _ hyn)
              have HRB := hide (fun i => show (RL i).length ≤ 110000 by
                rw [HRL.out]
                have h1 := putL_len k i ((NX k).take t) (rowsU NX k)
                have h2 := rowsU_len HNXL.out i k
                have h3 := HNXL.out k
                have h4 := HKN.out n (Nat.le_refl _)
                have h5 := HKB.out
                have h6 := HKL.out
                have h7 : 102 * k ≤ 102 * 1000 := Nat.mul_le_mul_left _ (by omega)
                rw [List.length_take] at h1
                omega)
              obtain ⟨An, cn, hRn⟩ := own_formT (HF.out.own (2 * k) (by have := HKL.out; omega))
              obtain ⟨rn, hrn⟩ : ∃ rn, rn = (RL (2 * k)).length := ⟨_, rfl⟩
              rw [← hrn] at hRn
              have hxk : ∃ x, (bls B n)[k]? = some x := ⟨_, List.getElem?_eq_getElem (by rw [← HKB.out]; exact HKL.out)⟩
              obtain ⟨x2, hx2⟩ := hxk
              have yn2 : wr.cell? ⟨gv, k * 4 + 2, none⟩ = some (.slice An rn cn) := by
                have h := HO.out.cells (g := gv) rfl (k * 4 + 2) (.slice An rn cn) (flat_atR BV.enc_length _ k ⟨(x2.1 : Int), (x2.2 : Int), R (2 * k), R (2 * k + 1)⟩ (blV_at _ hx2) 2 _ (by rw [← hRn]; rfl))
                rw [Addr.add_lit, Nat.zero_add] at h
                exact h
              have HNT := hide (And.intro hNt hkb2)
              have HRN := hide (And.intro hRn hrn)
              obtain ⟨W9, hW9⟩ : ∃ W9, W9 = wr.alloc (.cells #[.int .i64 (to_ : Int)] 3) := ⟨_, rfl⟩
              have hb9 : Below wr.heap.size wr W9 := by rw [hW9]; exact (Below.refl _ _).alloc (Nat.le_refl _) _
              have HC9 := hide (show Blk W9 wr.heap.size 3 #[.int .i64 (to_ : Int)] by rw [hW9]; exact Blk.new _ _ _)
              have HZ9 := hide (show W9.heap.size = wr.heap.size + 1 by rw [hW9]; simp)
              have HF9 := hide (HF.out.below hb9)
              have HG9 := hide (HG.out.below hb9 HG.out.lt)
              have HA9 := hide (HA.out.below hb9 HA.out.lt)
              have HO9 := hide (own_belowT HO.out hb9)
              have HO29 := hide (own_belowT HO2.out hb9)
              have HWR9 := hide (HWR.out.trans (hb9.mono HWR.out.size))
              have HS9 := hide (show Be ≤ W9.heap.size from Nat.le_trans HS.out hb9.size)
              have HRo := hide (show W9.ownsRow Be 3 1 (.slice An rn cn) rn ((RL (2 * k)).map iI) by rw [← hRn, hrn]; exact HF9.out.own (2 * k) (by have := HKL.out; omega))
              have HW9 := hide hW9
              have htN := hide htn
              clear hW9 hb9 htn htn1 hbl3 hyv hyr hto hNt hkb2 hRn hrn hx2 hyn
              go_upto_region 22 with (fail)
              clear y3 z1 za n1 n2
              go_upto_region 23 with (first
                | (at_builtin
                   rw [← HW9.out]
                   refine wpList_append_any _ rfl (.tmp 97) (.tmp 99) _ rfl Be 3 i0 _ 1 8 Try.underlying23 hi0 hz0 hz1 hz2 rfl (by omega) (.slice An rn cn) rn _ rfl HRo.out (wr.heap.size + 1) (some ⟨wr.heap.size, 0, none⟩) 1 1 [.int .i64 (to_ : Int)] rfl ?rd ?on ?b1 ?b2 ?sz ?_
                   case rd => exact ⟨rfl, fun _ => ⟨_, rfl, Nat.lt_succ_self _, fun q u hu => by rw [Addr.add_lit, Nat.zero_add, HC9.out.cell q]; simpa using hu⟩⟩
                   case on => (intro u hu; simp at hu; subst hu; rfl)
                   case b1 => (have := HRB.out (2 * k); have := HRN.out.2; simp only [maxLen]; omega)
                   case b2 => (have := HRB.out (2 * k); have := HRN.out.2; omega)
                   case sz => exact HS9.out
                   intro v10 w10 hown10 hg10 hat10
                   have hg10' : W9.grownBy w10 (R (2 * k)).ownBlock := by rw [HRN.out.1]; exact hg10
                   have hat10' : v10.ownBlock = (R (2 * k)).ownBlock ∨ v10.ownBlock = some W9.heap.size := by rw [HRN.out.1]; exact hat10
                   have h2k : 2 * k < 2 * kb := by have := HKL.out; omega
                   have HF10 := hide (show Fam w10 Be (2 * kb) (upd R (2 * k) v10) (upd RL (2 * k) (RL (2 * k) ++ [(to_ : Int)])) from HF9.out.grow (y := (to_ : Int)) h2k hg10' (by rw [← HRN.out.2, List.map_append]; exact hown10) hat10')
                   have HG10 := hide (HF9.out.stays h2k HG9.out (.inl (by decide)) hg10')
                   have HA10 := hide (HF9.out.stays h2k HA9.out (.inr HBE.out.1) hg10')
                   have HO10 := hide (own_grT HO9.out hg10 (fun q hq e => (rows_ne HO9.out HRo.out (by decide)).elim (fun h => by rw [h] at hq; cases hq) (fun h => h (hq.trans e))))
                   have HO210 := hide (own_grT HO29.out hg10' (fun q hq e => HD2.out (2 * k) h2k q e.symm hq))
                   have HD10 := hide (HF9.out.off_grow h2k hat10' HD2.out (fun q hq => (HO29.out.lt q hq).2))
                   have HWR10 := hide (HWR9.out.grown hg10 HWR9.out.size (fun q hq => by have := (HRo.out.lt q hq).1; have := HBE.out; omega))
                   have HS10 := hide (show Be ≤ w10.heap.size from Nat.le_trans HS9.out hg10.size)
                   obtain ⟨A10, c10, rfl⟩ := own_formT hown10
                   obtain ⟨gv', hgv', _, _, cur', hcur'⟩ := own_some HO10.out HK0.out.1
                   have hgve : gv = gv' := by injection hgv' with h; injection h
                   subst hgve
                   obtain ⟨x2, hx2⟩ : ∃ x, (bls B n)[k]? = some x := ⟨_, List.getElem?_eq_getElem (by rw [← HKB.out]; exact HKL.out)⟩
                   have ye : w10.cell? ⟨gv, k * 4 + 2, none⟩ = some (.slice An rn cn) := by
                     have h := HO10.out.cells (g := gv) rfl (k * 4 + 2) (.slice An rn cn) (flat_atR BV.enc_length _ k ⟨(x2.1 : Int), (x2.2 : Int), R (2 * k), R (2 * k + 1)⟩ (blV_at _ hx2) 2 _ (by rw [← HRN.out.1]; rfl))
                     rw [Addr.add_lit, Nat.zero_add] at h
                     exact h
                   have fe := hcur'.frozen (k * 4 + 2)
                   obtain ⟨V10, hV10⟩ : ∃ V10, V10 = Value.slice A10 (rn + 1) c10 := ⟨_, rfl⟩
                   obtain ⟨W11, hW11⟩ : ∃ W11, W11 = w10.setCell ⟨gv, k * 4 + 2, none⟩ (.slice A10 (rn + 1) c10) := ⟨_, rfl⟩
                   have HF11 := hide (show Fam W11 Be (2 * kb) (upd R (2 * k) V10) (upd RL (2 * k) (RL (2 * k) ++ [(to_ : Int)])) by rw [hW11, hV10]; exact HF10.out.far hcur' (by decide) _)
                   have HG11 := hide (show Blk W11 gG 34 (grA (.slice (some ⟨gv, 0, none⟩) kb cb) (.slice (some ⟨gA, 0, none⟩) n n) (.slice none 0 0)) by rw [hW11]; exact HG10.out.far (p := ⟨gv, k * 4 + 2, none⟩) (HG10.out.ne_ hcur' (by decide)) _)
                   have HA11 := hide (show Blk W11 gA 3 (ic n (atB B)) by rw [hW11]; exact HA10.out.far (p := ⟨gv, k * 4 + 2, none⟩) (HA10.out.ne_ hcur' (by decide)) _)
                   have HO11 := hide (show W11.ownsRow Bd 37 4 (.slice (some ⟨gv, 0, none⟩) kb cb) kb ((blV (bls B n) (upd R (2 * k) V10)).flatMap BV.enc) by
                     have h := own_set (q := k * 4 + 2) HO10.out V10
                     rw [blV_nx (by rw [← HKB.out]; exact HKL.out)] at h
                     rw [hW11, ← hV10]
                     exact h)
                   have HO211 := hide (show W11.ownsRow Be 3 1 (.slice (some ⟨b3, o3, none⟩) nl c7) nl (L.map iI) by rw [hW11]; exact ownsRow_setCell_other (a := ⟨gv, k * 4 + 2, none⟩) HO210.out (own_blk_ne HO210.out hcur' (by decide)) _)
                   have HD11 := hide (show ∀ i, i < 2 * kb → ∀ q, (upd R (2 * k) V10 i).ownBlock = some q → (Value.slice (some (⟨b3, o3, none⟩ : Addr)) nl c7).ownBlock ≠ some q by rw [hV10]; exact HD10.out)
                   have HWR11 := hide (show Below w3.heap.size w3 W11 by rw [hW11]; exact HWR10.out.setCell (p := ⟨gv, k * 4 + 2, none⟩) (by have := HK0.out.2.2; have := HBD.out; have := HW6.out.size; show w3.heap.size ≤ gv; omega) _)
                   have HS11 := hide (show Be ≤ W11.heap.size by rw [hW11]; simpa using HS10.out)
                   have HW11 := hide hW11
                   clear hown10 hg10 hat10 hg10' hat10' hgv' hcur' hx2 hV10 hW11))
              rw [← HW11.out]
              clear ye fe yn2
              clear HF HG HA HO HO2 HD2 HWR HS HF9 HG9 HA9 HO9 HO29 HWR9 HS9 HRo HW9 HC9 HZ9 HF10 HG10 HA10 HO10 HO210 HD10 HWR10 HS10 HW11
              obtain ⟨R1, hR1⟩ : ∃ R1, R1 = upd R (2 * k) V10 := ⟨_, rfl⟩
              obtain ⟨RL1, hRL1⟩ : ∃ RL1, RL1 = upd RL (2 * k) (RL (2 * k) ++ [(to_ : Int)]) := ⟨_, rfl⟩
              rw [← hR1] at HF11 HO11 HD11
              rw [← hRL1] at HF11
              have HRL1 := hide hRL1
              clear hR1 hRL1 h2k
              have h2t : 2 * to_ + 1 < 2 * kb := by have := HNT.out.2; omega
              have HRB1 := hide (show (RL1 (2 * to_ + 1)).length ≤ 110000 by rw [HRL1.out, upd_ne _ _ (by omega)]; exact HRB.out _)
              obtain ⟨Ap, cp, hRp⟩ := own_formT (HF11.out.own (2 * to_ + 1) h2t)
              obtain ⟨rp, hrp⟩ : ∃ rp, rp = (RL1 (2 * to_ + 1)).length := ⟨_, rfl⟩
              rw [← hrp] at hRp
              obtain ⟨x3, hx3⟩ : ∃ x, (bls B n)[to_]? = some x := ⟨_, List.getElem?_eq_getElem (by rw [← HKB.out]; exact HNT.out.2)⟩
              have yp : W11.cell? ⟨gv, to_ * 4 + 3, none⟩ = some (.slice Ap rp cp) := by
                have h := HO11.out.cells (g := gv) rfl (to_ * 4 + 3) (.slice Ap rp cp) (flat_atR BV.enc_length _ to_ ⟨(x3.1 : Int), (x3.2 : Int), R1 (2 * to_), R1 (2 * to_ + 1)⟩ (blV_at _ hx3) 3 _ (by rw [← hRp]; rfl))
                rw [Addr.add_lit, Nat.zero_add] at h
                exact h
              have yg : W11.cell? ⟨gG, 0, none⟩ = some (.slice (some ⟨gv, 0, none⟩) kb cb) := HG11.out.cell 0
              have hS0 : W11.cell? ⟨gG, 0, none⟩ = some (.slice (some ⟨gv, 0, none⟩) kb cb) ∧ W11.cell? ⟨gv, to_ * 4 + 3, none⟩ = some (.slice Ap rp cp) := ⟨yg, yp⟩
              have m1 : (to_ : Int) < (kb : Int) := by have := HNT.out.2; omega
              have m2 : (0 : Int) ≤ (to_ : Int) := by omega
              have HRP := hide (And.intro hRp hrp)
              have HX3 := hide hx3
              clear hRp hrp hx3 yg yp
              refine wp_region_tail 14 (fun w' => w'.cell? ⟨gG, 0, none⟩ = some (.slice (some ⟨gv, 0, none⟩) kb cb) ∧ w'.cell? ⟨gv, to_ * 4 + 3, none⟩ = some (.slice Ap rp cp)) (by kernel_rfl) hS0 (fun hHeld => ?_)
              try simp only [Act.put, List.setIfInBounds_toArray, List.set_cons_zero, List.set_cons_succ]
              refine' wpTail_take2 (i := 0) (oi := _) ?hin5018 ?hsn5018 ?hfn5018 ?hrn5018 ?hzn5018 ?hcn5018 ?hQn5018 (v := _) (Or.inl ⟨?hwn5018, ?hyn5018⟩) (by assumption) ?_
              case hin5018 => (simp only [List.getElem?_toArray, List.getElem?_cons_zero]; exact rfl)
              case hsn5018 => kernel_rfl
              case hfn5018 => kernel_rfl
              case hrn5018 => kernel_rfl
              case hzn5018 => kernel_rfl
              case hcn5018 => kernel_rfl
              case hQn5018 => exact fun _ _ _ h => h
              case hwn5018 => rfl
              case hyn5018 => (intro W0 hSw; (try dsimp only at hSw); go_simp; (try with_reducible rfl))
              try simp only [Act.put, List.setIfInBounds_toArray, List.set_cons_zero, List.set_cons_succ]
              refine' wpTail_take2 (i := 1) (oi := _) ?hin5019 ?hsn5019 ?hfn5019 ?hrn5019 ?hzn5019 ?hcn5019 ?hQn5019 (v := _) (Or.inl ⟨?hwn5019, ?hyn5019⟩) (by assumption) ?_
              case hin5019 => (simp only [List.getElem?_toArray, List.getElem?_cons_succ, List.getElem?_cons_zero]; exact rfl)
              case hsn5019 => kernel_rfl
              case hfn5019 => kernel_rfl
              case hrn5019 => kernel_rfl
              case hzn5019 => kernel_rfl
              case hcn5019 => kernel_rfl
              case hQn5019 => exact fun _ _ _ h => h
              case hwn5019 => rfl
              case hyn5019 => (intro W0 hSw; (try dsimp only at hSw); have u0 : W0.cell? ⟨gG, 0, none⟩ = some (.slice (some ⟨gv, 0, none⟩) kb cb) := hSw.1; go_simp; (try with_reducible rfl))
              try simp only [Act.put, List.setIfInBounds_toArray, List.set_cons_zero, List.set_cons_succ]
              refine' wpTail_take2 (i := 2) (oi := _) ?hin5020 ?hsn5020 ?hfn5020 ?hrn5020 ?hzn5020 ?hcn5020 ?hQn5020 (v := _) (Or.inl ⟨?hwn5020, ?hyn5020⟩) (by assumption) ?_
              case hin5020 => (simp only [List.getElem?_toArray, List.getElem?_cons_succ, List.getElem?_cons_zero]; exact rfl)
              case hsn5020 => kernel_rfl
              case hfn5020 => kernel_rfl
              case hrn5020 => kernel_rfl
              case hzn5020 => kernel_rfl
              case hcn5020 => kernel_rfl
              case hQn5020 => exact fun _ _ _ h => h
              case hwn5020 => rfl
              case hyn5020 => (intro W0 hSw; (try dsimp only at hSw); go_simp; (try with_reducible rfl))
              try simp only [Act.put, List.setIfInBounds_toArray, List.set_cons_zero, List.set_cons_succ]
              refine' wpTail_take2 (i := 3) (oi := _) ?hin5021 ?hsn5021 ?hfn5021 ?hrn5021 ?hzn5021 ?hcn5021 ?hQn5021 (v := _) (Or.inl ⟨?hwn5021, ?hyn5021⟩) (by assumption) ?_
              case hin5021 => (simp only [List.getElem?_toArray, List.getElem?_cons_succ, List.getElem?_cons_zero]; exact rfl)
              case hsn5021 => kernel_rfl
              case hfn5021 => kernel_rfl
              case hrn5021 => kernel_rfl
              case hzn5021 => kernel_rfl
              case hcn5021 => kernel_rfl
              case hQn5021 => exact fun _ _ _ h => h
              case hwn5021 => rfl
              case hyn5021 => (intro W0 hSw; (try dsimp only at hSw); go_simp; (try with_reducible rfl))
              try simp only [Act.put, List.setIfInBounds_toArray, List.set_cons_zero, List.set_cons_succ]
              refine' wpTail_take2 (i := 4) (oi := _) ?hin5022 ?hsn5022 ?hfn5022 ?hrn5022 ?hzn5022 ?hcn5022 ?hQn5022 (v := _) (Or.inl ⟨?hwn5022, ?hyn5022⟩) (by assumption) ?_
              case hin5022 => (simp only [List.getElem?_toArray, List.getElem?_cons_succ, List.getElem?_cons_zero]; exact rfl)
              case hsn5022 => kernel_rfl
              case hfn5022 => kernel_rfl
              case hrn5022 => kernel_rfl
              case hzn5022 => kernel_rfl
              case hcn5022 => kernel_rfl
              case hQn5022 => exact fun _ _ _ h => h
              case hwn5022 => rfl
              case hyn5022 => (intro W0 hSw; (try dsimp only at hSw); have u0 : W0.cell? ⟨gG, 0, none⟩ = some (.slice (some ⟨gv, 0, none⟩) kb cb) := hSw.1; go_simp; (try with_reducible rfl))
              try simp only [Act.put, List.setIfInBounds_toArray, List.set_cons_zero, List.set_cons_succ]
              refine' wpTail_take2 (i := 5) (oi := _) ?hin5023 ?hsn5023 ?hfn5023 ?hrn5023 ?hzn5023 ?hcn5023 ?hQn5023 (v := _) (Or.inl ⟨?hwn5023, ?hyn5023⟩) (by assumption) ?_
              case hin5023 => (simp only [List.getElem?_toArray, List.getElem?_cons_succ, List.getElem?_cons_zero]; exact rfl)
              case hsn5023 => kernel_rfl
              case hfn5023 => kernel_rfl
              case hrn5023 => kernel_rfl
              case hzn5023 => kernel_rfl
              case hcn5023 => kernel_rfl
              case hQn5023 => exact fun _ _ _ h => h
              case hwn5023 => rfl
              case hyn5023 => (intro W0 hSw; (try dsimp only at hSw); go_simp; (try with_reducible rfl))
              try simp only [Act.put, List.setIfInBounds_toArray, List.set_cons_zero, List.set_cons_succ]
              refine' wpTail_take2 (i := 6) (oi := _) ?hin5024 ?hsn5024 ?hfn5024 ?hrn5024 ?hzn5024 ?hcn5024 ?hQn5024 (v := _) (Or.inl ⟨?hwn5024, ?hyn5024⟩) (by assumption) ?_
              case hin5024 => (simp only [List.getElem?_toArray, List.getElem?_cons_succ, List.getElem?_cons_zero]; exact rfl)
              case hsn5024 => kernel_rfl
              case hfn5024 => kernel_rfl
              case hrn5024 => kernel_rfl
              case hzn5024 => kernel_rfl
              case hcn5024 => kernel_rfl
              case hQn5024 => exact fun _ _ _ h => h
              case hwn5024 => rfl
              case hyn5024 => (intro W0 hSw; (try dsimp only at hSw); go_simp; (try with_reducible rfl))
              try simp only [Act.put, List.setIfInBounds_toArray, List.set_cons_zero, List.set_cons_succ]
              refine' wpTail_take2 (i := 7) (oi := _) ?hin5025 ?hsn5025 ?hfn5025 ?hrn5025 ?hzn5025 ?hcn5025 ?hQn5025 (v := _) (Or.inl ⟨?hwn5025, ?hyn5025⟩) (by assumption) ?_
              case hin5025 => (simp only [List.getElem?_toArray, List.getElem?_cons_succ, List.getElem?_cons_zero]; exact rfl)
              case hsn5025 => kernel_rfl
              case hfn5025 => kernel_rfl
              case hrn5025 => kernel_rfl
              case hzn5025 => kernel_rfl
              case hcn5025 => kernel_rfl
              case hQn5025 => exact fun _ _ _ h => h
              case hwn5025 => rfl
              case hyn5025 => (intro W0 hSw; (try dsimp only at hSw); go_simp; (try with_reducible rfl))
              try simp only [Act.put, List.setIfInBounds_toArray, List.set_cons_zero, List.set_cons_succ]
              refine' wpTail_take2 (i := 8) (oi := _) ?hin5026 ?hsn5026 ?hfn5026 ?hrn5026 ?hzn5026 ?hcn5026 ?hQn5026 (v := _) (Or.inl ⟨?hwn5026, ?hyn5026⟩) (by assumption) ?_
              case hin5026 => (simp only [List.getElem?_toArray, List.getElem?_cons_succ, List.getElem?_cons_zero]; exact rfl)
              case hsn5026 => kernel_rfl
              case hfn5026 => kernel_rfl
              case hrn5026 => kernel_rfl
              case hzn5026 => kernel_rfl
              case hcn5026 => kernel_rfl
              case hQn5026 => exact fun _ _ _ h => h
              case hwn5026 => rfl
              case hyn5026 => (intro W0 hSw; (try dsimp only at hSw); have u0 : W0.cell? ⟨gv, to_ * 4 + 3, none⟩ = some (.slice Ap rp cp) := hSw.2; go_simp; (try with_reducible rfl))
              try simp only [Act.put, List.setIfInBounds_toArray, List.set_cons_zero, List.set_cons_succ]
              refine' wpTail_take2 (i := 9) (oi := _) ?hin5027 ?hsn5027 ?hfn5027 ?hrn5027 ?hzn5027 ?hcn5027 ?hQn5027 (v := _) (Or.inl ⟨?hwn5027, ?hyn5027⟩) (by assumption) ?_
              case hin5027 => (simp only [List.getElem?_toArray, List.getElem?_cons_succ, List.getElem?_cons_zero]; exact rfl)
              case hsn5027 => kernel_rfl
              case hfn5027 => kernel_rfl
              case hrn5027 => kernel_rfl
              case hzn5027 => kernel_rfl
              case hcn5027 => kernel_rfl
              case hQn5027 => exact fun _ _ _ h => h
              case hwn5027 => rfl
              case hyn5027 => (intro W0 hSw; (try dsimp only at hSw); go_simp; (try with_reducible rfl))
              try simp only [Act.put, List.setIfInBounds_toArray, List.set_cons_zero, List.set_cons_succ]
              refine' wpTail_one (i := 10) (o := _) (by kernel_rfl) ?ho5028 ?hw5028 (fun K hK => ?_)
              case ho5028 => (simp only [List.getElem?_toArray, List.getElem?_cons_succ, List.getElem?_cons_zero]; exact rfl)
              case hw5028 => rfl
              go_simp
              obtain ⟨W13, hW13⟩ : ∃ W, W = (W11.alloc (.cells #[.int .i64 (k : Int)] 3)).drew := ⟨_, rfl⟩
              have hb13 : Below W11.heap.size W11 W13 := by rw [hW13]; exact ((Below.refl W11.heap.size W11).alloc (Nat.le_refl _) _).drew
              have hc13 : Blk W13 W11.heap.size 3 #[.int .i64 (k : Int)] := by rw [hW13]; exact (Blk.new W11 _ _).drew
              have hz13 : W13.heap.size = W11.heap.size + 1 := by rw [hW13]; show (W11.alloc _).heap.size = _; simp
              have hS13 : W13.cell? ⟨gG, 0, none⟩ = some (.slice (some ⟨gv, 0, none⟩) kb cb) ∧ W13.cell? ⟨gv, to_ * 4 + 3, none⟩ = some (.slice Ap rp cp) := ⟨(hb13.cell (p := ⟨gG, 0, none⟩) (World.block_lt_of_cell? W11 _ hS0.1)).trans hS0.1, (hb13.cell (p := ⟨gv, to_ * 4 + 3, none⟩) (World.block_lt_of_cell? W11 _ hS0.2)).trans hS0.2⟩
              refine hK.out _ _ (fun _ => by have h := hS13; rw [hW13] at h; exact h) ?_
              clear hK K
              rw [← hW13]
              try simp only [Act.put, List.setIfInBounds_toArray, List.set_cons_zero, List.set_cons_succ]
              refine' wpTail_one (i := 11) (o := _) (by kernel_rfl) ?ho5029 ?hw5029 (fun K hK => ?_)
              case ho5029 => (simp only [List.getElem?_toArray, List.getElem?_cons_succ, List.getElem?_cons_zero]; exact rfl)
              case hw5029 => rfl
              have hF13 := HF11.out.below hb13
              have hG13 := HG11.out.below hb13 HG11.out.lt
              have hA13 := HA11.out.below hb13 HA11.out.lt
              have hO13 := own_belowT HO11.out hb13
              have hO213 := own_belowT HO211.out hb13
              have hWR13 := HWR11.out.trans (hb13.mono HWR11.out.size)
              have hS13' : Be ≤ W13.heap.size := Nat.le_trans HS11.out hb13.size
              have hRp13 : W13.ownsRow Be 3 1 (.slice Ap rp cp) rp ((RL1 (2 * to_ + 1)).map iI) := by rw [← HRP.out.1, HRP.out.2]; exact hF13.own _ h2t
              refine wp_append_any _ (.tmp 111) (.tmp 113) _ rfl Be 3 i0 _ 1 8 Try.underlying23 hi0 hz0 hz1 hz2 rfl (by omega) (.slice Ap rp cp) rp _ rfl hRp13 (W11.heap.size + 1) (some ⟨W11.heap.size, 0, none⟩) 1 1 [.int .i64 (k : Int)] rfl ⟨rfl, fun _ => ⟨_, rfl, Nat.lt_succ_self _, fun q u hu => by rw [Addr.add_lit, Nat.zero_add, hc13.cell q]; simpa using hu⟩⟩ (fun u hu => by simp at hu; subst hu; rfl) (by have := HRB1.out; have := HRP.out.2; simp only [maxLen]; omega) (by have := HRB1.out; have := HRP.out.2; omega) hS13' ?_
              intro v14 w14 hown14 hg14 hat14
              have hg14' : W13.grownBy w14 (R1 (2 * to_ + 1)).ownBlock := by rw [HRP.out.1]; exact hg14
              have hat14' : v14.ownBlock = (R1 (2 * to_ + 1)).ownBlock ∨ v14.ownBlock = some W13.heap.size := by rw [HRP.out.1]; exact hat14
              have hF14 : Fam w14 Be (2 * kb) (upd R1 (2 * to_ + 1) v14) (upd RL1 (2 * to_ + 1) (RL1 (2 * to_ + 1) ++ [(k : Int)])) := hF13.grow (y := (k : Int)) h2t hg14' (by rw [← HRP.out.2, List.map_append]; exact hown14) hat14'
              have hG14 := hF13.stays h2t hG13 (.inl (by decide)) hg14'
              have hA14 := hF13.stays h2t hA13 (.inr HBE.out.1) hg14'
              have hO14 := own_grT hO13 hg14 (fun q hq e => (rows_ne hO13 hRp13 (by decide)).elim (fun h => by rw [h] at hq; cases hq) (fun h => h (hq.trans e)))
              have hO214 := own_grT hO213 hg14' (fun q hq e => HD11.out _ h2t q e.symm hq)
              have hD14 := hF13.off_grow h2t hat14' HD11.out (fun q hq => (hO213.lt q hq).2)
              have hWR14 := hWR13.grown hg14 hWR13.size (fun q hq => by have := (hRp13.lt q hq).1; have := HBE.out; omega)
              have hS14' : Be ≤ w14.heap.size := Nat.le_trans hS13' hg14.size
              obtain ⟨A14, c14, rfl⟩ := own_formT hown14
              obtain ⟨gv', hgv', _, _, cur', hcur'⟩ := own_some hO14 HK0.out.1
              have hgve : gv = gv' := by injection hgv' with h; injection h
              subst hgve
              have ye : w14.cell? ⟨gv, to_ * 4 + 3, none⟩ = some (.slice Ap rp cp) := by
                have h := hO14.cells (g := gv) rfl (to_ * 4 + 3) (.slice Ap rp cp) (flat_atR BV.enc_length _ to_ ⟨(x3.1 : Int), (x3.2 : Int), R1 (2 * to_), R1 (2 * to_ + 1)⟩ (blV_at _ HX3.out) 3 _ (by rw [← HRP.out.1]; rfl))
                rw [Addr.add_lit, Nat.zero_add] at h
                exact h
              have fe := hcur'.frozen (to_ * 4 + 3)
              have hS14 : w14.cell? ⟨gG, 0, none⟩ = some (.slice (some ⟨gv, 0, none⟩) kb cb) ∧ w14.cell? ⟨gv, to_ * 4 + 3, none⟩ = some (.slice Ap rp cp) := ⟨hG14.cell 0, ye⟩
              obtain ⟨V14, hV14⟩ : ∃ V14, V14 = Value.slice A14 (rp + 1) c14 := ⟨_, rfl⟩
              obtain ⟨W15, hW15⟩ : ∃ W15, W15 = w14.setCell ⟨gv, to_ * 4 + 3, none⟩ (.slice A14 (rp + 1) c14) := ⟨_, rfl⟩
              have HF15 := hide (show Fam W15 Be (2 * kb) (upd R1 (2 * to_ + 1) V14) (upd RL1 (2 * to_ + 1) (RL1 (2 * to_ + 1) ++ [(k : Int)])) by rw [hW15, hV14]; exact hF14.far hcur' (by decide) _)
              have HG15 := hide (show Blk W15 gG 34 (grA (.slice (some ⟨gv, 0, none⟩) kb cb) (.slice (some ⟨gA, 0, none⟩) n n) (.slice none 0 0)) by rw [hW15]; exact hG14.far (p := ⟨gv, to_ * 4 + 3, none⟩) (hG14.ne_ hcur' (by decide)) _)
              have HA15 := hide (show Blk W15 gA 3 (ic n (atB B)) by rw [hW15]; exact hA14.far (p := ⟨gv, to_ * 4 + 3, none⟩) (hA14.ne_ hcur' (by decide)) _)
              have HO15 := hide (show W15.ownsRow Bd 37 4 (.slice (some ⟨gv, 0, none⟩) kb cb) kb ((blV (bls B n) (upd R1 (2 * to_ + 1) V14)).flatMap BV.enc) by
                have h := own_set (q := to_ * 4 + 3) hO14 V14
                rw [blV_pv (by rw [← HKB.out]; exact HNT.out.2)] at h
                rw [hW15, ← hV14]
                exact h)
              have HO215 := hide (show W15.ownsRow Be 3 1 (.slice (some ⟨b3, o3, none⟩) nl c7) nl (L.map iI) by rw [hW15]; exact ownsRow_setCell_other (a := ⟨gv, to_ * 4 + 3, none⟩) hO214 (own_blk_ne hO214 hcur' (by decide)) _)
              have HD15 := hide (show ∀ i, i < 2 * kb → ∀ q, (upd R1 (2 * to_ + 1) V14 i).ownBlock = some q → (Value.slice (some (⟨b3, o3, none⟩ : Addr)) nl c7).ownBlock ≠ some q by rw [hV14]; exact hD14)
              have HWR15 := hide (show Below w3.heap.size w3 W15 by rw [hW15]; exact hWR14.setCell (p := ⟨gv, to_ * 4 + 3, none⟩) (by have := HK0.out.2.2; have := HBD.out; have := HW6.out.size; show w3.heap.size ≤ gv; omega) _)
              have HS15 := hide (show Be ≤ W15.heap.size by rw [hW15]; simpa using hS14')
              have HW15 := hide hW15
              refine hK.out _ _ (fun _ => hS14) ?_
              clear hK K
              clear hS13 hS13' hF13 hG13 hA13 hO13 hO213 hWR13 hRp13 hown14 hg14 hat14 hg14' hat14' hF14 hG14 hA14 hO14 hO214 hD14 hWR14 hS14' hgv' hcur' hV14 hW15 hW13 hb13 hc13 hz13
              try simp only [Act.put, List.setIfInBounds_toArray, List.set_cons_zero, List.set_cons_succ]
              refine' wpTail_one (i := 12) (o := _) (by kernel_rfl) ?ho5030 ?hw5030 (fun K hK => ?_)
              case ho5030 => (simp only [List.getElem?_toArray, List.getElem?_cons_succ, List.getElem?_cons_zero]; exact rfl)
              case hw5030 => rfl
              go_simp
              refine hK.out _ _ (fun _ => hS14) ?_
              clear hK K
              try simp only [Act.put, List.setIfInBounds_toArray, List.set_cons_zero, List.set_cons_succ]
              refine' wpTail_one (i := 13) (o := _) (by kernel_rfl) ?ho5031 ?hw5031 (fun K hK => ?_)
              case ho5031 => (simp only [List.getElem?_toArray, List.getElem?_cons_succ, List.getElem?_cons_zero]; exact rfl)
              case hw5031 => rfl
              go_simp
              refine hK.out _ _ (fun _ => hS14) ?_
              clear hK K
              try simp only [Act.put, List.setIfInBounds_toArray, List.set_cons_zero, List.set_cons_succ]
              refine' wpTail_one (i := 14) (o := _) (by kernel_rfl) ?ho5032 ?hw5032 (fun K hK => ?_)
              case ho5032 => (simp only [List.getElem?_toArray, List.getElem?_cons_succ, List.getElem?_cons_zero]; exact rfl)
              case hw5032 => rfl
              go_simp
              refine hK.out _ _ (fun h => absurd rfl h) ?_
              clear hK K
              rw [← HW15.out]
              refine wpTail_done (by kernel_rfl) ?_ _
              try simp only [Act.put, List.setIfInBounds_toArray, List.set_cons_zero, List.set_cons_succ]
              clear hHeld hS0 hS14 ye fe m1 m2
              clear HF11 HG11 HA11 HO11 HO211 HD11 HWR11 HS11 HW15
              go_wp2_with fail
              go_roundw
              case rel =>
                refine ⟨t + 1, _, _, by have := htN.out; omega, by rw [HTN.out], hide ?_, HF15, HG15, HA15, HO15, HWR15, HS15, HO215, HD15⟩
                rw [putL_take _ HNT.out.1, ← HRL.out, HRL1.out]
                exact putE_two RL
              case measure => rw [HTN.out]; simp [intOf]; have := htN.out; omega
            · have t1 : ¬ (t : Int) < (nl : Int) := by omega
              have HTE := hide (show nl ≤ t by omega)
              have HRLn := hide (show RL = rowsU NX (k + 1) by
                rw [HRL.out]
                exact putL_all NX rfl (by rw [HLN.out, List.length_map, ← HNL.out]; exact HTE.out))
              have HKL2 := hide HKL.out
              clear htn ht HRL
              go_wp2_with fail
              go_roundw
              case rel => exact ⟨k + 1, R, RL, by have := HKL2.out; omega, by rw [HKN1.out], HRLn, HF, HG, HA, HO, HWR, HS⟩
              case measure => rw [HKN1.out]; simp [intOf]; have := HKL2.out; omega
        · have i1 : ¬ (k : Int) < (kb : Int) := by omega
          have HKE := hide (show k = kb by omega)
          clear hlt hk
          have HBL := hide (show RowAt 4 BV.enc wr (.slice (some ⟨gv, 0, none⟩) kb cb) (blV (bls B n) R) from RowAt.own (e := 37) BV.enc_length (by rw [blV_len, ← HKB.out]; exact HO.out))
          have HRWS := hide (show ∀ i, i < 2 * kb → IntsAt wr (R i) (rowsU NX kb i) from fun i hi => IntsAt.own (by have h := HF.out.own i hi; rw [HRL.out, HKE.out] at h; exact h))
          have HOC := hide (order_any (.slice (some ⟨gv, 0, none⟩) kb cb) (blV (bls B n) R) (fun q => rowsU NX kb (2 * q)) wr HBL.out (fun q x hx => by
            have hq : q < kb := by
              rcases Nat.lt_or_ge q kb with h1 | h1
              · exact h1
              · rw [blV_none _ (by rw [← HKB.out]; exact h1)] at hx; cases hx
            have hl : (bls B n)[q]? = some (bls B n)[q] := List.getElem?_eq_getElem (by rw [← HKB.out]; exact hq)
            rw [blV_at _ hl] at hx
            injection hx with hx
            rw [← hx]
            exact HRWS.out (2 * q) (by omega)) (by rw [blV_len, ← HKB.out]; exact ⟨HK0.out.1, by have := HKN.out n (Nat.le_refl _); have := HKB.out; omega⟩) (fun q hq => by
            rw [rowsU_even]
            split
            · refine ⟨by rw [List.length_map]; have := HNXL.out q; omega, fun y hy => ?_⟩
              obtain ⟨z, hz, rfl⟩ := List.mem_map.1 hy
              have := HNXB.out q z hz
              rw [blV_len, ← HKB.out]
              omega
            · exact ⟨by simp, fun y hy => by cases hy⟩))
          have yg : wr.cell? ⟨gG, 0, none⟩ = some (.slice (some ⟨gv, 0, none⟩) kb cb) := HG.out.cell 0
          go_wp2_with fail
          refine HOC.out.mono ?_
          rintro e wo ⟨vo, io, rfl, hpath, hown, hbo⟩
          obtain ⟨lo, hlo⟩ : ∃ lo, lo = (oiter (fun q => rowsU NX kb (2 * q)) io ostart).left.length := ⟨_, rfl⟩
          rw [← hlo] at hown
          obtain ⟨Ao, co, rfl⟩ := own_formT hown
          have HPA := hide hpath
          have HVO := hide (show IntsAt wo (.slice Ao lo co) ((oiter (fun q => rowsU NX kb (2 * q)) io ostart).left.reverse.map (fun q : Nat => (q : Int))) from IntsAt.own (by rw [List.length_map, List.length_reverse, List.map_map, ← hlo]; exact hown))
          have HGo := HG.out.below hbo HG.out.lt
          have HAo := hide (HA.out.below hbo HA.out.lt)
          have HBLo := hide (HBL.out.below hbo (Nat.le_refl _))
          have HRWo := hide (fun i hi => (HRWS.out i hi).below hbo (Nat.le_refl _))
          have HWo := hide (HWR.out.trans (hbo.mono HWR.out.size))
          have HGl := hide (show gG < wo.heap.size from HGo.lt)
          have HGOo := hide (show GrO wo Bd Be wr.heap.size (2 * kb) kb cb lo co n gA gv Ao (blV (bls B n) R) R (rowsU NX kb) (natsV (oiter (fun q => rowsU NX kb (2 * q)) io ostart).left.reverse) (atB B) from ⟨own_belowT HO.out hbo, by have h := HF.out.below hbo; rw [HRL.out, HKE.out] at h; exact h, hown, HAo.out⟩)
          have HGo2 := hide HGo
          have HLO := hide hlo
          clear hpath hown hbo yg hlo
          have y2 : wo.cell? ⟨gG, 2, none⟩ = some (.slice none 0 0) := HGo.cell 2
          have f2 := HGo.frozen 2
          obtain ⟨Wz, hWz⟩ : ∃ Wz, Wz = wo.setCell ⟨gG, 2, none⟩ (.slice Ao lo co) := ⟨_, rfl⟩
          have hGz : Blk Wz gG 34 (grA (.slice (some ⟨gv, 0, none⟩) kb cb) (.slice (some ⟨gA, 0, none⟩) n n) (.slice Ao lo co)) := by rw [hWz]; exact HGo.set_ 2 _
          have hbz : Below w3.heap.size w3 Wz := by rw [hWz]; exact HWo.out.setCell (p := ⟨gG, 2, none⟩) (by have := HGG.out; have := HGA.out; show w3.heap.size ≤ gG; omega) _
          have HGOz := hide (show GrO Wz Bd Be wr.heap.size (2 * kb) kb cb lo co n gA gv Ao (blV (bls B n) R) R (rowsU NX kb) (natsV (oiter (fun q => rowsU NX kb (2 * q)) io ostart).left.reverse) (atB B) by rw [hWz]; exact HGOo.out.far HGo2.out _)
          have HWz := hide hWz
          clear hWz
          obtain ⟨o, ho⟩ : ∃ o, o = gp + 1 := ⟨_, rfl⟩
          have HO := hide ho
          have hZz := HBZ3.out.below hbz HBZ3.out.lt
          rw [HZ.out, ← ho] at hZz
          have HBz := hide hbz
          rw [← ho]
          clear ho hbz
          go_upto_region 27 with (fail)
          rw [← HWz.out]
          clear y2 f2
          have g0 : Wz.cell? ⟨gG, 0, none⟩ = some (.slice (some ⟨gv, 0, none⟩) kb cb) := hGz.cell 0
          have g1 : Wz.cell? ⟨gG, 1, none⟩ = some (.slice (some ⟨gA, 0, none⟩) n n) := hGz.cell 1
          have g2 : Wz.cell? ⟨gG, 2, none⟩ = some (.slice Ao lo co) := hGz.cell 2
          have y0 : Wz.cell? ⟨o, 0, none⟩ = some (.slice none 0 0) := hZz.cell 0
          have f0 := hZz.frozen 0
          obtain ⟨X4, hX4⟩ : ∃ X4, Wz.setCell ⟨o, 0, none⟩ (.slice (some ⟨gv, 0, none⟩) kb cb) = X4 := ⟨_, rfl⟩
          have k4 : GrO X4 Bd Be wr.heap.size (2 * kb) kb cb lo co n gA gv Ao (blV (bls B n) R) R (rowsU NX kb) (natsV (oiter (fun q => rowsU NX kb (2 * q)) io ostart).left.reverse) (atB B) := by rw [← hX4]; exact HGOz.out.far hZz _
          have h4 : Blk X4 o 34 #[.slice (some ⟨gv, 0, none⟩) kb cb, .slice none 0 0, .slice none 0 0] := by rw [← hX4]; exact hZz.set_ 0 _
          have y1 : X4.cell? ⟨o, 1, none⟩ = some (.slice none 0 0) := h4.cell 1
          have f1 := h4.frozen 1
          obtain ⟨X5, hX5⟩ : ∃ X5, X4.setCell ⟨o, 1, none⟩ (.slice (some ⟨gA, 0, none⟩) n n) = X5 := ⟨_, rfl⟩
          have k5 : GrO X5 Bd Be wr.heap.size (2 * kb) kb cb lo co n gA gv Ao (blV (bls B n) R) R (rowsU NX kb) (natsV (oiter (fun q => rowsU NX kb (2 * q)) io ostart).left.reverse) (atB B) := by rw [← hX5]; exact k4.far h4 _
          have h5 : Blk X5 o 34 #[.slice (some ⟨gv, 0, none⟩) kb cb, .slice (some ⟨gA, 0, none⟩) n n, .slice none 0 0] := by rw [← hX5]; exact h4.set_ 1 _
          have y2 : X5.cell? ⟨o, 2, none⟩ = some (.slice none 0 0) := h5.cell 2
          have f2 := h5.frozen 2
          have hoo : w3.heap.size > o := by rw [HO.out]; exact HGP3.out
          have how : w.heap.size ≤ o := by rw [HO.out, HGP.out]; omega
          have HH := hide (show Blk (X5.setCell ⟨o, 2, none⟩ (.slice Ao lo co)) o 34 (grA (.slice (some ⟨gv, 0, none⟩) kb cb) (.slice (some ⟨gA, 0, none⟩) n n) (.slice Ao lo co)) from h5.set_ 2 _)
          have HNXN := hide (show nxN code B = fun q => rowsU NX kb (2 * q) by
            unfold nxN
            rw [← HNX.out, ← HN.out.1, ← HKB.out])
          have HGRf := hide (show GrAt (X5.setCell ⟨o, 2, none⟩ (.slice Ao lo co)) code B (.slice (some ⟨gv, 0, none⟩) kb cb) (.slice (some ⟨gA, 0, none⟩) n n) (.slice Ao lo co) R (oiter (nxN code B) io ostart).left.reverse by
            have k6 := k5.far (i := 2) h5 (.slice Ao lo co)
            refine ⟨?_, ?_, ?_, ?_⟩
            · rw [← HN.out.1]
              exact RowAt.own (e := 37) BV.enc_length (by rw [blV_len, ← HKB.out]; exact k6.bl)
            · rw [← HN.out.1]
              exact ints_ic k6.at_
            · rw [HNXN.out]
              exact IntsAt.own (by rw [List.length_map, List.length_reverse, List.map_map, ← HLO.out]; exact k6.ord)
            · rw [← HN.out.1, ← HKB.out, ← HNX.out]
              exact fun i hi => IntsAt.own (k6.fam.own i hi))
          have HBB := hide (show Below w.heap.size w (X5.setCell ⟨o, 2, none⟩ (.slice Ao lo co)) by
            rw [← hX5, ← hX4]
            exact (((HB3W.out.trans (HBz.out.mono HB3W.out.size)).setCell (p := ⟨o, 0, none⟩) how _).setCell (p := ⟨o, 1, none⟩) how _).setCell (p := ⟨o, 2, none⟩) how _)
          clear h4 h5 k4 k5 hZz hGz hoo how
          go_wp2_with fail
          exact ret_gr rfl rfl rfl HH.out ⟨B, _, _, _, R, io, by rw [← HN.out.1]; exact HBBU.out, rfl, by rw [HNXN.out]; exact HPA.out, HGRf.out, HBB.out⟩
end Go.Proofs.Ytaaadbaakhjkcaa
