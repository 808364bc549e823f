/- The code that can be reached (the reference's Code); conditions: the func is in memory, its registers its own, its ways inside. -/
import Derived.Test.YtaaadbaakhjkcaaRxK
namespace Go.Proofs.Ytaaadbaakhjkcaa
open Go.RowKit Go.WideShapes Go.ChangeShapes
set_option linter.unusedVariables false
set_option linter.unusedSimpArgs false
set_option maxRecDepth 100000

/-- Between two rounds. -/
structure RoR (nx : Nat → List Int) (n r : Nat) (ag : Bool) (f : Nat → Bool) : Prop where
  sound : ∀ q, q < n → f q = true → RchR nx 0 q
  start : f 0 = true
  cnt : ag = true → cntU n f + r + 1 ≤ n
  closed : ag = false → ∀ q, q < n → f q = true → ∀ y, EdgeR nx q y → f y = true
/-- In a round, ahead of the j-th. -/
structure RmR (nx : Nat → List Int) (n r j : Nat) (ag : Bool) (f : Nat → Bool) : Prop where
  sound : ∀ q, q < n → f q = true → RchR nx 0 q
  start : f 0 = true
  cnt : cntU n f + r + 1 ≤ n
  cntA : ag = true → cntU n f + r + 2 ≤ n
  closed : ag = false → ∀ q, q < j → f q = true → ∀ y, EdgeR nx q y → f y = true
/-- In the midst of looking at the next ones of j. -/
structure RiR (nx : Nat → List Int) (n r j : Nat) (L : List Int) (t : Nat) (ag : Bool) (f : Nat → Bool) : Prop where
  m : RmR nx n r j ag f
  at_ : f j = true
  seen : ag = false → ∀ y : Nat, (y : Int) ∈ L.take t → f y = true
theorem RoR.first {nx : Nat → List Int} {n : Nat} (h : 0 < n) : RoR nx n 0 true (fun q => q == 0) :=
  ⟨fun q _ hq => by rw [show q = 0 by simpa using hq]; exact .refl, by simp, fun _ => (by have := cntU_start h; omega), (fun h => by cases h)⟩
theorem RoR.go {nx : Nat → List Int} {n r : Nat} {f : Nat → Bool} (h : RoR nx n r true f) : RmR nx n r 0 false f :=
  ⟨h.sound, h.start, h.cnt rfl, (fun h => by cases h), fun _ q hq => absurd hq (Nat.not_lt_zero _)⟩
theorem RmR.over {nx : Nat → List Int} {n r : Nat} {ag : Bool} {f : Nat → Bool} (h : RmR nx n r n ag f) : RoR nx n (r + 1) ag f :=
  ⟨h.sound, h.start, fun ha => by have := h.cntA ha; omega, h.closed⟩
theorem RmR.skip {nx : Nat → List Int} {n r j : Nat} {ag : Bool} {f : Nat → Bool} (h : RmR nx n r j ag f) (hf : f j = false) : RmR nx n r (j + 1) ag f :=
  ⟨h.sound, h.start, h.cnt, h.cntA, fun ha q hq hfq => by
    rcases Nat.lt_or_ge q j with h1 | h1
    · exact h.closed ha q h1 hfq
    · rw [show q = j by omega, hf] at hfq; cases hfq⟩
theorem RmR.into {nx : Nat → List Int} {n r j : Nat} {ag : Bool} {f : Nat → Bool} (h : RmR nx n r j ag f) (hf : f j = true) (L : List Int) : RiR nx n r j L 0 ag f :=
  ⟨h, hf, fun _ y hy => by simp at hy⟩
theorem RiR.step {nx : Nat → List Int} {n r j t y : Nat} {L : List Int} {ag : Bool} {f : Nat → Bool} (h : RiR nx n r j L t ag f) (hy : L[t]? = some (y : Int)) (hyn : y < n) (hj : j < n) (he : EdgeR nx j y) : RiR nx n r j L (t + 1) (ag || !(f y)) (fun q => f q || q == y) := by
  have hs : ∀ q, q < n → (f q || q == y) = true → RchR nx 0 q := fun q hq hfq => by
    by_cases e : q = y
    · rw [e]; exact .step (h.m.sound j hj h.at_) he
    · exact h.m.sound q hq (by simpa [e] using hfq)
  cases hf : f y with
  | true =>
    have hsame : (fun q => f q || q == y) = f := by
      funext q
      by_cases e : q = y
      · rw [e, hf]; rfl
      · simp [e]
    rw [hsame]
    have ha : (ag || !true) = ag := by cases ag <;> rfl
    rw [ha]
    refine ⟨h.m, h.at_, fun hg z hz => ?_⟩
    rw [List.take_add_one, hy] at hz
    rcases List.mem_append.1 hz with hz | hz
    · exact h.seen hg z hz
    · have : (z : Int) = (y : Int) := by simpa using hz
      rw [show z = y by omega]
      exact hf
  | false =>
    have ha : (ag || !false) = true := by cases ag <;> rfl
    rw [ha]
    have hc := cntU_set hf n hyn
    have h1 := h.m.cnt
    exact ⟨⟨hs, by simp [h.m.start], by omega, fun _ => by omega, (fun h => by cases h)⟩, by simp [h.at_], (fun h => by cases h)⟩
theorem RiR.done {nx : Nat → List Int} {n r j t : Nat} {L : List Int} {ag : Bool} {f : Nat → Bool} (h : RiR nx n r j L t ag f) (ht : L.length ≤ t) (hL : ∀ y, EdgeR nx j y → (y : Int) ∈ L) : RmR nx n r (j + 1) ag f :=
  ⟨h.m.sound, h.m.start, h.m.cnt, h.m.cntA, fun ha q hq hfq => by
    rcases Nat.lt_or_ge q j with h1 | h1
    · exact h.m.closed ha q h1 hfq
    · intro y hy
      rw [show q = j by omega] at hy
      exact h.seen ha y (by rw [List.take_of_length_le ht]; exact hL y hy)⟩
theorem RoR.final {nx : Nat → List Int} {n r : Nat} {ag : Bool} {f : Nat → Bool} (h : RoR nx n r ag f) (he : ag = false ∨ n ≤ r) (hn : 0 < n) (hin : ∀ q y, EdgeR nx q y → y < n) {q : Nat} (hq : q < n) : f q = true ↔ RchR nx 0 q := by
  have hc : ∀ q, q < n → f q = true → ∀ y, EdgeR nx q y → f y = true := by
    cases ha : ag with
    | false => exact h.closed ha
    | true =>
      rcases he with he | he
      · rw [ha] at he; cases he
      · have := h.cnt ha; omega
  refine ⟨h.sound q hq, fun hr => ?_⟩
  clear hq
  have : q < n ∧ f q = true := by
    induction hr with
    | refl => exact ⟨hn, h.start⟩
    | step _ he ih => exact ⟨hin _ _ he, hc _ ih.1 ih.2 _ he⟩
  exact this.2
set_option maxHeartbeats 16000000 in
theorem rcode_any (p : Pr) (hs : List Bool) (code : List IV) (ns : Nat) (vn : Value) (nv : List Bool) (w : World) (h : PrOk w p hs code ns) (hl : ∀ x ∈ code, x.i.arms.length ≤ 100 ∧ x.i.args.length ≤ 100) (hn : code.length ≤ 1000) (hpos : 0 < code.length) (hw : ∀ x ∈ code, (1 ≤ x.i.op ∧ x.i.op ≤ 41) ∧ wrotL x.i = writesL x.i)
    (hnx : ∀ (q : Nat) (x : IV), code[q]? = some x → ∀ y ∈ nextI x.i (q : Int), 0 ≤ y ∧ y < (code.length : Int)) (hnv : BoolsAt w vn nv) :
    Calls Try.prog 22 #[p.val, vn] w (CodP w code (nextR code (begU code code.length) nv)) := by
  obtain ⟨gp, hgp⟩ : ∃ gp, gp = w.heap.size := ⟨_, rfl⟩
  obtain ⟨W1, hW1⟩ : ∃ W1, W1 = w.alloc (.cells p.arr 29) := ⟨_, rfl⟩
  have hb1 : Below w.heap.size w W1 := by rw [hW1]; exact (Below.refl _ _).alloc (Nat.le_refl _) _
  have HBP := hide (show Blk W1 gp 29 p.arr by rw [hW1, hgp]; exact Blk.new _ _ _)
  have HOK := hide (h.below hb1 (Nat.le_refl _))
  have HNV := hide (show BoolsAt W1 vn nv from hnv.below hb1 (Nat.le_refl _))
  obtain ⟨Ac, cc, hcv⟩ := h.cv.form
  obtain ⟨n, hnn⟩ : ∃ n, n = code.length := ⟨_, rfl⟩
  have hn' := hn
  have hpos' := hpos
  rw [← hnn] at hcv hn' hpos'
  have HIN := hide (show ∀ q y, EdgeR (nextR code (begU code code.length) nv) q y → y < n from fun q y he => by
    obtain ⟨x, hx, hy⟩ := nextR_edge he
    have := hnx q x hx (y : Int) hy
    omega)
  have HNG := hide (show ∀ (q : Nat) (y : Int), y ∈ nextR code (begU code code.length) nv q → 0 ≤ y from fun q y hy => by
    unfold nextR at hy
    cases hx : code[q]? with
    | none => rw [hx] at hy; cases hy
    | some x =>
      rw [hx] at hy
      exact (hnx q x hx y (nextX_sub hy)).1)
  have HST := hide (starts_any p hs code ns W1 HOK.out hl hn hpos hnx)
  obtain ⟨PV, hPV⟩ : ∃ PV, PV = p.val := ⟨_, rfl⟩
  have HPV := hide (show PV = .agg p.arr.toList.toArray from hPV)
  have HPV2 := hide (show PV = p.val from hPV)
  have HPV3 := hide (show PV = .agg p.arr from hPV)
  rw [← hPV] at HST ⊢
  have HY6 := hide (show ∀ wr, Below W1.heap.size W1 wr → wr.cell? ⟨gp, 6, none⟩ = some (.slice Ac n cc) from fun wr hw => by
    have h := (HBP.out.below hw HBP.out.lt).cell 6
    rw [h, ← hcv]
    rfl)
  have HSM := hide hl
  have HWE := hide hw
  have HNN := hide (show n = code.length ∧ n ≤ 1000 ∧ 0 < n ∧ code.length ≤ 1000 from ⟨hnn, hn', hpos', hn⟩)
  have HGP := hide hgp
  have HW1 := hide hW1
  have HB1 := hide hb1
  clear h hl hn hw hnv hnn hgp hW1 hb1 hcv hPV hn' hpos' hpos hnx
  go_enter Try.func22, Try.ntmps22
  go_upto_region 1 with (fail)
  rw [HPV3.out, ← HW1.out, ← HGP.out, ← HPV3.out]
  go_wp2_with (first
      | (refine wpList_load_blk (.tmp 2) HBP.out HPV.out Try.underlying29 rfl pr_size rfl rfl rfl ?_)
      | (refine wp_load_blk (.tmp 2) HBP.out HPV.out Try.underlying29 rfl pr_size rfl rfl ?_))
  refine HST.out.mono ?_
  rintro e w2 ⟨v2, rfl, hown2, hb2⟩
  obtain ⟨ms, hms⟩ : ∃ ms, ms = (begsN code code.length).length := ⟨_, rfl⟩
  rw [← hms] at hown2
  obtain ⟨As, cs, rfl⟩ := own_formT hown2
  have HSV := hide (show IntsAt w2 (.slice As ms cs) (begsN code code.length) from IntsAt.own (by rw [← hms]; exact hown2))
  have HB2 := hide hb2
  have y6 := HY6.out w2 hb2
  have hmk := make_bools n (by have := HNN.out; omega)
  obtain ⟨Z, hZ⟩ : ∃ Z, Z = bc n (fun _ => false) := ⟨_, rfl⟩
  rw [← hZ] at hmk
  obtain ⟨gs, hgs⟩ : ∃ gs, gs = w2.heap.size := ⟨_, rfl⟩
  obtain ⟨W3, hW3⟩ : ∃ W3, W3 = w2.alloc (.cells Z 4) := ⟨_, rfl⟩
  have HB3 := hide (show Below gs w2 W3 by rw [hW3, hgs]; exact (Below.refl _ _).alloc (Nat.le_refl _) _)
  have HBL := hide (show Blk W3 gs 4 Z by rw [hW3, hgs]; exact Blk.new _ _ _)
  have HZ := hide hZ
  have HZ0 := hide (show Z[0]? = some (.bool false) by rw [hZ]; exact bc_at _ HNN.out.2.2.1)
  have HN0 := hide (show (0 : Int) < (n : Int) by have := HNN.out; omega)
  have HGS := hide hgs
  have HW3 := hide hW3
  have HG2 := hide (show gs ≤ w2.heap.size ∧ W1.heap.size ≤ gs from ⟨Nat.le_of_eq hgs, by rw [hgs]; exact hb2.size⟩)
  have HUP := hide (fun wr (hw : Below gs w2 wr) => show Below W1.heap.size W1 wr from HB2.out.trans (hw.mono HG2.out.2))
  have HSR := hide (fun wr (hw : Below gs w2 wr) => show IntsAt wr (.slice As ms cs) (begsN code code.length) from HSV.out.below hw (by rw [HGS.out]; exact Nat.le_refl _))
  clear hms hown2 hb2 hZ hgs hW3
  go_upto_region 3 with (fail)
  rw [← HGS.out, ← HW3.out]
  clear hmk y6
  have y0 : W3.cell? ⟨gs, 0, none⟩ = some (.bool false) := (HBL.out.cell 0).trans HZ0.out
  have f0 := HBL.out.frozen 0
  have n0 : (0 : Int) < (n : Int) := HN0.out
  obtain ⟨W4, hW4⟩ : ∃ W4, W4 = W3.setCell ⟨gs, 0, none⟩ (.bool true) := ⟨_, rfl⟩
  have HB4 := hide (show Below gs w2 W4 by rw [hW4]; exact HB3.out.setCell (p := ⟨gs, 0, none⟩) (Nat.le_refl _) _)
  have HBL4 := hide (show Blk W4 gs 4 (bc n (fun q => q == 0)) by
    have h := HBL.out.set_ 0 (.bool true)
    rw [HZ.out, bc_set] at h
    rw [hW4]
    rw [bc_congr (f' := fun q => q == 0) (fun q _ => by simp)] at h
    exact h)
  have HR0 := hide (RoR.first (nx := nextR code (begU code code.length) nv) HNN.out.2.2.1)
  have HW4 := hide hW4
  clear hW4
  go_upto_region 4 with (fail)
  rw [← HW4.out]
  clear y0 f0 n0
  go_upto_region 6 with (fail)
  go_loopw [7, 8] (fun av rv wr => ∃ (r : Nat) (ag : Bool) (f : Nat → Bool), r ≤ n ∧ av = .bool ag ∧ rv = .int .i64 (r : Int) ∧ Hid (RoR (nextR code (begU code code.length) nv) n r ag f) ∧ Hid (Blk wr gs 4 (bc n f)) ∧ Hid (Below gs w2 wr)) (fun _ rv _ => n - (intOf rv).toNat)
  case atStart => exact ⟨0, true, _, Nat.zero_le _, rfl, rfl, HR0, HBL4, HB4⟩
  case round =>
    obtain ⟨r, ag, f, hr, rfl, rfl, HRO, HBF, HWR⟩ := hrel
    have y6 := HY6.out wr (HUP.out wr HWR.out)
    have HEND := hide (fun (he : ag = false ∨ n ≤ r) => show CodP w code (nextR code (begU code code.length) nv) (.returned (.slice (some ⟨gs, 0, none⟩) n n)) wr from
      ⟨gs, n, f, rfl, HNN.out.1, by have := HB1.out.size; have := HG2.out; omega, HBF.out, HB1.out.trans ((HUP.out wr HWR.out).mono HB1.out.size), fun q hq => HRO.out.final he HNN.out.2.2.1 HIN.out hq⟩)
    by_cases hlt : r < n
    · have r1 : (r : Int) < (n : Int) := by omega
      cases hag : ag with
      | false =>
        have HF := hide (HEND.out (.inl hag))
        subst hag
        go_wp2_with fail
        go_ret
        exact HF.out
      | true =>
        have HRG := hide (show RoR (nextR code (begU code code.length) nv) n r true f by have h := HRO.out; rw [hag] at h; exact h)
        subst hag
        obtain ⟨rn, hrn⟩ : ∃ rn, rn = r + 1 := ⟨_, rfl⟩
        have q5 : IntKind.i64.wrap ((r : Int) + 1) = (rn : Int) := by rw [IntWalk.i64_in _ (by have := HNN.out; omega)]; omega
        have HRN := hide hrn
        have HLT := hide hlt
        have HM0 := hide HRG.out.go
        clear hrn hlt hr
        go_upto_region 10 with (fail)
        clear y6
        go_loopw [7, 9] (fun av jv wr => ∃ (j : Nat) (ag : Bool) (f : Nat → Bool), j ≤ n ∧ av = .bool ag ∧ jv = .int .i64 (j : Int) ∧ Hid (RmR (nextR code (begU code code.length) nv) n r j ag f) ∧ Hid (Blk wr gs 4 (bc n f)) ∧ Hid (Below gs w2 wr)) (fun _ jv _ => n - (intOf jv).toNat)
        case atStart => exact ⟨0, false, f, Nat.zero_le _, rfl, rfl, HM0, HBF, HWR⟩
        case round =>
          clear HM0 HBF HWR HRG HRO HEND f
          obtain ⟨j, ag, f, hj, rfl, rfl, HRM, HBF, HWR⟩ := hrel
          have y6 := HY6.out wr (HUP.out wr HWR.out)
          by_cases hjn : j < n
          · have j1 : (j : Int) < (n : Int) := by omega
            have j2 : (0 : Int) ≤ (j : Int) := by omega
            obtain ⟨jn, hjn2⟩ : ∃ jn, jn = j + 1 := ⟨_, rfl⟩
            have q7 : IntKind.i64.wrap ((j : Int) + 1) = (jn : Int) := by rw [IntWalk.i64_in _ (by have := HNN.out; omega)]; omega
            have HJN := hide hjn2
            have HJL := hide hjn
            obtain ⟨fj, hfj⟩ : ∃ fj, fj = f j := ⟨_, rfl⟩
            have yf : wr.cell? ⟨gs, j, none⟩ = some (.bool fj) := by rw [hfj]; exact (HBF.out.cell j).trans (bc_at _ hjn)
            have HFJ := hide hfj
            clear hjn2 hjn hj hfj
            cases hc : fj with
            | false =>
              have HMS := hide (HRM.out.skip (by rw [← HFJ.out]; exact hc))
              subst hc
              go_wp2_with fail
              go_roundw
              case rel => exact ⟨jn, ag, f, by have := HJL.out; have := HJN.out; omega, rfl, rfl, by rw [HJN.out]; exact HMS, HBF, HWR⟩
              case measure => rw [HJN.out]; simp [intOf]; have := HJL.out; omega
            | true =>
              have HFT := hide (show f j = true by rw [← HFJ.out]; exact hc)
              subst hc
              obtain ⟨x, hx⟩ : ∃ x, code[j]? = some x := ⟨_, List.getElem?_eq_getElem (by have := HNN.out.1; have := HJL.out; omega)⟩
              have hNR : nextR code (begU code code.length) nv j = nextX code (begU code code.length) nv j x := by unfold nextR; rw [hx]
              have HNR := hide hNR
              have HNC := hide (rnextx_any p hs code ns j x (.slice As ms cs) vn nv wr (HOK.out.below (HUP.out wr HWR.out) (Nat.le_refl _)) HSM.out HNN.out.2.2.2 HWE.out hx (HSR.out wr HWR.out) (HNV.out.below (HUP.out wr HWR.out) (Nat.le_refl _)))
              rw [← HPV2.out] at HNC
              have HBPX := hide (HBP.out.below (HUP.out wr HWR.out) HBP.out.lt)
              clear hx hNR
              go_wp2_with (first
      | (refine wpList_load_blk (.tmp 2) HBPX.out HPV.out Try.underlying29 rfl pr_size rfl rfl rfl ?_)
      | (refine wp_load_blk (.tmp 2) HBPX.out HPV.out Try.underlying29 rfl pr_size rfl rfl ?_))
              refine HNC.out.mono ?_
              rintro e w7 ⟨v7, L, rfl, hown7, hb7, hmem, hlen⟩
              obtain ⟨nl, hnl⟩ : ∃ nl, nl = L.length := ⟨_, rfl⟩
              rw [← hnl] at hown7
              obtain ⟨A7, c7, rfl⟩ := own_formT hown7
              have HO7 := hide hown7
              have HB7 := hide (HWR.out.trans (hb7.mono (by have h1 := HWR.out.size; have := HG2.out; omega)))
              have HBF7 := hide (HBF.out.below hb7 HBF.out.lt)
              have HNL := hide (show nl = L.length ∧ L.length ≤ 1000 from ⟨hnl, hlen⟩)
              have HME := hide (show ∀ y : Nat, (y : Int) ∈ L ↔ EdgeR (nextR code (begU code code.length) nv) j y from fun y => by unfold EdgeR; rw [HNR.out]; exact hmem (y : Int))
              have HPO := hide (show ∀ y ∈ L, ∃ yn : Nat, y = (yn : Int) from fun y hy => by
                have h1 := (hmem y).1 hy
                have h2 : 0 ≤ y := HNG.out j y (by rw [HNR.out]; exact h1)
                exact ⟨y.toNat, by omega⟩)
              have HI0 := hide (HRM.out.into HFT.out L)
              clear hown7 hb7 hnl hmem hlen y6 yf
              go_upto_region 15 with (fail)
              go_loopw [7, 11] (fun av tv wr => ∃ (t : Nat) (ag : Bool) (f : Nat → Bool), t ≤ nl ∧ av = .bool ag ∧ tv = .int .i64 (t : Int) ∧ Hid (RiR (nextR code (begU code code.length) nv) n r j L t ag f) ∧ Hid (Blk wr gs 4 (bc n f)) ∧ Hid (wr.ownsRow gs 3 1 (.slice A7 nl c7) nl (L.map iI)) ∧ Hid (Below gs w2 wr)) (fun _ tv _ => nl - (intOf tv).toNat)
              case atStart => exact ⟨0, ag, f, Nat.zero_le _, rfl, rfl, HI0, HBF7, hide (own_monoT HO7.out (by have h1 := HWR.out.size; have := HG2.out; omega)), HB7⟩
              case round =>
                clear HI0 HBF7 HO7 HB7 HFT HFJ HRM HBF HNC HBPX HWR
                obtain ⟨t, ag, f, ht, rfl, rfl, HRI, HBT, HOT, HWT⟩ := hrel
                by_cases htn : t < nl
                · have t1 : (t : Int) < (nl : Int) := by omega
                  have t2 : (0 : Int) ≤ (t : Int) := by omega
                  obtain ⟨tn, htn2⟩ : ∃ tn, tn = t + 1 := ⟨_, rfl⟩
                  have q6 : IntKind.i64.wrap ((t : Int) + 1) = (tn : Int) := by rw [IntWalk.i64_in _ (by have := HNL.out; omega)]; omega
                  obtain ⟨b3, o3, y, rfl, hbl3, hy, y3⟩ := (IntsAt.own (l := L) (by rw [← HNL.out.1]; exact HOT.out) : IntsAt wr (.slice A7 L.length c7) L).at_ (k := t) (by rw [← HNL.out.1]; exact htn)
                  obtain ⟨yn, rfl⟩ := HPO.out y (List.mem_of_getElem? hy)
                  have hed : EdgeR (nextR code (begU code code.length) nv) j yn := (HME.out yn).1 (List.mem_of_getElem? hy)
                  have hyn : yn < n := HIN.out j yn hed
                  obtain ⟨bv, hbv⟩ : ∃ bv, bv = f yn := ⟨_, rfl⟩
                  have y5 : wr.cell? ⟨gs, yn, none⟩ = some (.bool bv) := by rw [hbv]; exact (HBT.out.cell yn).trans (bc_at _ hyn)
                  have f5 := HBT.out.frozen yn
                  have k1 : (yn : Int) < (n : Int) := by omega
                  have k2 : (0 : Int) ≤ (yn : Int) := by omega
                  have HRI2 := hide (HRI.out.step hy hyn HJL.out hed)
                  rw [← hbv] at HRI2
                  have HBT2 := hide (show Blk (wr.setCell ⟨gs, yn, none⟩ (.bool true)) gs 4 (bc n (fun q => f q || q == yn)) by
                    have h := HBT.out.set_ yn (.bool true)
                    rw [bc_set] at h
                    exact h)
                  have HOT2 := hide (ownsRow_setCell_other (a := ⟨gs, yn, none⟩) HOT.out (own_blk_ne HOT.out HBT.out (by decide)) (.bool true))
                  have HWT2 := hide (show Below gs w2 (wr.setCell ⟨gs, yn, none⟩ (.bool true)) from HWT.out.setCell (p := ⟨gs, yn, none⟩) (Nat.le_refl _) _)
                  have HTN := hide htn2
                  have HTL := hide htn
                  clear htn2 htn ht hbl3 hy hed hyn hbv
                  cases hag : ag with
                  | true =>
                    have HRI3 := hide (show RiR (nextR code (begU code code.length) nv) n r j L (t + 1) true (fun q => f q || q == yn) by have h := HRI2.out; rw [hag] at h; exact h)
                    subst hag
                    go_wp2_with fail
                    go_roundw
                    case rel => exact ⟨tn, true, _, by have := HTL.out; have := HTN.out; omega, rfl, rfl, by rw [HTN.out]; exact HRI3, HBT2, HOT2, HWT2⟩
                    case measure => rw [HTN.out]; simp [intOf]; have := HTL.out; omega
                  | false =>
                    have HRI3 := hide (show RiR (nextR code (begU code code.length) nv) n r j L (t + 1) (!bv) (fun q => f q || q == yn) by have h := HRI2.out; rw [hag] at h; exact h)
                    subst hag
                    go_wp2_with fail
                    go_roundw
                    case rel => exact ⟨tn, !bv, _, by have := HTL.out; have := HTN.out; omega, rfl, rfl, by rw [HTN.out]; exact HRI3, HBT2, HOT2, HWT2⟩
                    case measure => rw [HTN.out]; simp [intOf]; have := HTL.out; omega
                · have t1 : ¬ (t : Int) < (nl : Int) := by omega
                  have HMD := hide (HRI.out.done (by have := HNL.out.1; omega) (fun y hy => (HME.out y).2 hy))
                  clear htn ht
                  go_wp2_with fail
                  go_roundw
                  case rel => exact ⟨jn, ag, f, by have := HJL.out; have := HJN.out; omega, rfl, rfl, by rw [HJN.out]; exact HMD, HBT, HWT⟩
                  case measure => rw [HJN.out]; simp [intOf]; have := HJL.out; omega
          · have j1 : ¬ (j : Int) < (n : Int) := by omega
            have HRR := hide (show RoR (nextR code (begU code code.length) nv) n (r + 1) ag f by
              have h := HRM.out
              rw [show j = n by omega] at h
              exact h.over)
            clear hjn hj
            go_wp2_with fail
            go_roundw
            case rel => exact ⟨rn, ag, f, by have := HLT.out; have := HRN.out; omega, rfl, rfl, by rw [HRN.out]; exact HRR, HBF, HWR⟩
            case measure => rw [HRN.out]; simp [intOf]; have := HLT.out; omega
    · have r1 : ¬ (r : Int) < (n : Int) := by omega
      have HF := hide (HEND.out (.inr (by omega)))
      clear hlt hr
      go_wp2_with fail
      go_ret
      exact HF.out
end Go.Proofs.Ytaaadbaakhjkcaa
