/- The fixed answers of layer 19 (awake); no conditions. -/
import Derived.Test.YtaaadbaakhjkcaaFlQR
namespace Go.Proofs.Ytaaadbaakhjkcaa
open Go.RowKit Go.WideShapes Go.ChangeShapes
set_option linter.unusedVariables false
set_option linter.unusedSimpArgs false
set_option maxRecDepth 100000

set_option maxHeartbeats 8000000 in
theorem awake19_any (w : World) : Calls Try.prog 7 #[] w (BoolP w true) := by
  obtain ⟨s, hs⟩ : ∃ s, s = w.heap.size := ⟨_, rfl⟩
  obtain ⟨C, hC⟩ : ∃ C, C = ((.int .i64 1 :: .int .i64 0 :: .int .i64 0 :: .int .i64 0 :: .int .i64 0 :: .int .i64 0 :: .string ⟨#[]⟩ :: .int .i64 0 :: .int .i64 0 :: .int .i64 0 :: .int .i64 0 :: .string ⟨#[]⟩ :: .slice none 0 0 :: .int .i64 0 :: .int .i64 0 :: .slice none 0 0 :: .int .i64 (-1) :: .int .i64 0 :: .int .i64 0 :: .int .i64 0 :: .int .i64 0 :: .int .i64 0 :: .int .i64 20 :: .int .i64 0 :: .int .i64 0 :: .int .i64 0 :: .int .i64 0 :: .int .i64 0 :: .string ⟨#[]⟩ :: .int .i64 0 :: .int .i64 0 :: .int .i64 0 :: .int .i64 0 :: .string ⟨#[]⟩ :: .slice none 0 0 :: .int .i64 0 :: .int .i64 3 :: .slice none 0 0 :: .int .i64 (-1) :: .int .i64 0 :: .int .i64 0 :: .int .i64 0 :: .int .i64 0 :: .int .i64 0 :: .int .i64 19 :: .int .i64 0 :: .int .i64 0 :: .int .i64 0 :: .int .i64 0 :: .int .i64 0 :: .string ⟨#[]⟩ :: .int .i64 0 :: .int .i64 0 :: .int .i64 0 :: .int .i64 0 :: .string ⟨#[]⟩ :: .slice none 0 0 :: .int .i64 0 :: .int .i64 0 :: .slice none 0 0 :: .int .i64 (-1) :: .int .i64 0 :: .int .i64 0 :: .int .i64 0 :: .int .i64 0 :: .int .i64 0 :: .int .i64 23 :: .int .i64 0 :: .int .i64 0 :: .int .i64 0 :: .int .i64 0 :: .int .i64 0 :: .string ⟨#[]⟩ :: .int .i64 0 :: .int .i64 0 :: .int .i64 0 :: .int .i64 0 :: .string ⟨#[]⟩ :: .slice none 0 0 :: .int .i64 0 :: .int .i64 0 :: .slice none 0 0 :: .int .i64 (-1) :: .int .i64 0 :: .int .i64 0 :: .int .i64 0 :: .int .i64 0 :: .int .i64 0 :: [] : List Value).toArray) := ⟨_, rfl⟩
  obtain ⟨W3, hW3⟩ : ∃ W3, W3 = (w.alloc (.cells C 45)).alloc (.cells #[.string ⟨#[]⟩, .int .i64 0, .int .i64 0, .slice none 0 0, .slice none 0 0, .int .i64 1, .slice (some ⟨s, 0, none⟩) 4 4, .int .i64 0, .slice none 0 0, .slice none 0 0, .slice none 0 0] 29) := ⟨_, rfl⟩
  have hb3 : Below w.heap.size w W3 := by rw [hW3]; exact ((Below.refl _ _).alloc (Nat.le_refl _) _).alloc (by simp) _
  have hbc : Blk W3 s 45 C := by rw [hW3, hs]; exact (Blk.new _ _ _).alloc _
  have hbp : Blk W3 (s + 1) 29 #[.string ⟨#[]⟩, .int .i64 0, .int .i64 0, .slice none 0 0, .slice none 0 0, .int .i64 1, .slice (some ⟨s, 0, none⟩) 4 4, .int .i64 0, .slice none 0 0, .slice none 0 0, .slice none 0 0] := by
    have h := Blk.new (w.alloc (.cells C 45)) 29 #[.string ⟨#[]⟩, .int .i64 0, .int .i64 0, .slice none 0 0, .slice none 0 0, .int .i64 1, .slice (some ⟨s, 0, none⟩) 4 4, .int .i64 0, .slice none 0 0, .slice none 0 0, .slice none 0 0]
    rw [← hW3] at h
    have e : (w.alloc (.cells C 45)).heap.size = s + 1 := by rw [hs]; simp
    rw [e] at h
    exact h
  obtain ⟨p, hp⟩ : ∃ p : Pr, p = { key := ⟨#[]⟩, pkg := 0, params := 0, regs := 1, caps := 0, vv := (.slice none 0 0), rs := (.slice none 0 0), cv := .slice (some ⟨s, 0, none⟩) 4 4, sv := (.slice none 0 0), ve := (.slice none 0 0), sn := (.slice none 0 0) } := ⟨_, rfl⟩
  have HPR := hide (show PrOk W3 p [] code9 0 by
    rw [hp]
    rw [hC] at hbc
    exact ⟨⟨none, 0, rfl, fun k b hk => by (cases hk)⟩, RowAt.own (B := 0) (e := 45) IV.enc_length (row9 W3 _ hbc), all9 W3, ⟨none, 0, rfl⟩⟩)
  have HGD := hide (show goodP p [] code9 0 = true from good9 p (by rw [hp]) (by rw [hp]) (by rw [hp]))
  have HOF := hide (of_some p [] code9 0 W3 HPR.out (by decide) small9 HGD.out)
  obtain ⟨VP, hVP⟩ : ∃ VP, VP = p.val := ⟨_, rfl⟩
  rw [← hVP] at HOF
  have HVP := hide (show VP = .agg p.arr from hVP)
  have HVP2 := hide (show VP = p.val from hVP)
  have HBP := hide (show Blk W3 (s + 1) 29 p.arr by rw [hp]; exact hbp)
  have HB3 := hide hb3
  have HW3 := hide hW3
  have HS := hide hs
  have HC := hide hC
  clear hp hVP hbp hbc hb3 hW3 hs hC
  go_enter Try.func7, Try.ntmps7
  go_upto_region 2 with (fail)
  rw [← HC.out, ← HS.out]
  rw [← HW3.out]
  go_wp2_with (first
    | (refine wpList_load_blk (.tmp 1) HBP.out HVP.out Try.underlying29 rfl pr_size rfl rfl rfl ?_)
    | (refine wp_load_blk (.tmp 1) HBP.out HVP.out Try.underlying29 rfl pr_size rfl rfl ?_))
  refine HOF.out.mono ?_
  rintro e w4 ⟨B, vb, va, vo, R, i, hB, rfl, hpath, hGR, hb4⟩
  obtain rfl : B = begU code9 4 := hB
  have ho := ord9 hpath
  rw [ho] at hGR
  have hrow : RowAt 4 BV.enc w4 vb (blV [(0, 2), (2, 3), (3, 4)] R) := by
    have h := hGR.bl
    rw [show code9.length = 4 from rfl, bls9.2] at h
    exact h
  have hord : IntsAt w4 vo [0, 2, 1] := hGR.or_
  have hnx : IntsAt w4 (R 0) [1, 2] := by
    have h := hGR.rws 0 (by rw [show code9.length = 4 from rfl, bls9.2]; decide)
    rw [show rowsU (nxB code9 (begU code9 4)) (bls (begU code9 4) code9.length).length 0 = [1, 2] from nx9 0] at h
    exact h
  obtain ⟨Ab, cb, hvb⟩ := hrow.form
  obtain rfl : vb = .slice Ab 3 cb := hvb
  obtain ⟨Ao, co, hvo⟩ := hord.form
  obtain rfl : vo = .slice Ao 3 co := hvo
  obtain ⟨Aa, ca, hva⟩ := hGR.at_.form
  obtain rfl : va = .slice Aa 4 ca := by rw [hva, List.length_map, List.length_range]; rfl
  obtain ⟨An, cn, hvn⟩ := hnx.form
  have hvn : R 0 = .slice An 2 cn := hvn
  obtain ⟨W5, hW5⟩ : ∃ W5, W5 = w4.alloc (.cells #[.slice Ab 3 cb, .slice Aa 4 ca, .slice Ao 3 co] 34) := ⟨_, rfl⟩
  have hb5 : Below w4.heap.size w4 W5 := by rw [hW5]; exact (Below.refl _ _).alloc (Nat.le_refl _) _
  obtain ⟨g, hg⟩ : ∃ g, g = w4.heap.size := ⟨_, rfl⟩
  have hbg : Blk W5 g 34 #[.slice Ab 3 cb, .slice Aa 4 ca, .slice Ao 3 co] := by rw [hW5, hg]; exact Blk.new _ _ _
  have HBX := hide (show Below w.heap.size w W5 from (HB3.out.trans (hb4.mono HB3.out.size)).trans (hb5.mono (HB3.out.trans (hb4.mono HB3.out.size)).size))
  have HBY := hide (show Below W3.heap.size W3 W5 from hb4.trans (hb5.mono hb4.size))
  have HROW := hide (hrow.below hb5 (Nat.le_refl _))
  have HORD := hide (hord.below hb5 (Nat.le_refl _))
  have HVN := hide hvn
  have HG := hide hg
  have HBG := hide hbg
  have HW5 := hide hW5
  clear hpath hGR hb4 ho hrow hord hnx hvn hb5 hbg hg hW5
  go_upto_region 3 with (fail)
  rw [← HG.out, ← HW5.out]
  obtain ⟨bb, ob, x0, rfl, hl0, hx0, hc0⟩ := RowAt.at_ HROW.out (i := 0) (by rw [blV_len]; decide)
  obtain ⟨bb', ob', x1, e1, hl1, hx1, hc1⟩ := RowAt.at_ HROW.out (i := 1) (by rw [blV_len]; decide)
  injection e1 with e1
  injection e1 with e1 e2
  subst e1 e2
  rw [blV_at (x := (0, 2)) R rfl] at hx0
  injection hx0 with hx0
  rw [blV_at (x := (2, 3)) R rfl] at hx1
  injection hx1 with hx1
  obtain ⟨bo, oo, y0, rfl, hlo, hy0, yo⟩ := HORD.out.at_ (k := 0) (by decide)
  obtain rfl : (0 : Int) = y0 := by simpa using hy0
  have yo : W5.cell? ⟨bo, oo, none⟩ = some (.int .i64 0) := yo
  have yt : W5.cell? ⟨bb, ob + 1, none⟩ = some (.int .i64 2) := by
    have h := hc0 1 (.int .i64 2) (by rw [← hx0]; rfl)
    simpa using h
  have yn : W5.cell? ⟨bb, ob + 2, none⟩ = some (.slice An 2 cn) := by
    have h := hc0 2 (.slice An 2 cn) (by rw [← hx0, ← HVN.out]; rfl)
    simpa using h
  have yf : W5.cell? ⟨bb, ob + 4, none⟩ = some (.int .i64 2) := by
    have h := hc1 0 (.int .i64 2) (by rw [← hx1]; rfl)
    simpa using h
  have g0 : W5.cell? ⟨g, 0, none⟩ = some (.slice (some ⟨bb, ob, none⟩) 3 cb) := HBG.out.cell 0
  have g2 : W5.cell? ⟨g, 2, none⟩ = some (.slice (some ⟨bo, oo, none⟩) 3 co) := HBG.out.cell 2
  have HBP5 := hide (HBP.out.below HBY.out HBP.out.lt)
  have HC1 := hide (comes_any p [] code9 0 0 3 W5 (HPR.out.below HBY.out (Nat.le_refl _)) (by decide) small9)
  rw [← HVP2.out] at HC1
  clear hl0 hx0 hc0 hl1 hx1 hc1 hlo hy0
  go_wp2_with (first
    | (refine wpList_load_blk (.tmp 1) HBP5.out HVP.out Try.underlying29 rfl pr_size rfl (wanted_of 30 51 true rfl rfl rfl rfl) rfl ?_))
  refine HC1.out.mono ?_
  rintro e w6 ⟨r6, rfl, hb6, hr6⟩
  obtain rfl : r6 = true := hr6.2 ⟨by decide, by decide, by decide, by decide, HGD.out, rch9_03⟩
  have HBY6 := hide (HBY.out.trans (hb6.mono HBY.out.size))
  have HBX6 := hide (HBX.out.trans (hb6.mono HBX.out.size))
  have HBP6 := hide (HBP.out.below HBY6.out HBP.out.lt)
  have HC2 := hide (comes_any p [] code9 0 3 0 w6 (HPR.out.below HBY6.out (Nat.le_refl _)) (by decide) small9)
  rw [← HVP2.out] at HC2
  clear hb6 hr6 yo yt yn yf g0 g2
  go_wp2_with (first
    | (refine wpList_load_blk (.tmp 1) HBP6.out HVP.out Try.underlying29 rfl pr_size rfl (wanted_of 34 55 true rfl rfl rfl rfl) rfl ?_))
  refine HC2.out.mono ?_
  rintro e w7 ⟨r7, rfl, hb7, hr7⟩
  obtain rfl : r7 = false := by
    cases r7 with
    | false => rfl
    | true => exact absurd (hr7.1 rfl).2.2.2.2.2 rch9_30
  have HBX7 := hide (HBX6.out.trans (hb7.mono HBX6.out.size))
  clear hb7 hr7
  go_wp2_with fail
  go_ret
  exact ⟨rfl, HBX7.out⟩
end Go.Proofs.Ytaaadbaakhjkcaa

namespace Go.Proofs.Ytaaadbaakhjkcaa
open Go.RowKit Go.WideShapes Go.ChangeShapes
set_option linter.unusedVariables false
set_option linter.unusedSimpArgs false
set_option maxRecDepth 100000

def stA (l : List (Nat × Nat)) (n b : Nat) : Nat := match l[b]? with | some x => x.1 | none => n
theorem sta_zero {B : Nat → Bool} {n : Nat} {l : List (Nat × Nat)} (h : BlsOk B n l) (hl : 0 < l.length) : stA l n 0 = 0 := by
  have hx := List.getElem?_eq_getElem hl
  unfold stA
  rw [hx]
  exact h.first _ hx
theorem sta_at {l : List (Nat × Nat)} {n b : Nat} {x : Nat × Nat} (hx : l[b]? = some x) : stA l n b = x.1 := by unfold stA; rw [hx]
theorem sta_next {B : Nat → Bool} {n : Nat} {l : List (Nat × Nat)} (h : BlsOk B n l) {b : Nat} {x : Nat × Nat} (hx : l[b]? = some x) : stA l n (b + 1) = x.2 := by
  unfold stA
  cases hy : l[b + 1]? with
  | some y => exact (h.next b x y hx hy).symm
  | none =>
    refine (h.last x ?_).symm
    rw [List.getLast?_eq_getElem?]
    have h1 : l.length ≤ b + 1 := List.getElem?_eq_none_iff.1 hy
    have h2 : b < l.length := by
      rcases Nat.lt_or_ge b l.length with h3 | h3
      · exact h3
      · rw [List.getElem?_eq_none h3] at hx; cases hx
    rw [show l.length - 1 = b by omega]
    exact hx
theorem sta_end {l : List (Nat × Nat)} {n b : Nat} (h : l.length ≤ b) : stA l n b = n := by unfold stA; rw [List.getElem?_eq_none h]
theorem small_of9 {hs : List Bool} {code : List IV} {ns : Nat} (h : greatC9 hs code ns = false) : code.length ≤ 60 ∧ ∀ x ∈ code, x.i.arms.length ≤ 100 ∧ x.i.args.length ≤ 100 := by
  unfold greatC9 at h
  rw [Bool.or_eq_false_iff, Bool.or_eq_false_iff, Bool.or_eq_false_iff] at h
  obtain ⟨h1, h2, h3, h4⟩ := h
  refine ⟨by have := of_decide_eq_false h1; omega, fun x hx => ?_⟩
  have h5 := List.any_eq_false.1 h4 x hx
  have h6 : greatX9 x.i = false := by simpa using h5
  unfold greatX9 at h6
  rw [Bool.or_eq_false_iff, Bool.or_eq_false_iff] at h6
  have h7 := of_decide_eq_false h6.1
  have h8 := of_decide_eq_false h6.2.1
  omega
/-- A graph that Of answered, with its parts' forms. -/
structure GrF (w : World) (p : Pr) (hs : List Bool) (code : List IV) (ns : Nat) (B : Nat → Bool) (Ab Aa Ao : Option Addr) (cb ca co kb n lo : Nat) (R : Nat → Value) (o : List Nat) : Prop where
  g : Gr p hs code ns B
  ord : OrdOk (nxN code B) o
  at_ : GrAt w code B (.slice Ab kb cb) (.slice Aa n ca) (.slice Ao lo co) R o
  kbl : kb = (bls B code.length).length
  nl : n = code.length
  lol : lo = o.length
theorem grf_of {w : World} {p : Pr} {hs : List Bool} {code : List IV} {ns : Nat} {B : Nat → Bool} {vb va vo : Value} {R : Nat → Value} {i : Nat} (hg : goodP p hs code ns = true) (hn : code.length ≤ 1000) (hB : B = begU code code.length) (hp : (oiter (nxN code B) i ostart).path = []) (ha : GrAt w code B vb va vo R (oiter (nxN code B) i ostart).left.reverse) :
    ∃ Ab cb Aa ca Ao co kb n lo o, vb = .slice Ab kb cb ∧ va = .slice Aa n ca ∧ vo = .slice Ao lo co ∧ GrF w p hs code ns B Ab Aa Ao cb ca co kb n lo R o := by
  obtain ⟨Ab, cb, hvb⟩ := ha.bl.form
  obtain ⟨Aa, ca, hva⟩ := ha.at_.form
  obtain ⟨Ao, co, hvo⟩ := ha.or_.form
  rw [blV_len] at hvb
  rw [List.length_map, List.length_range] at hva
  rw [List.length_map] at hvo
  refine ⟨Ab, cb, Aa, ca, Ao, co, _, _, _, _, hvb, hva, hvo, ⟨hg, hn, hB⟩, ord_ok (fun k y hy => ?_) hp, by rw [← hvb, ← hva, ← hvo]; exact ha, rfl, rfl, rfl⟩
  unfold nxN at hy
  rw [gr_nxt] at hy
  obtain ⟨z, _, rfl⟩ := List.mem_map.1 hy
  omega
section
variable {w : World} {p : Pr} {hs : List Bool} {code : List IV} {ns : Nat} {B : Nat → Bool} {Ab Aa Ao : Option Addr} {cb ca co kb n lo : Nat} {R : Nat → Value} {o : List Nat} (f : GrF w p hs code ns B Ab Aa Ao cb ca co kb n lo R o)
include f
theorem GrF.below {w' : World} {b : Nat} (hb : Below b w w') (hB : w.heap.size ≤ b) : GrF w' p hs code ns B Ab Aa Ao cb ca co kb n lo R o := ⟨f.g, f.ord, f.at_.below hb hB, f.kbl, f.nl, f.lol⟩
theorem GrF.some_ {b : Nat} (hb : b < kb) : ∃ x, (bls B code.length)[b]? = some x := ⟨_, List.getElem?_eq_getElem (by rw [← f.kbl]; exact hb)⟩
theorem GrF.kpos : 0 < kb := by rw [f.kbl]; exact f.g.klen
theorem GrF.kle : kb ≤ 1000 := by rw [f.kbl]; have := bls_le B code.length; have := f.g.len; omega
/-- The four cells of a block. -/
theorem GrF.cells {b : Nat} {x : Nat × Nat} (hx : (bls B code.length)[b]? = some x) : ∃ bb ob, Ab = some ⟨bb, ob, none⟩ ∧ bb < w.heap.size ∧ w.cell? ⟨bb, ob + b * 4, none⟩ = some (.int .i64 (x.1 : Int)) ∧ w.cell? ⟨bb, ob + b * 4 + 1, none⟩ = some (.int .i64 (x.2 : Int)) ∧ w.cell? ⟨bb, ob + b * 4 + 2, none⟩ = some (R (2 * b)) ∧ w.cell? ⟨bb, ob + b * 4 + 3, none⟩ = some (R (2 * b + 1)) := by
  have hb : b < (blV (bls B code.length) R).length := by
    rw [blV_len]
    rcases Nat.lt_or_ge b (bls B code.length).length with h1 | h1
    · exact h1
    · rw [List.getElem?_eq_none h1] at hx; cases hx
  obtain ⟨bb, ob, y, h1, h2, h3, h4⟩ := RowAt.at_ f.at_.bl (i := b) hb
  rw [blV_at _ hx] at h3
  injection h3 with h3
  subst h3
  exact ⟨bb, ob, h1, h2, h4 0 _ rfl, h4 1 _ rfl, h4 2 _ rfl, h4 3 _ rfl⟩
/-- The row of those with which a block goes on. -/
theorem GrF.nexts {b : Nat} (hb : b < kb) : ∃ A c, R (2 * b) = .slice A (nxB code B b).length c ∧ IntsAt w (R (2 * b)) ((nxB code B b).map (fun q : Nat => (q : Int))) := by
  have h := f.at_.rws (2 * b) (by rw [← f.kbl]; omega)
  rw [gr_nxt] at h
  obtain ⟨A, c, hv⟩ := h.form
  rw [List.length_map] at hv
  exact ⟨A, c, hv, h⟩
theorem GrF.prevs (hl : ∀ x ∈ code, x.i.arms.length ≤ 100 ∧ x.i.args.length ≤ 100) {b : Nat} (hb : b < kb) : ∃ (L : List Int) (A : Option Addr) (c : Nat), R (2 * b + 1) = .slice A L.length c ∧ IntsAt w (R (2 * b + 1)) L ∧ L.length ≤ 110000 ∧ ∀ y, y ∈ L ↔ ∃ q : Nat, y = (q : Int) ∧ q < kb ∧ b ∈ nxB code B q := by
  have h := f.at_.rws (2 * b + 1) (by rw [← f.kbl]; omega)
  obtain ⟨A, c, hv⟩ := h.form
  refine ⟨_, A, c, hv, h, ?_, fun y => by rw [gr_prv, ← f.kbl]⟩
  have h1 := rowsU_len (nxB_len hl B) (2 * b + 1) (bls B code.length).length
  have h2 := f.kle
  rw [f.kbl] at h2
  have h3 : 102 * (bls B code.length).length ≤ 102 * 1000 := Nat.mul_le_mul_left _ h2
  omega
theorem GrF.ord_lt {q : Nat} (h : q ∈ o) : q < kb := by
  have hr := (f.ord.mem q).1 h
  cases hr with
  | refl => exact f.kpos
  | step _ hy =>
    unfold nxN at hy
    rw [gr_nxt] at hy
    obtain ⟨z, hz, e⟩ := List.mem_map.1 hy
    have e2 : z = q := by omega
    subst e2
    rw [f.kbl]
    exact nxB_lt f.g.good f.g.zero _ z hz
/-- Whoever stands in the order, but the first one, has one ahead that goes on with it. -/
theorem GrF.ord_prev {i q : Nat} (hq : o[i]? = some q) (hi : i ≠ 0) : ∃ r, r ∈ o.take i ∧ r < kb ∧ q ∈ nxB code B r := by
  rcases f.ord.ahead i q hq with h | ⟨j, r, hj, hr, hm⟩
  · exact absurd h hi
  · unfold nxN at hm
    rw [gr_nxt] at hm
    obtain ⟨z, hz, e⟩ := List.mem_map.1 hm
    have e2 : z = q := by omega
    subst e2
    refine ⟨r, ?_, f.ord_lt (List.mem_of_getElem? hr), hz⟩
    exact List.mem_of_getElem? (i := j) (by rw [List.getElem?_take_of_lt hj]; exact hr)
theorem GrF.ord_new {i q : Nat} (hq : o[i]? = some q) : q ∉ o.take i := by
  intro hm
  obtain ⟨j, hj, hjq⟩ := List.mem_iff_getElem.1 hm
  rw [List.length_take] at hj
  rw [List.getElem_take] at hjq
  have h1 : o[j]? = some q := by rw [List.getElem?_eq_getElem (by omega), hjq]
  have := (List.getElem?_inj (h₀ := by omega) (h₁ := f.ord.nd)).1 (h1.trans hq.symm)
  omega
theorem GrF.ord_rch {b : Nat} {x : Nat × Nat} (hx : (bls B code.length)[b]? = some x) : b ∈ o ↔ Rch code 0 x.1 := by
  rw [f.ord.mem, f.g.rch (N := nxN code B) (fun k => by unfold nxN; exact gr_nxt code B k) hx]
theorem GrF.nx_lt {b y : Nat} (h : y ∈ nxB code B b) : y < kb := by rw [f.kbl]; exact nxB_lt f.g.good f.g.zero b y h
end
end Go.Proofs.Ytaaadbaakhjkcaa
