/- Package wide: Mul, Quo, Rem; conditions: none but that numbers are of 64 bits. -/
import Derived.Test.YtgleldpdelhhhaaDoorWide4
import Derived.Deep.RegionHeld3
import Derived.Deep.DeepCutAuto
namespace Go.Proofs.YtgleldpdelhhhaaDoor
open Go.RowKit Go.WideShapes Go.ChangeShapes
set_option linter.unusedVariables false
set_option maxRecDepth 100000

theorem size_fit {x : Int} (hx : Fits x) (w : World) : Calls Tryd.prog 64 #[wv (hiW x) (loW x)] w fun e w' => e = .returned (wv (hiW (absW x)) (loW (absW x))) ∧ Below w.heap.size w w' := by
  have h := size_any (hiW x) (loW x) (hiW_word x) (loW_word x) w
  rw [num_of hx] at h
  exact h
theorem below_fit {x : Int} (hx : Fits x) (w : World) : Calls Tryd.prog 61 #[wv (hiW x) (loW x)] w fun e w' => e = .returned (.bool (decide (x < 0))) ∧ Below w.heap.size w w' := by
  have h := below_any (hiW x) (loW x) (hiW_word x) w
  rw [show decide (9223372036854775808 ≤ hiW x) = decide (x < 0) from decide_eq_decide.2 (neg_iff hx)] at h
  exact h

/-- Blocks of two words that stand, the youngest first. -/
structure WB (w : World) (gs : List (Nat × Int × Int)) (wr : World) : Prop where
  bl : ∀ p ∈ gs, Blk wr p.1 24 #[.int .u64 p.2.1, .int .u64 p.2.2]
  low : Below w.heap.size w wr
  base : ∀ p ∈ gs, w.heap.size ≤ p.1
  ord : gs.Pairwise fun p q => q.1 < p.1
theorem WB.next {w W W' : World} {gs : List (Nat × Int × Int)} (hb : Below W.heap.size W W') (h : Hid (WB w gs W)) : Hid (WB w gs W') :=
  hide ⟨fun p hp => (h.out.bl p hp).below hb (h.out.bl p hp).lt, h.out.low.trans (hb.mono h.out.low.size), h.out.base, h.out.ord⟩
theorem WB.at_ {w W : World} {gs : List (Nat × Int × Int)} (h : Hid (WB w gs W)) {g : Nat} {a b : Int} (hg : (g, a, b) ∈ gs) : Blk W g 24 #[.int .u64 a, .int .u64 b] := h.out.bl _ hg
theorem WB.addz {w W : World} {gs : List (Nat × Int × Int)} {x y : Int} (h : Hid (WB w gs W)) : Hid (WB w ((W.heap.size, x, y) :: gs) (W.alloc (.cells #[.int .u64 x, .int .u64 y] 24))) :=
  hide ⟨fun p hp => by
    rcases List.mem_cons.1 hp with rfl | hp
    · exact Blk.new _ _ _
    · exact (h.out.bl p hp).alloc _, h.out.low.alloc h.out.low.size _, fun p hp => by
    rcases List.mem_cons.1 hp with rfl | hp
    · exact h.out.low.size
    · exact h.out.base p hp, List.pairwise_cons.2 ⟨fun p hp => (h.out.bl p hp).lt, h.out.ord⟩⟩
theorem WB.drew {w W : World} {gs : List (Nat × Int × Int)} (h : Hid (WB w gs W)) : Hid (WB w gs W.drew) := hide ⟨fun p hp => (h.out.bl p hp).drew, h.out.low.drew, h.out.base, h.out.ord⟩
theorem WB.put {w W : World} {gs : List (Nat × Int × Int)} {g : Nat} {a b x y : Int} (h : Hid (WB w ((g, a, b) :: gs) W)) : Hid (WB w ((g, x, y) :: gs) ((W.setCell ⟨g, 0, none⟩ (.int .u64 x)).setCell ⟨g, 1, none⟩ (.int .u64 y))) :=
  hide ⟨fun p hp => by
    rcases List.mem_cons.1 hp with rfl | hp
    · exact set_two (WB.at_ h List.mem_cons_self) _ _
    · have hn : p.1 ≠ g := Nat.ne_of_lt ((List.pairwise_cons.1 h.out.ord).1 p hp)
      exact ((h.out.bl p (List.mem_cons_of_mem _ hp)).far (p := ⟨g, 0, none⟩) hn _).far (p := ⟨g, 1, none⟩) hn _, below_set2 h.out.low (h.out.base _ List.mem_cons_self) _ _, fun p hp => by
    rcases List.mem_cons.1 hp with rfl | hp
    · exact h.out.base (g, a, b) List.mem_cons_self
    · exact h.out.base p (List.mem_cons_of_mem _ hp), List.pairwise_cons.2 ⟨(List.pairwise_cons.1 h.out.ord).1, (List.pairwise_cons.1 h.out.ord).2⟩⟩
theorem WB.head {w W : World} {gs : List (Nat × Int × Int)} {g : Nat} {a b : Int} (h : Hid (WB w ((g, a, b) :: gs) W)) : W.cell? ⟨g, 0, none⟩ = some (.int .u64 a) ∧ W.cell? ⟨g, 1, none⟩ = some (.int .u64 b) ∧ W.frozen? ⟨g, 0, none⟩ = false ∧ W.frozen? ⟨g, 1, none⟩ = false :=
  two_cells (WB.at_ h List.mem_cons_self)
theorem WB.tail {w W : World} {gs : List (Nat × Int × Int)} {p : Nat × Int × Int} (h : Hid (WB w (p :: gs) W)) : Hid (WB w gs W) :=
  hide ⟨fun q hq => h.out.bl q (List.mem_cons_of_mem _ hq), h.out.low, fun q hq => h.out.base q (List.mem_cons_of_mem _ hq), (List.pairwise_cons.1 h.out.ord).2⟩

theorem WB.put2 {w W : World} {gs : List (Nat × Int × Int)} {g k : Nat} {a b c d x y : Int} (h : Hid (WB w ((g, a, b) :: (k, c, d) :: gs) W)) : Hid (WB w ((g, a, b) :: (k, x, y) :: gs) ((W.setCell ⟨k, 0, none⟩ (.int .u64 x)).setCell ⟨k, 1, none⟩ (.int .u64 y))) := by
  have hk : k < g := (List.pairwise_cons.1 h.out.ord).1 (k, c, d) List.mem_cons_self
  have hp := WB.put (x := x) (y := y) (WB.tail h)
  refine hide ⟨fun p hp' => ?_, hp.out.low, fun p hp' => ?_, List.pairwise_cons.2 ⟨fun p hp' => ?_, hp.out.ord⟩⟩
  · rcases List.mem_cons.1 hp' with rfl | hp'
    · exact ((WB.at_ h List.mem_cons_self).far (p := ⟨k, 0, none⟩) (Nat.ne_of_gt hk) _).far (p := ⟨k, 1, none⟩) (Nat.ne_of_gt hk) _
    · exact hp.out.bl p hp'
  · rcases List.mem_cons.1 hp' with rfl | hp'
    · exact h.out.base (g, a, b) List.mem_cons_self
    · exact hp.out.base p hp'
  · rcases List.mem_cons.1 hp' with rfl | hp'
    · exact hk
    · exact (List.pairwise_cons.1 h.out.ord).1 p (List.mem_cons_of_mem _ hp')
theorem WB.args4 {w W : World} {s g : Nat} {p q xh xl yh yl u v : Int} (h : Hid (WB w [(g, p, q), (s + 1 + 1, u, v), (s + 1, yh, yl), (s, xh, xl)] W)) :
    W.cell? ⟨g, 0, none⟩ = some (.int .u64 p) ∧ W.cell? ⟨g, 1, none⟩ = some (.int .u64 q) ∧ W.cell? ⟨s, 0, none⟩ = some (.int .u64 xh) ∧ W.cell? ⟨s, 1, none⟩ = some (.int .u64 xl) ∧ W.cell? ⟨s + 1, 0, none⟩ = some (.int .u64 yh) ∧ W.cell? ⟨s + 1, 1, none⟩ = some (.int .u64 yl) :=
  ⟨(WB.at_ h (g := g) (a := p) (b := q) (by simp)).cell 0, (WB.at_ h (g := g) (a := p) (b := q) (by simp)).cell 1, (WB.at_ h (g := s) (a := xh) (b := xl) (by simp)).cell 0, (WB.at_ h (g := s) (a := xh) (b := xl) (by simp)).cell 1, (WB.at_ h (g := s + 1) (a := yh) (b := yl) (by simp)).cell 0, (WB.at_ h (g := s + 1) (a := yh) (b := yl) (by simp)).cell 1⟩
theorem WB.res4 {w W : World} {s g : Nat} {p q xh xl yh yl u v : Int} (h : Hid (WB w [(g, p, q), (s + 1 + 1, u, v), (s + 1, yh, yl), (s, xh, xl)] W)) : Blk W (s + 1 + 1) 24 #[.int .u64 u, .int .u64 v] := WB.at_ h (by simp)
/-- The three blocks of a func of two numbers: its result's, its arguments'. -/
theorem wb_new3 (w : World) (a b c d x y : Int) : WB w [(w.heap.size + 1 + 1, x, y), (w.heap.size + 1, c, d), (w.heap.size, a, b)]
    (((w.alloc (.cells #[.int .u64 a, .int .u64 b] 24)).alloc (.cells #[.int .u64 c, .int .u64 d] 24)).alloc (.cells #[.int .u64 x, .int .u64 y] 24)) := by
  refine ⟨fun p hp => ?_, below3 _ _ _ _, fun p hp => ?_, by simp; omega⟩
  · simp only [List.mem_cons, List.not_mem_nil, or_false] at hp
    rcases hp with rfl | rfl | rfl
    · exact blk_new3 w _ _ _
    · exact (blk_at1 w _ _).alloc _
    · exact (blk_at0 w _ _).alloc _
  · simp only [List.mem_cons, List.not_mem_nil, or_false] at hp
    rcases hp with rfl | rfl | rfl <;> simp <;> omega
/-- What the cells of the arguments hold. -/
theorem WB.args {w W : World} {s : Nat} {xh xl yh yl u v : Int} (h : Hid (WB w [(s + 1 + 1, u, v), (s + 1, yh, yl), (s, xh, xl)] W)) :
    W.cell? ⟨s, 0, none⟩ = some (.int .u64 xh) ∧ W.cell? ⟨s, 1, none⟩ = some (.int .u64 xl) ∧ W.cell? ⟨s + 1, 0, none⟩ = some (.int .u64 yh) ∧ W.cell? ⟨s + 1, 1, none⟩ = some (.int .u64 yl) :=
  ⟨(WB.at_ h (g := s) (a := xh) (b := xl) (by simp)).cell 0, (WB.at_ h (g := s) (a := xh) (b := xl) (by simp)).cell 1, (WB.at_ h (g := s + 1) (a := yh) (b := yl) (by simp)).cell 0, (WB.at_ h (g := s + 1) (a := yh) (b := yl) (by simp)).cell 1⟩
theorem ansW_form (z : Int) : ∃ a b c, ansW z = .tuple #[wv a b, .int .i64 c] := by
  unfold ansW; split
  · exact ⟨_, _, _, rfl⟩
  · exact ⟨_, _, _, rfl⟩

set_option maxHeartbeats 4000000 in
theorem mul_any {x y : Int} (hx : Fits x) (hy : Fits y) (w : World) :
    Calls Tryd.prog 45 #[wv (hiW x) (loW x), wv (hiW y) (loW y)] w fun e w' => e = .returned (ansW (x * y)) ∧ Below w.heap.size w w' := by
  have HM := hide (wb_new3 w (hiW x) (loW x) (hiW y) (loW y) 0 0)
  have HSX := hide (fun W => size_fit hx W)
  have HSY := hide (fun W => size_fit hy W)
  have HT := hide (fun W => times_any (absW x) (absW y) (absW_big hx) (absW_big hy) W)
  obtain ⟨p, hp⟩ : ∃ v, v = timesP (absW x) (absW y) := ⟨_, rfl⟩
  obtain ⟨q, hq⟩ : ∃ v, v = timesQ (absW x) (absW y) := ⟨_, rfl⟩
  obtain ⟨ft, hft⟩ : ∃ v, v = timesB (absW x) (absW y) := ⟨_, rfl⟩
  rw [← hp, ← hq, ← hft] at HT
  have HP := hide (And.intro hp (And.intro hq hft))
  clear hp hq hft
  obtain ⟨xh, hxh⟩ : ∃ v, v = hiW x := ⟨_, rfl⟩
  obtain ⟨xl, hxl⟩ : ∃ v, v = loW x := ⟨_, rfl⟩
  obtain ⟨yh, hyh⟩ : ∃ v, v = hiW y := ⟨_, rfl⟩
  obtain ⟨yl, hyl⟩ : ∃ v, v = loW y := ⟨_, rfl⟩
  rw [← hxh, ← hxl] at HSX
  rw [← hyh, ← hyl] at HSY
  rw [← hxh, ← hxl, ← hyh, ← hyl] at HM
  rw [← hxh, ← hxl, ← hyh, ← hyl]
  have HX := hide (And.intro hxh (And.intro hxl (And.intro hyh hyl)))
  have HF := hide (And.intro hx hy)
  obtain ⟨s, hs⟩ : ∃ s, s = w.heap.size := ⟨_, rfl⟩
  rw [← hs] at HM
  have HS := hide hs
  clear hxh hxl hyh hyl hx hy hs
  go_enter Tryd.func45, Tryd.ntmps45
  go_wp2_with fail
  rw [← HS.out]
  obtain ⟨W0, hW0⟩ : ∃ W : World, W = (((w.alloc (.cells #[.int .u64 xh, .int .u64 xl] 24)).alloc (.cells #[.int .u64 yh, .int .u64 yl] 24)).alloc (.cells #[.int .u64 0, .int .u64 0] 24)) := ⟨_, rfl⟩
  rw [← hW0] at HM ⊢
  clear hW0
  have HM1 := WB.drew HM
  have HDR := hide (show W0.drew.heap.size = W0.heap.size from rfl)
  go_cut [6, 7] (fun s6 s7 wx => ∃ g, s6 = .pointer (some ⟨g, 0, none⟩) ∧ s7 = .bool ft ∧ Hid (WB w [(g, p, q), (s + 1 + 1, 0, 0), (s + 1, yh, yl), (s, xh, xl)] wx))
  case first =>
    go_region_held3 (fun w' => w'.cell? ⟨s, 0, none⟩ = some (.int .u64 xh) ∧ w'.cell? ⟨s, 1, none⟩ = some (.int .u64 xl) ∧ w'.cell? ⟨s + 1, 0, none⟩ = some (.int .u64 yh) ∧ w'.cell? ⟨s + 1, 1, none⟩ = some (.int .u64 yl))
      (first
        | exact WB.args (by assumption)
        | exact WB.args (WB.next ((Below.refl _ _).alloc (Nat.le_refl _) _) (by assumption))
        | exact WB.args (WB.tail (by assumption))
        | exact WB.args (WB.tail (WB.put (by assumption))))
      (first
        | (go_at_call 64; (with_reducible refine (HSX.out _).mono ?_); rintro e wa ⟨rfl, hba⟩; have hma := WB.next hba (by first | assumption | exact WB.addz (by assumption)); (try rw [HDR.out] at hma); obtain ⟨hca0, hca1, hca2, hca3⟩ := WB.head hma)
        | (go_at_call 64; (with_reducible refine (HSY.out _).mono ?_); rintro e wb ⟨rfl, hbb⟩; have hmb := WB.next hbb (by first | assumption | exact WB.addz (by assumption)); (try rw [HDR.out] at hmb); obtain ⟨hcb0, hcb1, hcb2, hcb3⟩ := WB.head hmb)
        | (go_at_call 59; (with_reducible refine (HT.out _).mono ?_); rintro e wc ⟨rfl, hbc⟩; have hmc := WB.next hbc (by first | assumption | exact WB.addz (by assumption)); (try rw [HDR.out] at hmc); obtain ⟨hcc0, hcc1, hcc2, hcc3⟩ := WB.head hmc))
    all_goals go_wp2_with fail
    all_goals (go_meet; exact ⟨_, rfl, rfl, by first | exact WB.put (by assumption) | exact WB.addz (by assumption)⟩)
  case rest =>
    obtain ⟨g, rfl, rfl, HM2⟩ := hcut
    clear HSX HSY HT HM1 HDR HM
    cases ft with
    | false =>
      have hno : ¬ Fits (x * y) := mul_over (fun e => by have h := HP.out.2.2; unfold timesB at h; rw [decide_eq_true e] at h; cases h)
      have HE := hide (show ansW (x * y) = .tuple #[wv 0 0, .int .i64 10] by unfold ansW; rw [if_neg hno])
      clear hno
      obtain ⟨e0, e1, e2, e3⟩ := two_cells (WB.res4 HM2)
      go_wp2_with fail
      have hm := WB.put2 (x := 0) (y := 0) HM2
      exact ret_wt (v := .int .i64 10) rfl rfl rfl rfl (WB.res4 hm) ⟨by rw [HE.out], hm.out.low⟩
    | true =>
      have hlt : absW x * absW y < 340282366920938463463374607431768211456 := of_decide_eq_true (by have h := HP.out.2.2; unfold timesB at h; exact h.symm)
      have hb := mul_big HF.out.1 HF.out.2 hlt
      have hti := times_is (absW_big HF.out.1) (absW_big HF.out.2) hlt
      have hsg := fun W => signed_any (absW x * absW y) (xorB (decide (x < 0)) (decide (y < 0))) hb W
      rw [← hti.1, ← hti.2, ← HP.out.1, ← HP.out.2.1, mul_abs] at hsg
      obtain ⟨zh, zl, ze, hz⟩ := ansW_form (x * y)
      rw [hz] at hsg
      have HZ := hide hz
      have HSG := hide hsg
      have hbx := fun W => below_fit HF.out.1 W
      have hby := fun W => below_fit HF.out.2 W
      rw [← HX.out.1, ← HX.out.2.1] at hbx
      rw [← HX.out.2.2.1, ← HX.out.2.2.2] at hby
      obtain ⟨bx, hbxe⟩ : ∃ b, b = decide (x < 0) := ⟨_, rfl⟩
      obtain ⟨by', hbye⟩ : ∃ b, b = decide (y < 0) := ⟨_, rfl⟩
      rw [← hbxe] at hbx HSG
      rw [← hbye] at hby HSG
      unfold xorB at HSG
      obtain ⟨xo, hxo⟩ : ∃ b, (!(bx == by')) = b := ⟨_, rfl⟩
      rw [show (bx != by') = xo from hxo] at HSG
      have HBX := hide hbx
      have HBY := hide hby
      clear hlt hb hti hsg hz hbx hby hbxe hbye
      have HM3 := WB.drew HM2
      go_wp2_with fail
      go_region_held3 (fun w' => w'.cell? ⟨g, 0, none⟩ = some (.int .u64 p) ∧ w'.cell? ⟨g, 1, none⟩ = some (.int .u64 q) ∧ w'.cell? ⟨s, 0, none⟩ = some (.int .u64 xh) ∧ w'.cell? ⟨s, 1, none⟩ = some (.int .u64 xl) ∧ w'.cell? ⟨s + 1, 0, none⟩ = some (.int .u64 yh) ∧ w'.cell? ⟨s + 1, 1, none⟩ = some (.int .u64 yl))
        (first
          | exact WB.args4 (by assumption)
          | exact WB.args4 (WB.put2 (by assumption)))
        (first
          | (go_at_call 61; (with_reducible refine (HBX.out _).mono ?_); rintro e wa ⟨rfl, hba⟩; have hma := WB.next hba (by assumption))
          | (go_at_call 61; (with_reducible refine (HBY.out _).mono ?_); rintro e wb ⟨rfl, hbb⟩; have hmb := WB.next hbb (by assumption))
          | (go_at_call 65; (with_reducible refine (HSG.out _).mono ?_); rintro e wc ⟨rfl, hbc⟩; have hmc := WB.next hbc (by assumption); obtain ⟨e0, e1, e2, e3⟩ := two_cells (WB.res4 hmc)))
      all_goals go_wp2_with fail
      have hm := WB.put2 (x := zh) (y := zl) hmc
      exact ret_wt (v := .int .i64 ze) rfl rfl rfl rfl (WB.res4 hm) ⟨by rw [HZ.out], hm.out.low⟩
end Go.Proofs.YtgleldpdelhhhaaDoor
