/- The scanner's skip, end and put; conditions: the scanner is one of the call's own, of some size. -/
import Derived.Test.YtgnobpljnahceaaDoorSnF
import Derived.StillTailTactics
import Derived.Deep.RegionLaw
namespace Go.Proofs.YtgnobpljnahceaaDoor
open Go.RowKit Go.WideShapes Go.ChangeShapes
set_option linter.unusedVariables false
set_option linter.unusedSimpArgs false
set_option maxRecDepth 100000

section
variable {w w' : World} {B b : Nat} {s : ByteArray} {f : Int} {v : Value} {x : SS}
/-- A scanner some bytes further on. -/
def SS.fwd (x : SS) (s : ByteArray) (n : Nat) : SS := ⟨x.k + n, adv x.p ((s.data.toList.drop x.k).take n), x.acc, x.o, x.bad⟩
theorem fwd_step (x y : SS) (s : ByteArray) (j : Nat) (hy : y = x.fwd s j) (h : y.k < s.size) : x.fwd s (j + 1) = ⟨y.k + 1, adv1 y.p (s[y.k]'h), y.acc, y.o, y.bad⟩ := by
  subst hy
  have h' : x.k + j < s.size := h
  have e := dropS s (x.k + j) h'
  rw [← List.drop_drop] at e
  unfold SS.fwd
  rw [take_adv _ _ _ _ _ e]
  rfl
/-- Block b alone has turned. -/
def Only (b : Nat) (w w' : World) : Prop := Below b w w' ∧ ∀ k, k ≠ b → w'.heap[k]? = w.heap[k]?
theorem Only.refl (b : Nat) (w : World) : Only b w w := ⟨Below.refl _ _, fun _ _ => rfl⟩
theorem below_drewNT {B : Nat} {a w : World} (h : Below B a w) : ∀ n, Below B a (w.drewN n)
  | 0 => h
  | n + 1 => by
    have := below_drewNT h n
    exact ⟨this.os, this.tape, this.output, this.size, this.block⟩
theorem Only.drew {b : Nat} {w w' : World} (h : Only b w w') : Only b w w'.drew := ⟨h.1.drew, h.2⟩
theorem Only.drewN {b : Nat} {w w' : World} (h : Only b w w') (n : Nat) : Only b w (w'.drewN n) := ⟨below_drewNT h.1 n, fun k hk => h.2 k hk⟩
theorem Only.set {b : Nat} {w w' : World} (h : Only b w w') (i : Nat) (u : Value) : Only b w (w'.setCell ⟨b, i, none⟩ u) := ⟨h.1.setCell (p := ⟨b, i, none⟩) (Nat.le_refl _) u, fun k hk => (Below.heap_setCell _ _ _ _ hk).trans (h.2 k hk)⟩
def SkipRel (w : World) (B b : Nat) (s : ByteArray) (f : Int) (v : Value) (x : SS) (n : Nat) (i : Value) (wr : World) : Prop :=
  ∃ j : Nat, i = .int .i64 (j : Int) ∧ j ≤ n ∧ Sc wr B b s f v (x.fwd s j) ∧ Below B w wr
theorem skip_end {wr w' : World} {y : SS} {n j : Nat} (hc : Sc wr B b s f v y) (hbw : Below B w wr) (ho : Only b wr w') (hj : j < n) (x' : SS) (hx : x.fwd s (j + 1) = x') (ha : x'.acc = y.acc)
    (hb : Blk w' b 90 #[.string s, .int .i64 (x'.k : Int), .int .i64 f, .int .i64 (x'.p.1 : Int), .int .i64 (x'.p.2 : Int), v, .bool x'.o, .bool x'.bad]) :
    SkipRel w B b s f v x n (.int .i64 ((j : Int) + 1)) w' := by
  obtain ⟨e1, e2⟩ := hc.put_ ho.1 ho.2 hb ha
  exact ⟨j + 1, by simp, by omega, by rw [hx]; exact e1, hbw.trans e2⟩

set_option maxHeartbeats 4000000 in
theorem skip_any (h : Sc w B b s f v x) (n : Nat) (hn : x.k + n ≤ s.size) (hs : s.size ≤ 70000) (h1 : x.p.1 ≤ 200000) (h2 : x.p.2 ≤ 200000) :
    Calls Tryd.prog 64 #[.pointer (some ⟨b, 0, none⟩), .int .i64 (n : Int)] w fun e w' => e = .returned (.tuple #[]) ∧ Sc w' B b s f v (x.fwd s n) ∧ Below B w w' := by
  have HN := hide hn
  have HS := hide hs
  have HP := hide (And.intro h1 h2)
  have h0 : Sc w B b s f v (x.fwd s 0) := by unfold SS.fwd; simpa [adv] using h
  have H0 := hide h0
  clear h h0 hn hs h1 h2
  go_enter Tryd.func64, Tryd.ntmps64
  go_wp2_with fail
  go_loopw [5] (fun i wr => SkipRel w B b s f v x n i wr) (fun i _ => (((n : Int) - intOf i).toNat))
  case atStart => exact ⟨0, rfl, Nat.zero_le _, H0.out, Below.refl _ _⟩
  case round =>
    obtain ⟨j, rfl, hj, hc, hbw⟩ := hrel
    by_cases hlt : j < n
    · have hpl := adv_le ((s.data.toList.drop x.k).take j) x.p 200000 HP.out.1 HP.out.2 (by omega)
      have hpb : (x.fwd s j).p.1 ≤ 300000 ∧ (x.fwd s j).p.2 ≤ 300000 := by
        have : ((s.data.toList.drop x.k).take j).length ≤ j := by rw [List.length_take]; omega
        have h3 := HS.out
        have h4 := HN.out
        unfold SS.fwd
        simp only
        omega
      obtain ⟨y, hy⟩ : ∃ y, y = x.fwd s j := ⟨_, rfl⟩
      have hyk : y.k = x.k + j := by rw [hy]; rfl
      have hk : y.k < s.size := by have := HN.out; omega
      have hst := fwd_step x y s j hy hk
      rw [← hy] at hc hpb
      obtain ⟨yk, ⟨p1, p2⟩, ya, yo, yb⟩ := y
      simp only at hyk hpb hk hst
      have hkl : yk ≤ 70000 := by have := HS.out; omega
      have HYE := hide hy
      have HC := hide hc
      have HST := hide hst
      have HBW := hide hbw
      have i1 : (j : Int) < (n : Int) := by omega
      have i2 : (yk : Int) < (s.size : Int) := by omega
      have q1 : IntKind.i64.wrap ((p1 : Int) + 1) = (p1 : Int) + 1 := IntWalk.i64_in _ (by omega)
      have q2 : IntKind.i64.wrap ((p2 : Int) + 1) = (p2 : Int) + 1 := IntWalk.i64_in _ (by omega)
      have q3 : IntKind.i64.wrap ((yk : Int) + 1) = (yk : Int) + 1 := IntWalk.i64_in _ (by have := HS.out; omega)
      have q4 : IntKind.i64.wrap ((j : Int) + 1) = (j : Int) + 1 := IntWalk.i64_in _ (by have := HN.out; have := HS.out; omega)
      obtain ⟨c0, c1, c2, c3, c4, c5, c6, c7⟩ := hc.cells
      simp only at c0 c1 c2 c3 c4 c5 c6 c7
      have z0 := hc.bl.frozen 0
      have z1 := hc.bl.frozen 1
      have z3 := hc.bl.frozen 3
      have z4 := hc.bl.frozen 4
      clear hc hst hbw hpb hpl hy hyk
      by_cases hb : s[yk]'hk = 10
      · have hbi : ((s[yk]'hk).toNat : Int) = 10 := by rw [hb]; rfl
        have HB := hide hb
        clear hb
        go_wp2_with fail
        go_quiet (fail)
        go_wp2_with fail
        go_roundw
        case rel =>
          refine skip_end HC.out HBW.out (((((Only.refl b wr).drewN nq).set 3 _).set 4 _ |>.set 4 _).set 1 _) hlt _ HST.out rfl ?_
          have hb := ((((HC.out.bl.drewN nq).set_ 3 (.int .i64 ((p1 : Int) + 1))).set_ 4 (.int .i64 0)).set_ 4 (.int .i64 1)).set_ 1 (.int .i64 ((yk : Int) + 1))
          have e : adv1 (p1, p2) (s[yk]'hk) = (p1 + 1, 1) := by unfold adv1; rw [if_pos HB.out]
          rw [e]
          simpa using hb
        case measure => simp [intOf]; omega
      · have hbi : ¬ ((s[yk]'hk).toNat : Int) = 10 := fun e => hb (UInt8.toNat_inj.1 (by have : (10 : UInt8).toNat = 10 := rfl; omega))
        have HB := hide hb
        clear hb
        go_wp2_with fail
        go_quiet (fail)
        go_wp2_with fail
        go_roundw
        case rel =>
          refine skip_end HC.out HBW.out ((((Only.refl b wr).drewN nq).set 4 _).set 1 _) hlt _ HST.out rfl ?_
          have hb := ((HC.out.bl.drewN nq).set_ 4 (.int .i64 ((p2 : Int) + 1))).set_ 1 (.int .i64 ((yk : Int) + 1))
          have e : adv1 (p1, p2) (s[yk]'hk) = (p1, p2 + 1) := by unfold adv1; rw [if_neg HB.out]
          rw [e]
          simpa using hb
        case measure => simp [intOf]; omega
    · have e : j = n := by omega
      subst e
      have i1 : decide ((j : Int) < (j : Int)) = false := decide_eq_false (by omega)
      have HC := hide hc
      have HBW := hide hbw
      clear hc hbw
      go_wp2_with fail
      go_end0
      exact ⟨rfl, HC.out, HBW.out⟩

theorem tok_one (f : Int) (t : Tk) : ∀ u ∈ t.cells f, u.oneCell' = true := by
  intro u hu
  simp only [Tk.cells, List.mem_cons, List.not_mem_nil, or_false] at hu
  rcases hu with rfl | rfl | rfl | rfl | rfl <;> rfl

set_option maxHeartbeats 4000000 in
theorem end_open (h : Sc w B b s f v x) (ho : x.o = true) (hn : x.acc.length ≤ 100000) :
    Calls Tryd.prog 51 #[.pointer (some ⟨b, 0, none⟩)] w fun e w' => e = .returned (.tuple #[]) ∧ ∃ v', Sc w' B b s f v' { x with acc := x.acc ++ [semi x.p], o := false } ∧ Below B w w' := by
  obtain ⟨A0, k0, rfl⟩ := own_formT h.ow
  obtain ⟨c0, c1, c2, c3, c4, c5, c6, c7⟩ := h.cells
  rw [ho] at c6
  have z5 := h.bl.frozen 5
  have z6 := h.bl.frozen 6
  have HH := hide h
  have HN := hide hn
  obtain ⟨i0, hi0, hz0, hz1, hz2⟩ := info_parts tokInfo
  have c5a : ∀ o : Obj, (w.alloc o).cell? ⟨b, 5, none⟩ = some (.slice A0 x.acc.length k0) := fun o => (h.alloc o).bl.cell 5
  have OB := hide (h.alloc (.cells #[.int .i64 5, .string ⟨#[59]⟩, .int .i64 f, .int .i64 (x.p.1 : Int), .int .i64 (x.p.2 : Int)] 80)).ow
  have c5b := c5a (.cells #[.int .i64 5, .string ⟨#[59]⟩, .int .i64 f, .int .i64 (x.p.1 : Int), .int .i64 (x.p.2 : Int)] 80)
  clear c5a
  have RD := hide (show Reads (w.alloc (.cells #[.int .i64 5, .string ⟨#[59]⟩, .int .i64 f, .int .i64 (x.p.1 : Int), .int .i64 (x.p.2 : Int)] 80)) (w.heap.size + 1) 5 (some ⟨w.heap.size, 0, none⟩) 1 ((semi x.p).cells f) from by
    have h := reads_newT w #[.int .i64 5, .string ⟨#[59]⟩, .int .i64 f, .int .i64 (x.p.1 : Int), .int .i64 (x.p.2 : Int)] 80 5 1 rfl
    have e : (w.alloc (.cells #[.int .i64 5, .string ⟨#[59]⟩, .int .i64 f, .int .i64 (x.p.1 : Int), .int .i64 (x.p.2 : Int)] 80)).heap.size = w.heap.size + 1 := by simp
    rw [e] at h
    exact h)
  clear h ho hn
  go_enter Tryd.func51, Tryd.ntmps51
  go_wp2_with fail
  go_region_law (first
    | (refine step_append_any _ rfl (.tmp 10) (.tmp 16) _ rfl B 80 i0 _ 5 48 Tryd.underlying71 hi0 hz0 hz1 hz2 rfl (by omega) (.slice A0 x.acc.length k0) x.acc.length (x.acc.flatMap (Tk.cells f)) (by simp [Act.eval]) OB.out (w.heap.size + 1) (some ⟨w.heap.size, 0, none⟩) 1 1 ((semi x.p).cells f) (by simp [Act.eval]) RD.out (tok_one f _) (by have := HN.out; simp only [maxLen]; omega) (by have := HN.out; omega) (by have := HH.out.lt; simp; omega) ?_
       intro v6 w6 hown6 hg6 hat6
       obtain ⟨A6, k6, rfl⟩ := own_formT hown6
       have hbl6 := (HH.out.alloc (.cells #[.int .i64 5, .string ⟨#[59]⟩, .int .i64 f, .int .i64 (x.p.1 : Int), .int .i64 (x.p.2 : Int)] 80)).drew.bl.grown hg6 (fun e => own_blk_ne (HH.out.alloc (.cells #[.int .i64 5, .string ⟨#[59]⟩, .int .i64 f, .int .i64 (x.p.1 : Int), .int .i64 (x.p.2 : Int)] 80)).drew.ow (HH.out.alloc (.cells #[.int .i64 5, .string ⟨#[59]⟩, .int .i64 f, .int .i64 (x.p.1 : Int), .int .i64 (x.p.2 : Int)] 80)).drew.bl (by decide) e.symm)
       have d5 : w6.cell? ⟨b, 5, none⟩ = some (.slice A0 x.acc.length k0) := hbl6.cell 5
       have f5 := hbl6.frozen 5
       have f6 := hbl6.frozen 6))
  go_ways
  all_goals
    obtain ⟨e1, e2⟩ := Sc.put_end (t := semi x.p) (HH.out.alloc (.cells #[.int .i64 5, .string ⟨#[59]⟩, .int .i64 f, .int .i64 (x.p.1 : Int), .int .i64 (x.p.2 : Int)] 80)).drew hg6 hown6
    obtain ⟨W7, hW7⟩ : ∃ W : World, W = w6.setCell ⟨b, 5, none⟩ (.slice A6 (x.acc.length + 1) k6) := ⟨_, rfl⟩
    rw [← hW7] at e1 e2 ⊢
    have HB7 := hide ((((Below.refl B w).alloc HH.out.lt (.cells #[.int .i64 5, .string ⟨#[59]⟩, .int .i64 f, .int .i64 (x.p.1 : Int), .int .i64 (x.p.2 : Int)] 80)).drew).trans e2)
    have y6 := e1.bl.frozen 6
    have y6c : W7.cell? ⟨b, 6, none⟩ = some (.bool x.o) := e1.bl.cell 6
    have HS7 := hide e1
    clear hW7 e1 e2 hg6 hown6 hbl6 d5 f5 f6 hat6 c0 c1 c2 c3 c4 c5 c6 c7 z5 z6 OB RD c5b
    go_wp2_with fail
    go_end0
    obtain ⟨e3, e4⟩ := HS7.out.put_ (x' := { x with acc := x.acc ++ [semi x.p], o := false }) ((Only.refl b _).set 6 (.bool false)).1 ((Only.refl b _).set 6 (.bool false)).2 (by have h := HS7.out.bl.set_ 6 (.bool false); simpa using h) rfl
    first
      | exact ⟨rfl, _, e3, HB7.out.trans e4⟩
      | exact ⟨rfl, ⟨_, e3⟩, HB7.out.trans e4⟩

set_option maxHeartbeats 1000000 in
theorem end_shut (h : Sc w B b s f v x) (ho : x.o = false) :
    Calls Tryd.prog 51 #[.pointer (some ⟨b, 0, none⟩)] w fun e w' => e = .returned (.tuple #[]) ∧ Sc w' B b s f v x ∧ Below B w w' := by
  obtain ⟨c0, c1, c2, c3, c4, c5, c6, c7⟩ := h.cells
  rw [ho] at c6
  have z6 := h.bl.frozen 6
  have HH := hide h
  have HO := hide ho
  clear h ho
  go_enter Tryd.func51, Tryd.ntmps51
  go_wp2_with fail
  go_end0
  obtain ⟨e3, e4⟩ := HH.out.put_ (x' := x) ((Only.refl b _).set 6 (.bool false)).1 ((Only.refl b _).set 6 (.bool false)).2 (by have h := HH.out.bl.set_ 6 (.bool false); rw [HO.out]; simpa [HO.out] using h) rfl
  exact ⟨rfl, e3, e4⟩

set_option maxHeartbeats 4000000 in
theorem put_any (h : Sc w B b s f v x) (kd : Int) (t : Bs) (n : Nat) (hn : x.k + n ≤ s.size) (hs : s.size ≤ 70000) (h1 : x.p.1 ≤ 200000) (h2 : x.p.2 ≤ 200000) (ha : x.acc.length ≤ 100000) :
    Calls Tryd.prog 87 #[.pointer (some ⟨b, 0, none⟩), .int .i64 kd, .string ⟨t.toArray⟩, .int .i64 (n : Int)] w fun e w' => e = .returned (.tuple #[]) ∧
      ∃ v', Sc w' B b s f v' ⟨x.k + n, adv x.p ((s.data.toList.drop x.k).take n), x.acc ++ [⟨kd, t, x.p⟩], askB kd t, x.bad⟩ ∧ Below B w w' := by
  obtain ⟨A0, k0, rfl⟩ := own_formT h.ow
  obtain ⟨c0, c1, c2, c3, c4, c5, c6, c7⟩ := h.cells
  have z5 := h.bl.frozen 5
  have z6 := h.bl.frozen 6
  have HH := hide h
  have HN := hide ha
  have HA := hide (And.intro hn (And.intro hs (And.intro h1 h2)))
  obtain ⟨i0, hi0, hz0, hz1, hz2⟩ := info_parts tokInfo
  have OB := hide (h.alloc (.cells #[.int .i64 kd, .string ⟨t.toArray⟩, .int .i64 f, .int .i64 (x.p.1 : Int), .int .i64 (x.p.2 : Int)] 80)).ow
  have c5b : (w.alloc (.cells #[.int .i64 kd, .string ⟨t.toArray⟩, .int .i64 f, .int .i64 (x.p.1 : Int), .int .i64 (x.p.2 : Int)] 80)).cell? ⟨b, 5, none⟩ = some (.slice A0 x.acc.length k0) := (h.alloc _).bl.cell 5
  have RD := hide (show Reads (w.alloc (.cells #[.int .i64 kd, .string ⟨t.toArray⟩, .int .i64 f, .int .i64 (x.p.1 : Int), .int .i64 (x.p.2 : Int)] 80)) (w.heap.size + 1) 5 (some ⟨w.heap.size, 0, none⟩) 1 ((⟨kd, t, x.p⟩ : Tk).cells f) from by
    have h := reads_newT w #[.int .i64 kd, .string ⟨t.toArray⟩, .int .i64 f, .int .i64 (x.p.1 : Int), .int .i64 (x.p.2 : Int)] 80 5 1 rfl
    have e : (w.alloc (.cells #[.int .i64 kd, .string ⟨t.toArray⟩, .int .i64 f, .int .i64 (x.p.1 : Int), .int .i64 (x.p.2 : Int)] 80)).heap.size = w.heap.size + 1 := by simp
    rw [e] at h
    exact h)
  have HK := hide (asks_any kd t)
  clear h ha hn hs h1 h2
  obtain ⟨av, has⟩ : ∃ r, r = askB kd t := ⟨_, rfl⟩
  rw [← has] at HK ⊢
  clear has
  go_enter Tryd.func87, Tryd.ntmps87
  go_wp2_with fail
  go_region_law (first
    | (refine step_append_any _ rfl (.tmp 12) (.tmp 20) _ rfl B 80 i0 _ 5 48 Tryd.underlying71 hi0 hz0 hz1 hz2 rfl (by omega) (.slice A0 x.acc.length k0) x.acc.length (x.acc.flatMap (Tk.cells f)) (by simp [Act.eval]) OB.out (w.heap.size + 1) (some ⟨w.heap.size, 0, none⟩) 1 1 ((⟨kd, t, x.p⟩ : Tk).cells f) (by simp [Act.eval]) RD.out (tok_one f _) (by have := HN.out; simp only [maxLen]; omega) (by have := HN.out; omega) (by have := HH.out.lt; simp; omega) ?_
       intro v6 w6 hown6 hg6 hat6
       obtain ⟨A6, k6, rfl⟩ := own_formT hown6
       have hbl6 := (HH.out.alloc (.cells #[.int .i64 kd, .string ⟨t.toArray⟩, .int .i64 f, .int .i64 (x.p.1 : Int), .int .i64 (x.p.2 : Int)] 80)).drew.bl.grown hg6 (fun e => own_blk_ne (HH.out.alloc (.cells #[.int .i64 kd, .string ⟨t.toArray⟩, .int .i64 f, .int .i64 (x.p.1 : Int), .int .i64 (x.p.2 : Int)] 80)).drew.ow (HH.out.alloc (.cells #[.int .i64 kd, .string ⟨t.toArray⟩, .int .i64 f, .int .i64 (x.p.1 : Int), .int .i64 (x.p.2 : Int)] 80)).drew.bl (by decide) e.symm)
       have d5 : w6.cell? ⟨b, 5, none⟩ = some (.slice A0 x.acc.length k0) := hbl6.cell 5
       have f5 := hbl6.frozen 5
       have f6 := hbl6.frozen 6))
  go_ways
  all_goals
    obtain ⟨e1, e2⟩ := Sc.put_end (t := ⟨kd, t, x.p⟩) (HH.out.alloc (.cells #[.int .i64 kd, .string ⟨t.toArray⟩, .int .i64 f, .int .i64 (x.p.1 : Int), .int .i64 (x.p.2 : Int)] 80)).drew hg6 hown6
    obtain ⟨W7, hW7⟩ : ∃ W : World, W = w6.setCell ⟨b, 5, none⟩ (.slice A6 (x.acc.length + 1) k6) := ⟨_, rfl⟩
    rw [← hW7] at e1 e2 ⊢
    have HB7 := hide ((((Below.refl B w).alloc HH.out.lt (.cells #[.int .i64 kd, .string ⟨t.toArray⟩, .int .i64 f, .int .i64 (x.p.1 : Int), .int .i64 (x.p.2 : Int)] 80)).drew).trans e2)
    have y6 := e1.bl.frozen 6
    have y6c : W7.cell? ⟨b, 6, none⟩ = some (.bool x.o) := e1.bl.cell 6
    have HS7 := hide e1
    obtain ⟨e3, e4⟩ := e1.put_ (x' := { x with acc := x.acc ++ [⟨kd, t, x.p⟩], o := av }) ((Only.refl b _).set 6 (.bool av)).1 ((Only.refl b _).set 6 (.bool av)).2 (by have h := e1.bl.set_ 6 (.bool av); simpa using h) rfl
    have HSK := hide (skip_any e3 n HA.out.1 HA.out.2.1 HA.out.2.2.1 HA.out.2.2.2)
    have HB8 := hide (HB7.out.trans e4)
    clear hW7 e1 e2 hg6 hown6 hbl6 d5 f5 f6 hat6 c0 c1 c2 c3 c4 c5 c6 c7 z5 z6 OB RD c5b e3 e4
    go_wp2_with fail
    refine (HK.out _).mono ?_
    rintro e w' ⟨rfl, rfl⟩
    go_wp2_with fail
    refine HSK.out.mono ?_
    rintro e w9 ⟨rfl, h9, hb9⟩
    go_wp2_with fail
    go_end0
    first
      | exact ⟨rfl, _, h9, HB8.out.trans hb9⟩
      | exact ⟨rfl, ⟨_, h9⟩, HB8.out.trans hb9⟩
end
end Go.Proofs.YtgnobpljnahceaaDoor
