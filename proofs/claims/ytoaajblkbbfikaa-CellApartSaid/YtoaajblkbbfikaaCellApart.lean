/- The law CellApart: the walk, by contracts; conditions: the arguments are read as data. -/
import Derived.Test.YtoaajblkbbfikaaCellFull
import Derived.Test.YtoaajblkbbfikaaArgs
import Derived.Test.YtoaajblkbbfikaaFlat
import Derived.Deep.OwnRows
import Derived.Deep.RegionHeld3
import Derived.StillTailTactics
import Derived.IntWalk
namespace Go.Proofs.Ytoaajblkbbfikaa
open Go.RowKit Go.WideShapes Go.ChangeShapes Go.Deep
set_option linter.unusedVariables false
set_option maxRecDepth 100000

theorem intInfo : (Try.prog.info? 3).map (fun i => (i.zero, i.size, i.bytes)) = some (some (.int .i64 0), 1, 8) := by kernel_rfl

theorem rowIs_kept {w w' : World} {g b n : Nat} {t : TypeId} {f : Nat → Value} {row : Option Nat} (h : w.rowIs g t n f) (hk : Kept w w' b row) (hb : g ≠ b) (hr : some g ≠ row) : w'.rowIs g t n f :=
  h.of_block (hk.block g h.lt hb hr)
theorem rowIs_below {w w' : World} {g n : Nat} {t : TypeId} {f : Nat → Value} (h : w.rowIs g t n f) (hb : Below w.heap.size w w') : w'.rowIs g t n f := h.of_block (hb.block g h.lt)
theorem rowIs_ne_own {w : World} {B e s n g m : Nat} {t : TypeId} {v : Value} {xs : List Value} {f : Nat → Value} (h : w.ownsRow B e s v n xs) (hg : w.rowIs g t m f) (hne : e ≠ t) : some g ≠ v.ownBlock := by
  obtain ⟨c, hc⟩ : ∃ c, w.heap[g]? = some (.cells c t (0, 0)) := by
    obtain ⟨c, h1, _⟩ := hg; exact ⟨c, h1⟩
  exact fun e' => own_blk_ne h (cs := c) hc hne e'.symm
theorem rowIs_ne_blk {w : World} {g b m : Nat} {t t' : TypeId} {cs : Array Value} {f : Nat → Value} (hg : w.rowIs g t m f) (hb : Blk w b t' cs) (hne : t ≠ t') : g ≠ b := by
  obtain ⟨c, hc⟩ : ∃ c, w.heap[g]? = some (.cells c t (0, 0)) := by
    obtain ⟨c, h1, _⟩ := hg; exact ⟨c, h1⟩
  exact Blk.ne_ (cs := c) hc hb hne

def vss (rows : List RowV) : List (List Val) := rows.map RowV.vs

/-- The first loop: the first k rows are made. -/
def ApartRel (w : World) (b ab n : Nat) (rows : List RowV) (i : Value) (wr : World) : Prop :=
  ∃ (k : Nat) (v : Value), k ≤ n ∧ i = .int .i64 k ∧ Mem wr w.heap.size b v (startOf (vss rows) k) (cellsV ((vss rows).take k).flatten) ∧
    wr.rowIs ab 3 n (fun j => .int .i64 (if j < k then ((1 + startOf (vss rows) j : Nat) : Int) else 0)) ∧ Below w.heap.size w wr ∧ ∀ x ∈ (vss rows).take k, x.length ≤ 20

theorem set_at (B b n s k c : Nat) (v : Value) (F ls : List Val) (A : Option Addr) (w : World) (h : Mem w B b v F.length (cellsV F)) (hr : RV w w.heap.size A k ls) (h2 : s + k ≤ F.length) (hn : F.length ≤ 65536) :
    Calls Try.prog 38 #[.pointer (some ⟨b, 0, none⟩), .int .i64 (1 + (s : Int)), .slice A k c] w fun e w' =>
      e = .returned (.int .i64 0) ∧ Mem w' B b v F.length (cellsV (F.take s ++ ls ++ F.drop (s + ls.length))) ∧ Kept w w' b v.ownBlock := by
  have H := set_ok B b F.length (1 + s) k c v _ _ A w h hr.2 (cellsV_one _) (by omega) (by omega) hn
  have e : ((1 + s : Nat) : Int) = 1 + (s : Int) := by omega
  rw [e] at H
  refine H.mono ?_
  rintro e' w' ⟨he, hm, hk⟩
  refine ⟨he, ?_, hk⟩
  rw [Nat.add_sub_cancel_left, length_cellsV, cellsV_take, ← Nat.add_mul, cellsV_drop, ← cellsV_append, ← cellsV_append] at hm
  exact hm

theorem get_at (B b s k : Nat) (v : Value) (F us : List Val) (w : World) (h : Mem w B b v F.length (cellsV F)) (h2 : s + k ≤ F.length) (hn : F.length ≤ 65536) (hu : (F.drop s).take k = us) :
    Calls Try.prog 35 #[.pointer (some ⟨b, 0, none⟩), .int .i64 (1 + (s : Int)), .int .i64 k] w fun e w' =>
      ∃ v', e = .returned (.tuple #[v', .int .i64 0]) ∧ w'.ownsRow w.heap.size 81 5 v' k (cellsV us) ∧ Below w.heap.size w w' := by
  have H := get_ok B b F.length (1 + s) k v _ w h (by omega) (by omega) hn (cellsV_one _)
  have e : ((1 + s : Nat) : Int) = 1 + (s : Int) := by omega
  rw [e] at H
  refine H.mono ?_
  rintro e' w' ⟨v', he, hm, hk⟩
  refine ⟨v', he, ?_, hk⟩
  rw [Nat.add_sub_cancel_left, cellsV_drop, cellsV_take, hu] at hm
  exact hm

/-- The second loop: what was set is there. -/
def ApartRel2 (w : World) (b ab n : Nat) (rows : List RowV) (V : List (List Val)) (i : Value) (wr : World) : Prop :=
  ∃ (k : Nat) (v : Value), k ≤ n ∧ i = .int .i64 k ∧ Mem wr w.heap.size b v V.flatten.length (cellsV V.flatten) ∧
    wr.rowIs ab 3 n (fun j => .int .i64 ((1 + startOf (vss rows) j : Nat) : Int)) ∧ Below w.heap.size w wr

theorem slice_from {A As : Option Addr} {n c m : Nat} (h : (if c = m then A else A.map (·.add (m * 5))) = As) (hm : m ≤ n) (hn : n ≤ 9223372036854775807) (W : World) :
    (Instr.slice 68 (.slice A n c) (some (.int .i64 (m : Int))) none none).run Try.prog W = .ok (.slice As (n - m) (c - m)) W := by
  obtain ⟨i0, hi0, hz0, hz1, hz2⟩ := info_parts valInfo
  have he : Try.prog.elem 68 = 81 := by kernel_rfl
  rw [run_slice_l W _ A n c (by rw [he]; exact Try.underlying68) .i64 (m : Int) (by omega) (by omega)]
  simp only [sizeOf, typeInfo, he, Int.toNat_natCast]
  simp [hi0, hz1, sliced, h]

theorem only_setCell {a w : World} {g : Nat} (h : a.grownBy w (some g)) {p : Addr} (hp : p.block = g ∨ a.heap.size ≤ p.block) (u : Value) : a.grownBy (w.setCell p u) (some g) :=
  ⟨h.os, h.tape, h.output, by simpa [World.setCell] using h.size, fun i hi hne => (Below.heap_setCell w p u i (by
    rintro rfl
    rcases hp with hp | hp
    · exact hne (by rw [hp])
    · omega)).trans (h.block i hi hne)⟩
/-- The first element of a row, written over by the scalar of kind 99. -/
def smash (w : World) (g : Nat) : World :=
  ((((w.setCell ⟨g, 0, none⟩ (.int .i64 99)).setCell ⟨g, 1, none⟩ (.int .i64 0)).setCell ⟨g, 2, none⟩ (.int .i64 0)).setCell ⟨g, 3, none⟩ (.int .i64 0)).setCell ⟨g, 4, none⟩ (.string ⟨#[]⟩)
theorem smash_grown (w : World) (g : Nat) : w.grownBy (smash w g) (some g) := by
  have h0 := only_setCell (p := ⟨g, 0, none⟩) (World.grownBy.refl w (some g)) (.inl rfl) (.int .i64 99)
  have h1 := only_setCell (p := ⟨g, 1, none⟩) h0 (.inl rfl) (.int .i64 0)
  have h2 := only_setCell (p := ⟨g, 2, none⟩) h1 (.inl rfl) (.int .i64 0)
  have h3 := only_setCell (p := ⟨g, 3, none⟩) h2 (.inl rfl) (.int .i64 0)
  exact only_setCell (p := ⟨g, 4, none⟩) h3 (.inl rfl) (.string ⟨#[]⟩)
theorem Mem.only {w w' : World} {B b n g : Nat} {v : Value} {xs : List Value} (h : Mem w B b v n xs) (hg : w.grownBy w' (some g)) (hb : b ≠ g) (hv : v.ownBlock ≠ some g) : Mem w' B b v n xs :=
  ⟨h.1.grown hg (fun e => hb (by injection e)), h.2.1, h.2.2.kept hg (.inr hv)⟩
theorem RV.only {w w' : World} {B n g : Nat} {A : Option Addr} {vs : List Val} (h : RV w B A n vs) (hg : w.grownBy w' (some g)) (hf : ∀ g' o, A = some ⟨g', o, none⟩ → 0 < n → g' ≠ g) : RV w' B A n vs := by
  refine ⟨h.1, h.2.1, fun hn => ?_⟩
  obtain ⟨b, o, e, hb, hc⟩ := h.2.plain hn (by omega)
  refine ⟨⟨b, o, none⟩, e, hb, fun j u hu => ?_⟩
  rw [Go.WideShapes.add_plain]
  have := hc j u hu
  exact (World.cell?_of_block (w := w) (hg.block b (World.block_lt_of_cell? w _ this) (fun e' => hf b o e hn (by injection e')))).trans this

theorem below_undrawn {B q : Nat} {w w' : World} (h : Below B (w.drewN q) w') : Below B w w' := ⟨h.os, h.tape, h.output, h.size, h.block⟩

theorem vss_at {rows : List RowV} {k : Nat} {r : RowV} (h : rows[k]? = some r) : (vss rows)[k]? = some r.vs := by simp [vss, h]

theorem V_at {rows : List RowV} {kk k : Nat} {rk r : RowV} {ls : List Val} (hk : rows[kk]? = some rk) (hr : rows[k]? = some r) (h1 : rk.vs.length = rk.n) (h2 : r.vs.length = r.n) (hl : ls.length ≤ rk.n) :
    ∃ u, ((vss rows).set kk (ls ++ rk.vs.drop ls.length))[k]? = some u ∧ u.length = r.n ∧ startOf ((vss rows).set kk (ls ++ rk.vs.drop ls.length)) k = startOf (vss rows) k ∧
      (k ≠ kk → u = r.vs) ∧ (k = kk → r = rk ∧ u = ls ++ rk.vs.drop ls.length) := by
  have hs := startOf_set (vss rows) kk _ (ls ++ rk.vs.drop ls.length) (vss_at hk) (by rw [List.length_append, List.length_drop]; omega) k
  by_cases e : k = kk
  · subst e
    have er : r = rk := by rw [hk] at hr; injection hr with hr; exact hr.symm
    subst er
    have hlt := (List.getElem?_eq_some_iff.1 (vss_at hk)).1
    exact ⟨_, by simp [hlt], by rw [List.length_append, List.length_drop]; omega, hs, fun h => absurd rfl h, fun _ => ⟨rfl, rfl⟩⟩
  · exact ⟨r.vs, by rw [List.getElem?_set_ne (fun h => e h.symm)]; exact vss_at hr, h2, hs, fun _ => rfl, fun h => absurd h e⟩

theorem apart_k (which : Int) (n : Nat) (h0 : 0 < n) (h1 : n ≤ 40) : ∃ k : Nat, wrap64 ((IntKind.u64.wrap which).tmod n) = k ∧ k < n := by
  have h0' : 0 ≤ IntKind.u64.wrap which := by simp [IntKind.wrap, IntKind.signed, IntKind.bits]; omega
  have h2 : 0 ≤ (IntKind.u64.wrap which).tmod n := Int.tmod_nonneg _ h0'
  have h3 : (IntKind.u64.wrap which).tmod n < n := Int.tmod_lt_of_pos _ (by omega)
  refine ⟨((IntKind.u64.wrap which).tmod n).toNat, ?_, by omega⟩
  generalize (IntKind.u64.wrap which).tmod n = x at *
  unfold wrap64
  omega

theorem apart_step {w w5 : World} {b ab n k q : Nat} {v5 : Value} {rows : List RowV} {r : RowV} (hr : rows[k]? = some r) (hk : k < n) (h20 : ∀ x ∈ (vss rows).take k, x.length ≤ 20) (hr20 : r.vs.length ≤ 20) (hwb : w.heap.size ≤ ab)
    (hM : Mem w5 w.heap.size b v5 (startOf (vss rows) (k + 1)) (cellsV ((vss rows).take (k + 1)).flatten))
    (hA : w5.rowIs ab 3 n (fun j => .int .i64 (if j < k then ((1 + startOf (vss rows) j : Nat) : Int) else 0))) (hB : Below w.heap.size w w5) (u : Int) (hu : u = startOf (vss rows) k + 1) :
    ApartRel w b ab n rows (.int .i64 (k + 1 : Nat)) ((w5.drewN q).setCell ⟨ab, k, none⟩ (.int .i64 u)) := by
  subst hu
  have hne : ab ≠ b := rowIs_ne_blk hA hM.1 (by decide)
  have hno := rowIs_ne_own hM.2.2 hA (by decide)
  refine ⟨k + 1, v5, hk, rfl, ⟨(hM.1.drewN q).far (p := ⟨ab, k, none⟩) (fun e => hne e.symm) _, hM.2.1, ownsRow_setCell_other (a := ⟨ab, k, none⟩) (w := w5.drewN q) hM.2.2 (fun e => hno e.symm) _⟩,
    ((show (w5.drewN q).rowIs ab 3 n _ from hA).set k _).congr (fun j hj => ?_), (below_drewN hB q).setCell (p := ⟨ab, k, none⟩) hwb _, ?_⟩
  · by_cases e : j = k
    · subst e; simp; omega
    · by_cases h : j < k
      · simp [e, h, (by omega : j < k + 1)]
      · have h1 : ¬ j < k + 1 := by omega
        simp [e, h, h1]
  · intro x hx
    rw [List.take_succ_eq_append_getElem (by have := (List.getElem?_eq_some_iff.1 (vss_at hr)).1; exact this)] at hx
    rcases List.mem_append.1 hx with h | h
    · exact h20 x h
    · simp only [List.mem_singleton] at h
      have e := (List.getElem?_eq_some_iff.1 (vss_at hr)).2
      rw [h, e]; exact hr20

set_option maxHeartbeats 2000000 in
theorem apart_pos (n c m d : Nat) (which : Int) (A A2 : Option Addr) (rows : List RowV) (ls : List Val) (w : World) (hR : RR w w.heap.size A n rows) (hL : RV w w.heap.size A2 m ls)
    (hls : ∀ v ∈ ls, v.s.size ≤ maxLen) (h0 : 0 < n) (h40 : n ≤ 40) (hm : m ≤ 9223372036854775807) :
    Calls Try.prog 8 #[.slice A n c, .int .i64 which, .slice A2 m d] w fun e w' => e = .returned (.bool true) ∧ Below w.heap.size w w' := by
  obtain ⟨i0, hi0, hz0, hz1, hz2⟩ := info_parts valInfo
  have hmk := fun W => run_make_row' (P := Try.prog) 30 3 (.int .i64 0) 8 Try.underlying30 intInfo rfl .i64 .i64 n (by omega) (by omega) W
  obtain ⟨kk, hkk, hkn⟩ := apart_k which n h0 h40
  have hn0 : ((n : Int) == 0) = false := by simpa using (by omega : n ≠ 0)
  have hd40 : decide (40 < (n : Int)) = false := by simpa using (by omega : ¬ (40 : Int) < n)
  go_enter Try.func8, Try.ntmps8
  go_wp2_with fail
  refine (cell_awake _).mono ?_
  rintro e w1 ⟨rfl, hb1⟩
  have HB1 := hide hb1
  have hs1 := hb1.size
  clear hb1
  go_wp2_with fail
  refine (great_any w.heap.size m d 0 0 0 A2 ls w1 (hL.below HB1.out) hs1 hls hm).mono ?_
  rintro e w2 ⟨g, rfl, hg, hb2⟩
  have HB2 : Hid (Below w.heap.size w w2) := hide (HB1.out.trans (hb2.mono hs1))
  have hs2 : w.heap.size ≤ w2.heap.size := HB2.out.size
  have HG := hide hg
  clear hb2 hg
  cases g with
  | true =>
    go_wp2_with fail
    go_ret
    exact ⟨rfl, HB2.out⟩
  | false =>
    have hm20 : m ≤ 20 := HG.out rfl
    clear HG
    go_wp2_with fail
    refine (new_ok w.heap.size w2 hs2).mono ?_
    rintro e w3 ⟨rfl, hM3, hb3⟩
    have HM3 := hide hM3
    have hs3 := hM3.1.lt
    have HB3 : Hid (Below w.heap.size w w3) := hide (HB2.out.trans (hb3.mono hs2))
    clear hM3 hb3
    go_wp2_with fail
    clear hmk
    go_loopw [9] (fun i wr => ApartRel w w2.heap.size w3.heap.size n rows i wr) (fun i _ => n - (intOf i).toNat)
    case atStart =>
      exact ⟨0, .slice none 0 0, by omega, rfl, by simpa [startOf_zero, cellsV] using HM3.out.alloc _, (World.rowIs_made w3 (.int .i64 0) n 3).congr (fun j hj => by simp), HB3.out.alloc (by omega) _, by simp⟩
    case round =>
      obtain ⟨k, v, hk, rfl, hM, hA, hB, h20⟩ := hrel
      by_cases hlt : k < n
      · obtain ⟨rb, ro, r, rfl, hrb, hr, hrc, hrv, hrs, hrn, _⟩ := (hR.below hB).at_ hlt
        have HR := hide hr
        have hrn' : r.n ≤ 9223372036854775807 := by unfold maxLen at hrn; omega
        have hws := hB.size
        have HM := hide hM
        have HA := hide hA
        have HB := hide hB
        have H20 := hide h20
        clear hM hA hB h20 hr hrn
        go_wp2_with fail
        refine (great_any w.heap.size r.n r.c 0 0 0 r.A r.vs wr hrv hws hrs hrn').mono ?_
        rintro e w4 ⟨g, rfl, hg, hb4⟩
        have HB4 := hide hb4
        have HG := hide hg
        have HC4 := hide ((hb4.cell (p := ⟨rb, ro + k, none⟩) (by show rb < _; omega)).trans hrc)
        clear hb4 hg hrc
        cases g with
        | true =>
          go_wp2_with fail
          go_ret
          exact ⟨rfl, HB.out.trans (HB4.out.mono hws)⟩
        | false =>
          have hr20 : r.n ≤ 20 := HG.out rfl
          have hs800 := startOf_len (vss rows) 20 k H20.out (by omega) (by omega)
          clear HG
          have hrc4 := HC4.out
          go_wp2_with fail
          have hws4 : wr.heap.size ≤ w4.heap.size := HB4.out.size
          refine (make_ok w.heap.size w2.heap.size (startOf (vss rows) k) r.n r.c v _ _ r.A w4 (HM.out.below HB4.out) ((hrv.below (HB4.out.mono hws)).2.more (by omega)) (cellsV_one _) (by omega) (by omega)).mono ?_
          rintro e w5 ⟨v5, rfl, hM5, hk5, hat5⟩
          have HM5 : Hid (Mem w5 w.heap.size w2.heap.size v5 (startOf (vss rows) (k + 1)) (cellsV ((vss rows).take (k + 1)).flatten)) := hide (by
            rw [startOf_succ _ k _ (vss_at HR.out), take_succ_flat _ k _ (vss_at HR.out), cellsV_append, hrv.1]; exact hM5)
          have HB5 : Hid (Below w.heap.size w w5) := hide ((HB.out.trans (HB4.out.mono hws)).trans (hk5.below (by omega) (by omega) (fun g hg => (HM.out.2.2.lt g hg).1)))
          have HA5 : Hid (w5.rowIs w3.heap.size 3 n (fun j => .int .i64 (if j < k then ((1 + startOf (vss rows) j : Nat) : Int) else 0))) :=
            hide (rowIs_kept (rowIs_below HA.out HB4.out) hk5 (by omega) (rowIs_ne_own (own_below HM.out.2.2 HB4.out) (rowIs_below HA.out HB4.out) (by decide)))
          clear hM5 hk5 hat5 hrc4
          have hak := HA5.out.cell (i := k) hlt
          rw [if_neg (by omega)] at hak
          have hfk := HA5.out.frozen k
          by_cases hk0 : k = 0
          · subst hk0
            go_wp2_with fail
            go_quiet (fail)
            go_wp2_with fail
            go_roundw
            case rel => exact apart_step HR.out hlt H20.out (by rw [hrv.1]; exact hr20) (by omega) HM5.out HA5.out HB5.out _ rfl
            case measure => simp [intOf]; omega
          · obtain ⟨q, rfl⟩ : ∃ q, k = q + 1 := ⟨k - 1, by omega⟩
            obtain ⟨rb', ro', r', he, _, hr', hrc', hrv', _, _, _⟩ := (hR.below HB5.out).at_ (k := q) (by omega)
            obtain ⟨rfl, rfl⟩ : rb = rb' ∧ ro = ro' := by simpa using he
            have hS : startOf (vss rows) (q + 1) = startOf (vss rows) q + r'.n := by rw [startOf_succ _ q _ (vss_at hr'), hrv'.1]
            have HS := hide hS
            have ha5 := HA5.out.cell (i := q) (by omega)
            rw [if_pos (by omega)] at ha5
            have hs0 := startOf_len (vss rows) 20 q (fun x hx => H20.out x (List.take_subset_take_left (vss rows) (Nat.le_succ q) hx)) (by omega) (by omega)
            have hr'20 : r'.n ≤ 20 := by
              rw [← hrv'.1]
              exact H20.out _ (List.mem_of_getElem? (i := q) ((List.getElem?_take_of_lt (Nat.lt_succ_self q)).trans (vss_at hr')))
            have e1 : IntKind.i64.wrap (1 + (startOf (vss rows) q : Int) + r'.n) = 1 + (startOf (vss rows) q : Int) + r'.n := IntWalk.i64_in _ (by omega)
            have e2 : ((startOf (vss rows) (q + 1) : Int) + 1 != 1 + (startOf (vss rows) q : Int) + r'.n) = false := by rw [hS]; simp; omega
            clear hr' hS he hrv'
            go_wp2_with fail
            go_quiet (fail)
            go_wp2_with fail
            go_roundw
            case rel => exact apart_step HR.out hlt H20.out (by rw [hrv.1]; exact hr20) (by omega) HM5.out HA5.out HB5.out _ rfl
            case measure => simp [intOf]; omega
      · obtain rfl : k = n := by omega
        have H20 := hide h20
        clear h20
        obtain ⟨rb, ro, rk, rfl, hrb, hrk, hrc, hrv, _, hrn, _⟩ := (hR.below hB).at_ hkn
        have hl : (vss rows).length = k := by simp [vss, hR.1]
        have hM1 : Mem wr w.heap.size w2.heap.size v (vss rows).flatten.length (cellsV (vss rows).flatten) := by
          have e : (vss rows).take k = vss rows := List.take_of_length_le (by omega)
          rw [e] at hM; simpa [startOf, e] using hM
        have hA1 : wr.rowIs w3.heap.size 3 k (fun j => .int .i64 ((1 + startOf (vss rows) j : Nat) : Int)) := hA.congr (fun j hj => by simp [hj])
        have hak := hA1.cell hkn
        have HM := hide hM1
        have HA := hide hA1
        have HB := hide hB
        have HR := hide hrk
        have HV := hide hrv
        have hws := hB.size
        have hrn' : rk.n ≤ 9223372036854775807 := by unfold maxLen at hrn; omega
        clear hM hM1 hA hA1 hB hrk hrv hrn
        by_cases hmr : m ≤ rk.n
        · have hF : (vss rows).flatten.length ≤ 800 := by
            have := flat_len (vss rows) 20 (fun x hx => H20.out x (by rw [List.take_of_length_le (by omega)]; exact hx))
            have h1 : (vss rows).length * 20 ≤ 40 * 20 := Nat.mul_le_mul_right _ (by omega)
            omega
          have hsl := startOf_le (vss rows) kk _ (vss_at HR.out)
          rw [HV.out.1] at hsl
          go_wp2_with fail
          refine (set_at w.heap.size w2.heap.size k (startOf (vss rows) kk) m d v _ ls A2 wr HM.out ((hL.below HB.out).more hws) (by omega) (by omega)).mono ?_
          rintro e w5 ⟨rfl, hM5, hk5⟩
          rw [set_flat (vss rows) kk _ ls (vss_at HR.out) (by rw [HV.out.1, hL.1]; exact hmr)] at hM5
          have hkk1 : rk.vs.length = rk.n := HV.out.1
          have hlm : ls.length ≤ rk.n := by rw [hL.1]; exact hmr
          obtain ⟨V, hV⟩ : ∃ V, V = (vss rows).set kk (ls ++ rk.vs.drop ls.length) := ⟨_, rfl⟩
          rw [← hV] at hM5
          have hVl : V.flatten.length = (vss rows).flatten.length := by have := hM5.2.2.1; rw [length_cellsV] at this; omega
          rw [← hVl] at hM5
          have HM5 := hide hM5
          have hmlt := HM.out.1.lt
          have hb5 : Below w.heap.size w w5 := HB.out.trans (hk5.below (by omega) (by omega) (fun g hg => (HM.out.2.2.lt g hg).1))
          have hA5 := rowIs_kept HA.out hk5 (by omega) (rowIs_ne_own HM.out.2.2 HA.out (by decide))
          have HA5 := hide hA5
          have HB5 := hide hb5
          have HVV := hide hV
          rw [← hVl] at hF
          clear hM5 hA5 hk5 hb5 hV hak hrc hVl hsl hmlt
          go_wp2_with fail
          go_loopw [13] (fun i wr => ApartRel2 w w2.heap.size w3.heap.size k rows V i wr) (fun i _ => k - (intOf i).toNat)
          case atStart => exact ⟨0, v, by omega, rfl, HM5.out, HA5.out, HB5.out⟩
          case round =>
            obtain ⟨x, v', hx, rfl, hM, hA, hB⟩ := hrel
            by_cases hlt : x < k
            · obtain ⟨rb', ro', r, he, _, hr, hrc, hrv, _, hrn, hrcap⟩ := (hR.below hB).at_ hlt
              obtain ⟨rfl, rfl⟩ : rb = rb' ∧ ro = ro' := by simpa using he
              obtain ⟨u, hu1, hu2, hu3, hu4, hu5⟩ := V_at HR.out hr hkk1 hrv.1 hlm
              rw [← HVV.out] at hu1 hu3
              have hak : wr.cell? ⟨w3.heap.size, x, none⟩ = some (.int .i64 (1 + (startOf V x : Int))) := by
                have h := hA.cell hlt
                rw [← hu3] at h
                rw [h]; congr 2
              have hsu := startOf_le V x u hu1
              rw [hu2] at hsu
              have hrn' : r.n ≤ 9223372036854775807 := by unfold maxLen at hrn; omega
              have HG : Hid (∀ q, Calls Try.prog 35 _ (wr.drewN q) _) := hide fun q => get_at w.heap.size w2.heap.size (startOf V x) r.n v' _ u (wr.drewN q) (hM.drewN q) (by omega) (by omega) (by rw [← hu2]; exact part_flat V x u hu1)
              have hbsz := hB.size
              have hmlt := hM.1.lt
              have HM := hide hM
              have HA := hide hA
              have HB := hide hB
              have HU := hide (And.intro hu1 (And.intro hu2 (And.intro hu4 hu5)))
              have HRV := hide hrv
              clear hM hA hB hu1 hu2 hu3 hu4 hu5 he hr hrn hrv
              go_wp2_with fail
              go_region_held3 (fun w' => w'.cell? ⟨w3.heap.size, x, none⟩ = some (.int .i64 (1 + (startOf V x : Int))) ∧ w'.cell? ⟨rb, ro + x, none⟩ = some (.slice r.A r.n r.c))
                (first | exact ⟨hak, hrc⟩ | exact ⟨(hb6.cell (p := ⟨w3.heap.size, x, none⟩) HA.out.lt).trans hak, (hb6.cell (p := ⟨rb, ro + x, none⟩) (by show rb < wr.heap.size; omega)).trans hrc⟩)
                (first | (go_at_call 35; refine (HG.out 1).mono ?_; rintro e w6 ⟨v6, rfl, hown6, hb6⟩))
              obtain ⟨A6, c6, rfl⟩ := own_form hown6
              obtain ⟨hu1, hu2, hu4, hu5⟩ := HU.out
              have hu6 : RV w6 w6.heap.size A6 r.n u := ⟨hu2, Reads.of_own hown6⟩
              have hr1m : r.n ≤ 1000000 := by omega
              have hak6 : w6.cell? ⟨w3.heap.size, x, none⟩ = some (.int .i64 (1 + (startOf V x : Int))) := (hb6.cell (p := ⟨w3.heap.size, x, none⟩) HA.out.lt).trans hak
              have hrc6 : w6.cell? ⟨rb, ro + x, none⟩ = some (.slice r.A r.n r.c) := (hb6.cell (p := ⟨rb, ro + x, none⟩) (by show rb < wr.heap.size; omega)).trans hrc
              have HU6 := hide hu6
              have HO6 := hide hown6
              have HB6 := hide (below_undrawn hb6)
              have hs6 : wr.heap.size ≤ w6.heap.size := HB6.out.size
              clear hu1 hu2 hu4 hu5 hu6 hown6 hb6 hak hrc
              by_cases hxk : x = kk
              · have hxb : ((x : Int) == kk) = true := by rw [beq_iff_eq]; omega
                obtain ⟨As, hAs⟩ : ∃ As, (if r.c = m then r.A else r.A.map (·.add (m * 5))) = As := ⟨_, rfl⟩
                have hmr' : m ≤ r.n := by rw [(HU.out.2.2.2 hxk).1]; exact hmr
                have hsl := slice_from hAs hmr' hrn'
                have hsrc : Reads w6 w6.heap.size 5 As (r.n - m) ((cellsV r.vs).drop (m * 5)) := by
                  have h := (((HRV.out.below (HB6.out.mono hbsz)).2.more (by omega : w.heap.size ≤ w6.heap.size)).cut (k := m) (cap := r.c) hmr' hrcap)
                  rw [hAs] at h; exact h
                have hls6 : Reads w6 w6.heap.size 5 A2 m (cellsV ls) := (hL.below (HB.out.trans (HB6.out.mono hbsz))).2.more (by omega)
                have HAS := hide hAs
                have HXK := hide hxk
                clear hAs hxk
                go_wp2_with fail
                have hrb6 : rb < w6.heap.size := by omega
                have hrcA : (w6.alloc (.cells #[] 81)).cell? ⟨rb, ro + x, none⟩ = some (.slice r.A r.n r.c) := (World.cell?_alloc_lt w6 _ ⟨rb, ro + x, none⟩ hrb6).trans hrc6
                go_region_held3 (fun w' => w'.cell? ⟨rb, ro + x, none⟩ = some (.slice r.A r.n r.c))
                  (first | exact hrc6 | exact hrcA | exact hrc7 | exact hrc8)
                  (first
                    | (refine step_append_any _ rfl (.tmp 138) (.tmp 139) _ rfl w6.heap.size 81 i0 _ 5 48 Try.underlying68 hi0 hz0 hz1 hz2 rfl (by omega) (.slice (some ⟨w6.heap.size, 0, none⟩) 0 0) 0 [] (by simp [Act.eval]) (World.ownsRow_made _ #[] 0 (Nat.le_refl _) (by simp [maxLen]) (by simp)) w6.heap.size A2 m d (cellsV ls) (by simp [Act.eval]) (hls6.alloc (Nat.le_refl _) _) (cellsV_one _) (by simp only [maxLen]; omega) (by omega) (by simp) ?_; intro v7 w7 hown7 hg7 hat7; have hrc7 := hg7.cell hrcA (by simp [Value.ownBlock]; omega); have hb7 : Below w6.heap.size w6 w7 := (((Below.refl _ _).alloc (Nat.le_refl _) _).drew).grown hg7 (by simp) (by simp [Value.ownBlock]); simp only [Nat.zero_add, List.nil_append] at hown7)
                    | (refine step_append_any _ rfl (.tmp 140) (.tmp 147) _ rfl w6.heap.size 81 i0 _ 5 48 Try.underlying68 hi0 hz0 hz1 hz2 rfl (by omega) v7 m (cellsV ls) (by simp [Act.eval]) hown7 w6.heap.size As (r.n - m) (r.c - m) _ (by simp [Act.eval]) (hsrc.below hb7) (fun u hu => cellsV_one _ u (List.mem_of_mem_drop hu)) (by simp only [maxLen]; omega) (by omega) hb7.size ?_; intro v8 w8 hown8 hg8 hat8; have hrc8 := hg8.cell hrc7 (fun e => by have := (hown7.lt rb e.symm).1; omega)))
                have e8 : m + (r.n - m) = r.n := by omega
                rw [e8] at hown8
                obtain ⟨A8, c8, rfl⟩ := own_form hown8
                have hb8 : Below w6.heap.size w6 w8 := hb7.grown hg8 hb7.size (fun g hg => (hown7.lt g hg).1)
                obtain ⟨W, hW⟩ : ∃ W : World, W = w8 := ⟨_, rfl⟩
                have HMt : Hid (Mem W w.heap.size w2.heap.size v' V.flatten.length (cellsV V.flatten)) := hide (by rw [hW]; exact (HM.out.below HB6.out).below hb8)
                have HAt := hide (show W.rowIs w3.heap.size 3 k _ by rw [hW]; exact rowIs_below (rowIs_below HA.out HB6.out) hb8)
                have HBt : Hid (Below w.heap.size w W) := hide (by rw [hW]; exact (HB.out.trans (HB6.out.mono hbsz)).trans (hb8.mono (by omega)))
                have HOt : Hid (W.ownsRow wr.heap.size 81 5 (.slice A6 r.n c6) r.n (cellsV u)) := hide (by rw [hW]; exact own_below HO6.out hb8)
                have HUt : Hid (RV W W.heap.size A6 r.n u) := hide ⟨HU.out.2.1, Reads.of_own HOt.out⟩
                have HWt : Hid (RV W W.heap.size A8 r.n u) := hide ⟨HU.out.2.1, by
                  obtain ⟨er, eu⟩ := HU.out.2.2.2 HXK.out
                  have e : cellsV ls ++ (cellsV r.vs).drop (m * 5) = cellsV u := by rw [eu, cellsV_drop, cellsV_append, hL.1, er]
                  rw [e] at hown8; rw [hW]; exact Reads.of_own hown8⟩
                have HFt : Hid (∀ g o g', A6 = some ⟨g, 0, none⟩ → 0 < r.n → A8 = some ⟨g', o, none⟩ → g' ≠ g) := hide (by
                  rintro g o g' rfl _ h8 e
                  have h1 := (hown8.lt g' (by rw [h8]; rfl)).1
                  have h2 := (HO6.out.lt g rfl).2
                  omega)
                have hakW : W.cell? ⟨w3.heap.size, x, none⟩ = some (.int .i64 (1 + (startOf V x : Int))) := by rw [hW]; exact (hb8.cell (p := ⟨w3.heap.size, x, none⟩) (by have := HA.out.lt; show w3.heap.size < _; omega)).trans hak6
                have hrcW : W.cell? ⟨rb, ro + x, none⟩ = some (.slice r.A r.n r.c) := by rw [hW]; exact hrc8
                rw [← hW]
                have hwW : wr.heap.size ≤ W.heap.size := by have := hb8.size; rw [hW]; omega
                clear hW hown7 hown8 hg7 hg8 hat7 hat8 hrc7 hrc8 hb7 hb8 hrcA hsl hsrc hls6
                have hsW := HBt.out.size
                go_wp2_with fail
                refine (same_ok _ r.n c6 _ c8 A6 A8 u _ HUt.out HWt.out hr1m).mono ?_
                rintro e W9 ⟨rfl, q9, rfl⟩
                by_cases hr0 : 0 < r.n
                · obtain ⟨g6, cap6, he6, _, _⟩ := row_one HOt.out 0 hr0
                  obtain ⟨rfl, rfl⟩ : A6 = some ⟨g6, 0, none⟩ ∧ c6 = cap6 := by simpa using he6
                  obtain ⟨z, hz⟩ : ∃ z, u[0]? = some z := ⟨_, List.getElem?_eq_getElem (by rw [HU.out.2.1]; exact hr0)⟩
                  have y0 : W.cell? ⟨g6, 0, none⟩ = some (.int .i64 z.k) := (HOt.out.cellAt 0 (by omega)).trans (cellsV_at u 0 z hz 0 _ rfl)
                  have y1 : W.cell? ⟨g6, 1, none⟩ = some (.int .i64 z.n) := (HOt.out.cellAt 1 (by omega)).trans (cellsV_at u 0 z hz 1 _ rfl)
                  have y2 : W.cell? ⟨g6, 2, none⟩ = some (.int .i64 z.m) := (HOt.out.cellAt 2 (by omega)).trans (cellsV_at u 0 z hz 2 _ rfl)
                  have y3 : W.cell? ⟨g6, 3, none⟩ = some (.int .i64 z.c) := (HOt.out.cellAt 3 (by omega)).trans (cellsV_at u 0 z hz 3 _ rfl)
                  have y4 : W.cell? ⟨g6, 4, none⟩ = some (.string z.s) := (HOt.out.cellAt 4 (by omega)).trans (cellsV_at u 0 z hz 4 _ rfl)
                  have f0 := HOt.out.frozenAt 0
                  have f1 := HOt.out.frozenAt 1
                  have f2 := HOt.out.frozenAt 2
                  have f3 := HOt.out.frozenAt 3
                  have f4 := HOt.out.frozenAt 4
                  clear hz he6
                  go_wp2_with fail
                  obtain ⟨X, hX⟩ : ∃ X : World, X = smash (W.drewN q9) g6 := ⟨_, rfl⟩
                  have hX' : ((((((W.drewN q9).setCell ⟨g6, 0, none⟩ (.int .i64 99)).setCell ⟨g6, 1, none⟩ (.int .i64 0)).setCell ⟨g6, 2, none⟩ (.int .i64 0)).setCell ⟨g6, 3, none⟩ (.int .i64 0)).setCell ⟨g6, 4, none⟩ (.string ⟨#[]⟩)) = X := by rw [hX]; rfl
                  rw [hX']
                  have hg6 : wr.heap.size ≤ g6 := (HOt.out.lt g6 rfl).1
                  have hgX : (W.drewN q9).grownBy X (some g6) := by rw [hX]; exact smash_grown _ _
                  have HMX : Hid (Mem X w.heap.size w2.heap.size v' V.flatten.length (cellsV V.flatten)) := hide ((HMt.out.drewN q9).only hgX (by omega) (fun e => by have := (HM.out.2.2.lt g6 e).2; omega))
                  have HAX := hide (show X.rowIs w3.heap.size 3 k _ from (show (W.drewN q9).rowIs w3.heap.size 3 k _ from HAt.out).of_block (hgX.block _ HAt.out.lt (fun e => by have h1 := HA.out.lt; injection e with e; omega)))
                  have hszX : W.heap.size ≤ X.heap.size := hgX.size
                  have HBX : Hid (Below w.heap.size w X) := hide ((below_drewN HBt.out q9).grown hgX (by simpa using hsW) (fun g h => by injection h with h; omega))
                  have HWX : Hid (RV X X.heap.size A8 r.n u) := hide (((HWt.out.drewN q9).only hgX (fun g' o h h0 => HFt.out g6 o g' rfl h0 h)).more hszX)
                  have hakX : X.cell? ⟨w3.heap.size, x, none⟩ = some (.int .i64 (1 + (startOf V x : Int))) := (World.cell?_of_block (w := W.drewN q9) (hgX.block w3.heap.size HAt.out.lt (fun e => by have h1 := HA.out.lt; injection e with e; omega))).trans hakW
                  have hrcX : X.cell? ⟨rb, ro + x, none⟩ = some (.slice r.A r.n r.c) := (World.cell?_of_block (w := W.drewN q9) (hgX.block rb (by show rb < W.heap.size; omega) (fun e => by injection e with e; omega))).trans hrcW
                  have HGX : Hid (∀ q, Calls Try.prog 35 _ (X.drewN q) _) := hide fun q => get_at w.heap.size w2.heap.size (startOf V x) r.n v' _ u (X.drewN q) (HMX.out.drewN q) (by omega) (by omega) (by rw [← HU.out.2.1]; exact part_flat V x u HU.out.1)
                  have hsX := HBX.out.size
                  clear hX hX' y0 y1 y2 y3 y4 f0 f1 f2 f3 f4 hgX hakW hrcW
                  go_wp2_with fail
                  go_region_held3 (fun w' => w'.cell? ⟨w3.heap.size, x, none⟩ = some (.int .i64 (1 + (startOf V x : Int))) ∧ w'.cell? ⟨rb, ro + x, none⟩ = some (.slice r.A r.n r.c))
                    (first | exact ⟨hakX, hrcX⟩ | exact ⟨(hb10.cell (p := ⟨w3.heap.size, x, none⟩) HAX.out.lt).trans hakX, (hb10.cell (p := ⟨rb, ro + x, none⟩) (by show rb < X.heap.size; omega)).trans hrcX⟩)
                    (first | (go_at_call 35; refine (HGX.out (1)).mono ?_; rintro e w10 ⟨v10, rfl, hown10, hb10⟩))
                  obtain ⟨A10, c10, rfl⟩ := own_form hown10
                  have HB10 : Hid (Below X.heap.size X w10) := hide (below_undrawn hb10)
                  have HU10 : Hid (RV w10 w10.heap.size A10 r.n u) := hide ⟨HU.out.2.1, Reads.of_own hown10⟩
                  have HW10 : Hid (RV w10 w10.heap.size A8 r.n u) := hide ((HWX.out.below HB10.out).more HB10.out.size)
                  clear hown10 hb10 hakX hrcX
                  go_wp2_with fail
                  refine (same_ok _ r.n c10 _ c8 A10 A8 u w10 HU10.out HW10.out hr1m).mono ?_
                  rintro e w11 ⟨rfl, q11, rfl⟩
                  go_wp2_with fail
                  go_roundw
                  case rel => exact ⟨x + 1, v', by omega, by go_num, (HMX.out.below HB10.out).drewN _, (show w10.rowIs _ _ _ _ from rowIs_below HAX.out HB10.out), below_drewN (HBX.out.trans (HB10.out.mono (by omega))) _⟩
                  case measure => simp [intOf]; omega
                · have HG9 : Hid (∀ q, Calls Try.prog 35 _ (W.drewN q) _) := hide fun q => get_at w.heap.size w2.heap.size (startOf V x) r.n v' _ u (W.drewN q) (HMt.out.drewN q) (by omega) (by omega) (by rw [← HU.out.2.1]; exact part_flat V x u HU.out.1)
                  go_wp2_with fail
                  go_region_held3 (fun w' => w'.cell? ⟨w3.heap.size, x, none⟩ = some (.int .i64 (1 + (startOf V x : Int))) ∧ w'.cell? ⟨rb, ro + x, none⟩ = some (.slice r.A r.n r.c))
                    (first | exact ⟨hakW, hrcW⟩ | exact ⟨(hb10.cell (p := ⟨w3.heap.size, x, none⟩) HAt.out.lt).trans hakW, (hb10.cell (p := ⟨rb, ro + x, none⟩) (by show rb < W.heap.size; omega)).trans hrcW⟩)
                    (first | (go_at_call 35; refine (HG9.out (q9 + 1)).mono ?_; rintro e w10 ⟨v10, rfl, hown10, hb10⟩))
                  obtain ⟨A10, c10, rfl⟩ := own_form hown10
                  have HB10 : Hid (Below W.heap.size W w10) := hide (below_undrawn hb10)
                  have HU10 : Hid (RV w10 w10.heap.size A10 r.n u) := hide ⟨HU.out.2.1, Reads.of_own hown10⟩
                  have HW10 : Hid (RV w10 w10.heap.size A8 r.n u) := hide ((HWt.out.below HB10.out).more HB10.out.size)
                  clear hown10 hb10 hakW hrcW
                  go_wp2_with fail
                  refine (same_ok _ r.n c10 _ c8 A10 A8 u w10 HU10.out HW10.out hr1m).mono ?_
                  rintro e w11 ⟨rfl, q11, rfl⟩
                  go_wp2_with fail
                  go_roundw
                  case rel => exact ⟨x + 1, v', by omega, by go_num, (HMt.out.below HB10.out).drewN _, (show w10.rowIs _ _ _ _ from rowIs_below HAt.out HB10.out), below_drewN (HBt.out.trans (HB10.out.mono (by omega))) _⟩
                  case measure => simp [intOf]; omega
              · have hxk' := hide hxk
                clear hxk
                obtain ⟨W, hW⟩ : ∃ W : World, W = w6 := ⟨_, rfl⟩
                have HMt : Hid (Mem W w.heap.size w2.heap.size v' V.flatten.length (cellsV V.flatten)) := hide (by rw [hW]; exact HM.out.below HB6.out)
                have HAt := hide (show W.rowIs w3.heap.size 3 k _ by rw [hW]; exact rowIs_below HA.out HB6.out)
                have HBt : Hid (Below w.heap.size w W) := hide (by rw [hW]; exact HB.out.trans (HB6.out.mono hbsz))
                have HOt : Hid (W.ownsRow wr.heap.size 81 5 (.slice A6 r.n c6) r.n (cellsV u)) := hide (by rw [hW]; exact HO6.out)
                have HUt : Hid (RV W W.heap.size A6 r.n u) := hide ⟨HU.out.2.1, Reads.of_own HOt.out⟩
                have HWt : Hid (RV W W.heap.size r.A r.n u) := hide (by
                  rw [hW, HU.out.2.2.1 hxk'.out]; exact (HRV.out.below (HB6.out.mono hbsz)).more (by omega))
                have HFt : Hid (∀ g o g', A6 = some ⟨g, 0, none⟩ → 0 < r.n → r.A = some ⟨g', o, none⟩ → g' ≠ g) := hide (by
                  rintro g o g' rfl h0 h8 e
                  obtain ⟨g'', o'', h9, h10, _⟩ := HRV.out.2.plain h0 (by omega)
                  rw [h8] at h9
                  have h2 : wr.heap.size ≤ g := (HO6.out.lt g rfl).1
                  injection h9 with h9
                  injection h9 with h11 _
                  omega)
                have hakW : W.cell? ⟨w3.heap.size, x, none⟩ = some (.int .i64 (1 + (startOf V x : Int))) := by rw [hW]; exact hak6
                have hrcW : W.cell? ⟨rb, ro + x, none⟩ = some (.slice r.A r.n r.c) := by rw [hW]; exact hrc6
                have hwW : wr.heap.size ≤ W.heap.size := by rw [hW]; omega
                have hxb : ((x : Int) == kk) = false := by rw [beq_eq_false_iff_ne]; have := hxk'.out; omega
                rw [← hW]
                clear hW
                have hsW := HBt.out.size
                go_wp2_with fail
                refine (same_ok _ r.n c6 _ r.c A6 r.A u _ HUt.out HWt.out hr1m).mono ?_
                rintro e W9 ⟨rfl, q9, rfl⟩
                by_cases hr0 : 0 < r.n
                · obtain ⟨g6, cap6, he6, _, _⟩ := row_one HOt.out 0 hr0
                  obtain ⟨rfl, rfl⟩ : A6 = some ⟨g6, 0, none⟩ ∧ c6 = cap6 := by simpa using he6
                  obtain ⟨z, hz⟩ : ∃ z, u[0]? = some z := ⟨_, List.getElem?_eq_getElem (by rw [HU.out.2.1]; exact hr0)⟩
                  have y0 : W.cell? ⟨g6, 0, none⟩ = some (.int .i64 z.k) := (HOt.out.cellAt 0 (by omega)).trans (cellsV_at u 0 z hz 0 _ rfl)
                  have y1 : W.cell? ⟨g6, 1, none⟩ = some (.int .i64 z.n) := (HOt.out.cellAt 1 (by omega)).trans (cellsV_at u 0 z hz 1 _ rfl)
                  have y2 : W.cell? ⟨g6, 2, none⟩ = some (.int .i64 z.m) := (HOt.out.cellAt 2 (by omega)).trans (cellsV_at u 0 z hz 2 _ rfl)
                  have y3 : W.cell? ⟨g6, 3, none⟩ = some (.int .i64 z.c) := (HOt.out.cellAt 3 (by omega)).trans (cellsV_at u 0 z hz 3 _ rfl)
                  have y4 : W.cell? ⟨g6, 4, none⟩ = some (.string z.s) := (HOt.out.cellAt 4 (by omega)).trans (cellsV_at u 0 z hz 4 _ rfl)
                  have f0 := HOt.out.frozenAt 0
                  have f1 := HOt.out.frozenAt 1
                  have f2 := HOt.out.frozenAt 2
                  have f3 := HOt.out.frozenAt 3
                  have f4 := HOt.out.frozenAt 4
                  clear hz he6
                  go_wp2_with fail
                  obtain ⟨X, hX⟩ : ∃ X : World, X = smash (W.drewN q9) g6 := ⟨_, rfl⟩
                  have hX' : ((((((W.drewN q9).setCell ⟨g6, 0, none⟩ (.int .i64 99)).setCell ⟨g6, 1, none⟩ (.int .i64 0)).setCell ⟨g6, 2, none⟩ (.int .i64 0)).setCell ⟨g6, 3, none⟩ (.int .i64 0)).setCell ⟨g6, 4, none⟩ (.string ⟨#[]⟩)) = X := by rw [hX]; rfl
                  rw [hX']
                  have hg6 : wr.heap.size ≤ g6 := (HOt.out.lt g6 rfl).1
                  have hgX : (W.drewN q9).grownBy X (some g6) := by rw [hX]; exact smash_grown _ _
                  have HMX : Hid (Mem X w.heap.size w2.heap.size v' V.flatten.length (cellsV V.flatten)) := hide ((HMt.out.drewN q9).only hgX (by omega) (fun e => by have := (HM.out.2.2.lt g6 e).2; omega))
                  have HAX := hide (show X.rowIs w3.heap.size 3 k _ from (show (W.drewN q9).rowIs w3.heap.size 3 k _ from HAt.out).of_block (hgX.block _ HAt.out.lt (fun e => by have h1 := HA.out.lt; injection e with e; omega)))
                  have hszX : W.heap.size ≤ X.heap.size := hgX.size
                  have HBX : Hid (Below w.heap.size w X) := hide ((below_drewN HBt.out q9).grown hgX (by simpa using hsW) (fun g h => by injection h with h; omega))
                  have HWX : Hid (RV X X.heap.size r.A r.n u) := hide (((HWt.out.drewN q9).only hgX (fun g' o h h0 => HFt.out g6 o g' rfl h0 h)).more hszX)
                  have hakX : X.cell? ⟨w3.heap.size, x, none⟩ = some (.int .i64 (1 + (startOf V x : Int))) := (World.cell?_of_block (w := W.drewN q9) (hgX.block w3.heap.size HAt.out.lt (fun e => by have h1 := HA.out.lt; injection e with e; omega))).trans hakW
                  have hrcX : X.cell? ⟨rb, ro + x, none⟩ = some (.slice r.A r.n r.c) := (World.cell?_of_block (w := W.drewN q9) (hgX.block rb (by show rb < W.heap.size; omega) (fun e => by injection e with e; omega))).trans hrcW
                  have HGX : Hid (∀ q, Calls Try.prog 35 _ (X.drewN q) _) := hide fun q => get_at w.heap.size w2.heap.size (startOf V x) r.n v' _ u (X.drewN q) (HMX.out.drewN q) (by omega) (by omega) (by rw [← HU.out.2.1]; exact part_flat V x u HU.out.1)
                  have hsX := HBX.out.size
                  clear hX hX' y0 y1 y2 y3 y4 f0 f1 f2 f3 f4 hgX hakW hrcW
                  go_wp2_with fail
                  go_region_held3 (fun w' => w'.cell? ⟨w3.heap.size, x, none⟩ = some (.int .i64 (1 + (startOf V x : Int))) ∧ w'.cell? ⟨rb, ro + x, none⟩ = some (.slice r.A r.n r.c))
                    (first | exact ⟨hakX, hrcX⟩ | exact ⟨(hb10.cell (p := ⟨w3.heap.size, x, none⟩) HAX.out.lt).trans hakX, (hb10.cell (p := ⟨rb, ro + x, none⟩) (by show rb < X.heap.size; omega)).trans hrcX⟩)
                    (first | (go_at_call 35; refine (HGX.out (1)).mono ?_; rintro e w10 ⟨v10, rfl, hown10, hb10⟩))
                  obtain ⟨A10, c10, rfl⟩ := own_form hown10
                  have HB10 : Hid (Below X.heap.size X w10) := hide (below_undrawn hb10)
                  have HU10 : Hid (RV w10 w10.heap.size A10 r.n u) := hide ⟨HU.out.2.1, Reads.of_own hown10⟩
                  have HW10 : Hid (RV w10 w10.heap.size r.A r.n u) := hide ((HWX.out.below HB10.out).more HB10.out.size)
                  clear hown10 hb10 hakX hrcX
                  go_wp2_with fail
                  refine (same_ok _ r.n c10 _ r.c A10 r.A u w10 HU10.out HW10.out hr1m).mono ?_
                  rintro e w11 ⟨rfl, q11, rfl⟩
                  go_wp2_with fail
                  go_roundw
                  case rel => exact ⟨x + 1, v', by omega, by go_num, (HMX.out.below HB10.out).drewN _, (show w10.rowIs _ _ _ _ from rowIs_below HAX.out HB10.out), below_drewN (HBX.out.trans (HB10.out.mono (by omega))) _⟩
                  case measure => simp [intOf]; omega
                · have HG9 : Hid (∀ q, Calls Try.prog 35 _ (W.drewN q) _) := hide fun q => get_at w.heap.size w2.heap.size (startOf V x) r.n v' _ u (W.drewN q) (HMt.out.drewN q) (by omega) (by omega) (by rw [← HU.out.2.1]; exact part_flat V x u HU.out.1)
                  go_wp2_with fail
                  go_region_held3 (fun w' => w'.cell? ⟨w3.heap.size, x, none⟩ = some (.int .i64 (1 + (startOf V x : Int))) ∧ w'.cell? ⟨rb, ro + x, none⟩ = some (.slice r.A r.n r.c))
                    (first | exact ⟨hakW, hrcW⟩ | exact ⟨(hb10.cell (p := ⟨w3.heap.size, x, none⟩) HAt.out.lt).trans hakW, (hb10.cell (p := ⟨rb, ro + x, none⟩) (by show rb < W.heap.size; omega)).trans hrcW⟩)
                    (first | (go_at_call 35; refine (HG9.out (q9 + 1)).mono ?_; rintro e w10 ⟨v10, rfl, hown10, hb10⟩))
                  obtain ⟨A10, c10, rfl⟩ := own_form hown10
                  have HB10 : Hid (Below W.heap.size W w10) := hide (below_undrawn hb10)
                  have HU10 : Hid (RV w10 w10.heap.size A10 r.n u) := hide ⟨HU.out.2.1, Reads.of_own hown10⟩
                  have HW10 : Hid (RV w10 w10.heap.size r.A r.n u) := hide ((HWt.out.below HB10.out).more HB10.out.size)
                  clear hown10 hb10 hakW hrcW
                  go_wp2_with fail
                  refine (same_ok _ r.n c10 _ r.c A10 r.A u w10 HU10.out HW10.out hr1m).mono ?_
                  rintro e w11 ⟨rfl, q11, rfl⟩
                  go_wp2_with fail
                  go_roundw
                  case rel => exact ⟨x + 1, v', by omega, by go_num, (HMt.out.below HB10.out).drewN _, (show w10.rowIs _ _ _ _ from rowIs_below HAt.out HB10.out), below_drewN (HBt.out.trans (HB10.out.mono (by omega))) _⟩
                  case measure => simp [intOf]; omega
            · go_wp2_with fail
              go_ret
              exact ⟨rfl, hB⟩
        · go_wp2_with fail
          go_ret
          exact ⟨rfl, HB.out⟩

set_option maxHeartbeats 1000000 in
theorem apart_zero (c m d : Nat) (which : Int) (A A2 : Option Addr) (ls : List Val) (w : World) (hL : RV w w.heap.size A2 m ls)
    (hls : ∀ v ∈ ls, v.s.size ≤ maxLen) (hm : m ≤ 9223372036854775807) :
    Calls Try.prog 8 #[.slice A 0 c, .int .i64 which, .slice A2 m d] w fun e w' => e = .returned (.bool true) ∧ Below w.heap.size w w' := by
  have hmk : ∀ W, (Instr.makeSlice 30 (.int .i64 0) (.int .i64 0)).run Try.prog W = _ := fun W => run_make_row' (P := Try.prog) 30 3 (.int .i64 0) 8 Try.underlying30 intInfo rfl .i64 .i64 0 (by omega) (by omega) W
  go_enter Try.func8, Try.ntmps8
  go_wp2_with fail
  refine (cell_awake _).mono ?_
  rintro e w1 ⟨rfl, hb1⟩
  have HB1 := hide hb1
  have hs1 := hb1.size
  clear hb1
  go_wp2_with fail
  refine (great_any w.heap.size m d 0 0 0 A2 ls w1 (hL.below HB1.out) hs1 hls hm).mono ?_
  rintro e w2 ⟨g, rfl, hg, hb2⟩
  have HB2 : Hid (Below w.heap.size w w2) := hide (HB1.out.trans (hb2.mono hs1))
  have hs2 : w.heap.size ≤ w2.heap.size := HB2.out.size
  clear hb2 hg
  cases g with
  | true =>
    go_wp2_with fail
    go_ret
    exact ⟨rfl, HB2.out⟩
  | false =>
    go_wp2_with fail
    refine (new_ok w.heap.size w2 hs2).mono ?_
    rintro e w3 ⟨rfl, hM3, hb3⟩
    have HM3 := hide hM3
    have HB3 : Hid (Below w.heap.size w w3) := hide (HB2.out.trans (hb3.mono hs2))
    have hs3 := hM3.1.lt
    clear hM3 hb3
    go_wp2_with fail
    clear hmk
    go_loopw [9] (fun i wr => i = .int .i64 0 ∧ Mem wr w.heap.size w2.heap.size (.slice none 0 0) 0 [] ∧ Below w.heap.size w wr) (fun i _ => 0)
    case atStart => exact ⟨rfl, HM3.out.alloc _, HB3.out.alloc (by omega) _⟩
    case round =>
      obtain ⟨rfl, hM, hB⟩ := hrel
      have HM := hide hM
      have HB := hide hB
      clear hM hB
      go_wp2_with fail
      refine (len_any _ _ _ _ _ _ HM.out).mono ?_
      rintro e w4 ⟨rfl, rfl⟩
      go_wp2_with fail
      go_ret
      exact ⟨rfl, HB.out⟩

set_option maxHeartbeats 1000000 in
theorem apart_walk (n c m d : Nat) (which : Int) (A A2 : Option Addr) (rows : List RowV) (ls : List Val) (w : World) (hR : RR w w.heap.size A n rows) (hL : RV w w.heap.size A2 m ls)
    (hls : ∀ v ∈ ls, v.s.size ≤ maxLen) (hn : n ≤ 9223372036854775807) (hm : m ≤ 9223372036854775807) :
    Calls Try.prog 8 #[.slice A n c, .int .i64 which, .slice A2 m d] w fun e w' => e = .returned (.bool true) ∧ Below w.heap.size w w' := by
  by_cases h40 : n ≤ 40
  · rcases Nat.eq_zero_or_pos n with rfl | h0
    · exact apart_zero c m d which A A2 ls w hL hls hm
    · exact apart_pos n c m d which A A2 rows ls w hR hL hls h0 h40 hm
  · go_enter Try.func8, Try.ntmps8
    go_wp2_with fail
    refine (cell_awake _).mono ?_
    rintro e w1 ⟨rfl, hb1⟩
    have HB1 := hide hb1
    clear hb1
    go_wp2_with fail
    go_ret
    exact ⟨rfl, HB1.out⟩

end Go.Proofs.Ytoaajblkbbfikaa
