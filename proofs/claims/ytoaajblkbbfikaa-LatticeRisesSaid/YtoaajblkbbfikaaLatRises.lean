/- What LatticeRises answers. -/
import Derived.Test.YtoaajblkbbfikaaLatList
import Derived.Laws.Cover1
import Derived.Deep.RegionHeld3
namespace Go.Proofs.Ytoaajblkbbfikaa
open Go.RowKit Go.WideShapes Go.ChangeShapes
set_option linter.unusedVariables false
set_option maxRecDepth 100000

theorem below_undrew {B : Nat} {w w' : World} (h : Below B w.drew w') : Below B w w' := ⟨h.os, h.tape, h.output, h.size, h.block⟩
/-- Two cells in each of two blocks. -/
theorem four_alloc {w : World} {s b i1 i2 j1 j2 : Nat} {a1 a2 b1 b2 : Option Value} (h : w.cell? ⟨s, i1, none⟩ = a1 ∧ w.cell? ⟨s, i2, none⟩ = a2 ∧ w.cell? ⟨b, j1, none⟩ = b1 ∧ w.cell? ⟨b, j2, none⟩ = b2) (hs : s < w.heap.size) (hb : b < w.heap.size) (o : Obj) :
    (w.alloc o).cell? ⟨s, i1, none⟩ = a1 ∧ (w.alloc o).cell? ⟨s, i2, none⟩ = a2 ∧ (w.alloc o).cell? ⟨b, j1, none⟩ = b1 ∧ (w.alloc o).cell? ⟨b, j2, none⟩ = b2 :=
  ⟨(World.cell?_alloc_lt w _ ⟨s, i1, none⟩ hs).trans h.1, (World.cell?_alloc_lt w _ ⟨s, i2, none⟩ hs).trans h.2.1, (World.cell?_alloc_lt w _ ⟨b, j1, none⟩ hb).trans h.2.2.1, (World.cell?_alloc_lt w _ ⟨b, j2, none⟩ hb).trans h.2.2.2⟩
theorem four_set {w : World} {s b i1 i2 j1 j2 : Nat} {a1 a2 b1 b2 : Option Value} (h : w.cell? ⟨s, i1, none⟩ = a1 ∧ w.cell? ⟨s, i2, none⟩ = a2 ∧ w.cell? ⟨b, j1, none⟩ = b1 ∧ w.cell? ⟨b, j2, none⟩ = b2) {p : Addr} (hs : p.block ≠ s) (hb : p.block ≠ b) (u : Value) :
    (w.setCell p u).cell? ⟨s, i1, none⟩ = a1 ∧ (w.setCell p u).cell? ⟨s, i2, none⟩ = a2 ∧ (w.setCell p u).cell? ⟨b, j1, none⟩ = b1 ∧ (w.setCell p u).cell? ⟨b, j2, none⟩ = b2 :=
  ⟨(World.cell?_setCell_other w p _ u (fun e => hs (congrArg Addr.block e))).trans h.1, (World.cell?_setCell_other w p _ u (fun e => hs (congrArg Addr.block e))).trans h.2.1,
    (World.cell?_setCell_other w p _ u (fun e => hb (congrArg Addr.block e))).trans h.2.2.1, (World.cell?_setCell_other w p _ u (fun e => hb (congrArg Addr.block e))).trans h.2.2.2⟩
theorem four_below {w w' : World} {B s b i1 i2 j1 j2 : Nat} {a1 a2 b1 b2 : Option Value} (h : w.cell? ⟨s, i1, none⟩ = a1 ∧ w.cell? ⟨s, i2, none⟩ = a2 ∧ w.cell? ⟨b, j1, none⟩ = b1 ∧ w.cell? ⟨b, j2, none⟩ = b2) (hw : Below B w w') (hs : s < B) (hb : b < B) :
    w'.cell? ⟨s, i1, none⟩ = a1 ∧ w'.cell? ⟨s, i2, none⟩ = a2 ∧ w'.cell? ⟨b, j1, none⟩ = b1 ∧ w'.cell? ⟨b, j2, none⟩ = b2 :=
  ⟨(hw.cell (p := ⟨s, i1, none⟩) hs).trans h.1, (hw.cell (p := ⟨s, i2, none⟩) hs).trans h.2.1, (hw.cell (p := ⟨b, j1, none⟩) hb).trans h.2.2.1, (hw.cell (p := ⟨b, j2, none⟩) hb).trans h.2.2.2⟩
/-- What stands in memory ahead of each round of the last loop. -/
def RisesRel (w : World) (tag N : Int) (n : Nat) (fs : List Fa) (s : Nat) (ch i : Value) (wr : World) : Prop :=
  ∃ (k x : Nat) (cf : Bool) (A : Option Addr) (m c : Nat) (F : List Int), k ≤ n ∧ i = .int .i64 k ∧ ch = .int .i64 x ∧ x ≤ rise tag cf F ∧ goodB tag N cf F.length F = true ∧
    Blk wr s 103 #[.bool cf, .slice A m c] ∧ RI wr wr.heap.size A m F ∧ Below w.heap.size w wr ∧ w.heap.size ≤ s

theorem own_step {w w' : World} {B e s n : Nat} {v : Value} {xs : List Value} (h : w.ownsRow B e s v n xs) (hb : Below w.heap.size w w') : w'.ownsRow B e s v n xs :=
  h.kept (row := none) ⟨hb.os, hb.tape, hb.output, hb.size, fun i hi _ => hb.block i hi⟩ (by cases hv : v.ownBlock <;> simp)
/-- What stands in memory behind a join of the last loop. -/
structure RG (wr : World) (s gb m c2 k1 : Nat) (cf cj : Bool) (A2 A1 : Option Addr) (F L : List Int) (W : World) : Prop where
  bs : Blk W s 103 #[.bool cf, .slice A2 m c2]
  bg : Blk W gb 103 #[.bool cj, .slice A1 L.length k1]
  rf : RI W wr.heap.size A2 m F
  own : W.ownsRow wr.heap.size 3 1 (.slice A1 L.length k1) L.length (L.map (Value.int .i64))
  low : Below wr.heap.size wr W
theorem RG.step {wr : World} {s gb m c2 k1 : Nat} {cf cj : Bool} {A2 A1 : Option Addr} {F L : List Int} {W W' : World} (h : RG wr s gb m c2 k1 cf cj A2 A1 F L W) (hb : Below W.heap.size W W') : RG wr s gb m c2 k1 cf cj A2 A1 F L W' :=
  ⟨h.bs.below hb h.bs.lt, h.bg.below hb h.bg.lt, h.rf.below (hb.mono h.low.size), own_step h.own hb, h.low.trans (hb.mono h.low.size)⟩
theorem RG.cells {wr : World} {s gb m c2 k1 : Nat} {cf cj : Bool} {A2 A1 : Option Addr} {F L : List Int} {W : World} (h : RG wr s gb m c2 k1 cf cj A2 A1 F L W) :
    W.cell? ⟨s, 0, none⟩ = some (.bool cf) ∧ W.cell? ⟨s, 1, none⟩ = some (.slice A2 m c2) ∧ W.cell? ⟨gb, 0, none⟩ = some (.bool cj) ∧ W.cell? ⟨gb, 1, none⟩ = some (.slice A1 L.length k1) := by
  have a0 := h.bs.cell 0
  have a1 := h.bs.cell 1
  have b0 := h.bg.cell 0
  have b1 := h.bg.cell 1
  simp at a0 a1 b0 b1
  exact ⟨a0, a1, b0, b1⟩
theorem RG.end_ {wr : World} {s gb m c2 k1 : Nat} {cf cj : Bool} {A2 A1 : Option Addr} {F L : List Int} {W : World} (h : RG wr s gb m c2 k1 cf cj A2 A1 F L W) {b : Nat} (hb : b ≤ s) (hs : s < wr.heap.size) :
    Blk ((W.setCell ⟨s, 0, none⟩ (.bool cj)).setCell ⟨s, 1, none⟩ (.slice A1 L.length k1)) s 103 #[.bool cj, .slice A1 L.length k1] ∧
    RI ((W.setCell ⟨s, 0, none⟩ (.bool cj)).setCell ⟨s, 1, none⟩ (.slice A1 L.length k1)) ((W.setCell ⟨s, 0, none⟩ (.bool cj)).setCell ⟨s, 1, none⟩ (.slice A1 L.length k1)).heap.size A1 L.length L ∧
    Below b wr ((W.setCell ⟨s, 0, none⟩ (.bool cj)).setCell ⟨s, 1, none⟩ (.slice A1 L.length k1)) := by
  have hne : Value.ownBlock (.slice A1 L.length k1) ≠ some s := fun e => by have := (h.own.lt _ e).1; omega
  refine ⟨?_, RI.own rfl (ownsRow_setCell_other (a := ⟨s, 1, none⟩) (ownsRow_setCell_other (a := ⟨s, 0, none⟩) h.own hne _) hne _), ((h.low.mono (by omega)).setCell (p := ⟨s, 0, none⟩) hb _).setCell (p := ⟨s, 1, none⟩) hb _⟩
  have h := (h.bs.set_ 0 (.bool cj)).set_ 1 (.slice A1 L.length k1)
  simpa using h
theorem RG.new1 {wr w5 : World} {s m c2 k1 : Nat} {cf cj : Bool} {A2 A1 : Option Addr} {F L : List Int} (hs : Blk wr s 103 #[.bool cf, .slice A2 m c2]) (hf : RI wr wr.heap.size A2 m F)
    (hlw : Below wr.heap.size wr w5) (hown : w5.ownsRow wr.heap.size 3 1 (.slice A1 L.length k1) L.length (L.map (Value.int .i64))) :
    RG wr s w5.heap.size m c2 k1 cf cj A2 A1 F L (w5.alloc (.cells #[.bool cj, .slice A1 L.length k1] 103)) :=
  ⟨(hs.below hlw hs.lt).alloc _, Blk.new _ _ _, (hf.below hlw).alloc hlw.size _, hown.alloc _, hlw.alloc hlw.size _⟩
theorem RG.new2 {wr w5 : World} {s m c2 k1 : Nat} {cf cj : Bool} {A2 A1 : Option Addr} {F L : List Int} (hs : Blk wr s 103 #[.bool cf, .slice A2 m c2]) (hf : RI wr wr.heap.size A2 m F)
    (hlw : Below wr.heap.size wr w5) (hg : Blk w5 wr.heap.size 103 #[.bool false, .slice none 0 0]) (hown : w5.ownsRow (wr.heap.size + 1) 3 1 (.slice A1 L.length k1) L.length (L.map (Value.int .i64))) :
    RG wr s wr.heap.size m c2 k1 cf cj A2 A1 F L ((w5.setCell ⟨wr.heap.size, 0, none⟩ (.bool cj)).setCell ⟨wr.heap.size, 1, none⟩ (.slice A1 L.length k1)) := by
  have hsl := hs.lt
  have hne : Value.ownBlock (.slice A1 L.length k1) ≠ some wr.heap.size := fun e => by have := (hown.lt _ e).1; omega
  have hlw2 := (hlw.setCell (p := ⟨wr.heap.size, 0, none⟩) (Nat.le_refl _) (.bool cj)).setCell (p := ⟨wr.heap.size, 1, none⟩) (Nat.le_refl _) (.slice A1 L.length k1)
  refine ⟨hs.below hlw2 hsl, ?_, hf.below hlw2, own_mono_ (ownsRow_setCell_other (a := ⟨wr.heap.size, 1, none⟩) (ownsRow_setCell_other (a := ⟨wr.heap.size, 0, none⟩) hown hne _) hne _) (by omega), hlw2⟩
  have h := (hg.set_ 0 (.bool cj)).set_ 1 (.slice A1 L.length k1)
  simpa using h

theorem rises_height (tag N : Int) (h0 : 0 ≤ N) (h1 : N ≤ 1000) (ht : tag = 1 ∨ tag = 2) (w : World) :
    Calls Try.prog 61 #[.int .i64 tag, .int .i64 N] w fun e w' => e = .returned (.int .i64 (1 + (if tag = 1 then 2 else 1) * N)) ∧ w = w' := by
  rcases ht with rfl | rfl
  · exact height_flat N h0 h1 w
  · simpa using height_set N h0 h1 w

set_option maxHeartbeats 4000000 in
theorem rises_walk (tag : Int) (n c : Nat) (A : Option Addr) (fs : List Fa) (w : World) (hR : RF w w.heap.size A n fs) (hn : n ≤ 9223372036854775807) :
    Calls Try.prog 13 #[.int .i64 tag, .slice A n c] w (BoolBelow w true) := by
  have HR := hide hR
  clear hR
  go_enter Try.func13, Try.ntmps13
  go_wp2_with fail
  refine (awake20 _).mono ?_
  rintro e W1 ⟨rfl, hb1⟩
  have HB1 := hide hb1
  clear hb1
  by_cases h200 : 200 < n
  · have h2 : decide (200 < (n : Int)) = true := by simpa using (by omega : (200 : Int) < n)
    go_wp2_with fail
    go_ret
    exact ⟨rfl, HB1.out⟩
  have h2 : decide (200 < (n : Int)) = false := by simpa using (by omega : ¬ (200 : Int) < n)
  by_cases h0 : n = 0
  · subst h0
    go_wp2_with fail
    go_ret
    exact ⟨rfl, HB1.out⟩
  have h3 : ((n : Int) == 0) = false := by simpa using (by omega : ¬ n = 0)
  have H0 := hide (show 0 < n by omega)
  have H200 := hide (show n ≤ 200 by omega)
  clear h200 h0
  go_wp2_with fail
  clear h2 h3
  go_loopw [5, 6] (fun N i wr => ∃ (k : Nat) (m : Int), k ≤ n ∧ i = .int .i64 k ∧ N = .int .i64 m ∧ 0 ≤ m ∧ Below w.heap.size w wr) (fun _ i _ => n - (intOf i).toNat)
  case atStart => exact ⟨0, 0, by omega, rfl, rfl, by omega, HB1.out⟩
  case round =>
    obtain ⟨k, N, hk, rfl, rfl, hN0, hb2⟩ := hrel
    by_cases hlt : k < n
    · obtain ⟨b, off, f, rfl, hb, hf, c0, c1, hr, hfn⟩ := (HR.out.below hb2).at_ hlt
      have hmx : ∃ M : Int, 0 ≤ M ∧ ∀ (W : World) ts t, (Builtin.max_ ts t #[.int .i64 N, .int .i64 (f.n : Int)]).run Try.prog W = .ok (.int .i64 M) W := ⟨_, (by split <;> omega), fun W ts t => run_max_int2 W ts t _ _ _ _⟩
      obtain ⟨M, hM0, hM⟩ := hmx
      have hM := hM wr #[3, 3] 3
      have HB2 := hide hb2
      have HM0 := hide hM0
      clear hb2 hr hf hM0 hN0
      have := H200.out
      go_wp2_with fail
      go_roundw
      case rel => exact ⟨k + 1, M, by omega, rfl, rfl, HM0.out, HB2.out⟩
      case measure => simp [intOf]; omega
    · obtain rfl : k = n := by omega
      have HB2 := hide hb2
      have HN0 := hide hN0
      clear hlt hk hb2
      have := H200.out
      have hN : True := trivial
      by_cases h60 : N > 60
      · have h4 : decide (60 < N) = true := by simpa using h60
        go_wp2_with fail
        go_ret
        exact ⟨rfl, HB2.out⟩
      have h4 : decide (60 < N) = false := by simpa using h60
      have H60 := hide h60
      clear h60
      go_wp2_with fail
      clear h4
      go_loopw [7] (fun i wr => ∃ j : Nat, j ≤ k ∧ i = .int .i64 j ∧ Below w.heap.size w wr ∧ ∀ x f, x < j → fs[x]? = some f → goodB tag N f.cm f.n f.xs = true) (fun i _ => k - (intOf i).toNat)
      case atStart => exact ⟨0, by omega, rfl, HB2.out, by omega⟩
      case round =>
        obtain ⟨j, hj, rfl, hb3, hg⟩ := hrel
        have HG := hide hg
        have HB3 := hide hb3
        clear hg hb3
        by_cases hlt : j < k
        · obtain ⟨b, off, f, rfl, hb, hf, c0, c1, hr, hfn⟩ := (HR.out.below HB3.out).at_ hlt
          have HF := hide hf
          have G1 := good_any w.heap.size f.n f.k tag N f.cm f.A f.xs wr hr HB3.out.size (by unfold maxLen at hfn; omega)
          clear hf hr
          cases hga : goodB tag N f.cm f.n f.xs with
          | false =>
            rw [hga] at G1
            have G1 := hide G1
            clear hga
            go_wp2_with fail
            refine G1.out.mono ?_
            rintro e W2 ⟨rfl, hb4⟩
            have HB4 := hide hb4
            clear hb4
            go_wp2_with fail
            go_ret
            exact ⟨rfl, HB3.out.trans (HB4.out.mono HB3.out.size)⟩
          | true =>
            rw [hga] at G1
            have G1 := hide G1
            have HGA := hide hga
            clear hga
            go_wp2_with fail
            refine G1.out.mono ?_
            rintro e W2 ⟨rfl, hb4⟩
            have HB4 := hide hb4
            clear hb4
            go_wp2_with fail
            go_roundw
            case rel =>
              refine ⟨j + 1, by omega, rfl, HB3.out.trans (HB4.out.mono HB3.out.size), fun x g hx hgx => ?_⟩
              by_cases hxj : x < j
              · exact HG.out x g hxj hgx
              · obtain rfl : x = j := by omega
                have h := HF.out
                rw [hgx] at h
                injection h with h
                rw [h]
                exact HGA.out
            case measure => simp [intOf]; omega
        · obtain rfl : j = k := by omega
          clear hlt hj
          have hgd : ∀ f ∈ fs, goodB tag N f.cm f.xs.length f.xs = true := fun f hf => by
            obtain ⟨x, hx, he⟩ := List.mem_iff_getElem.1 hf
            have hl := HR.out.1
            have h := HG.out x f (by omega) (by rw [List.getElem?_eq_getElem hx, he])
            rw [(HR.out.2.2 f hf).1.1]
            exact h
          have htag : tag = 1 ∨ tag = 2 := by
            obtain ⟨f, hf⟩ := List.exists_mem_of_length_pos (l := fs) (by rw [HR.out.1]; exact H0.out)
            exact good_tag (hgd f hf)
          have HGD := hide hgd
          have HT := hide htag
          clear hgd htag HG
          go_wp2_with fail
          refine (bottom_any N wr).mono ?_
          rintro e w3 ⟨rfl, hb4⟩
          have HB4 := hide (HB3.out.trans (hb4.mono HB3.out.size))
          clear hb4
          go_wp2_with fail
          obtain ⟨s, hs⟩ : ∃ s, s = w3.heap.size := ⟨_, rfl⟩
          have HBS : Hid (Blk (w3.alloc (.cells #[.bool false, .slice none 0 0] 103)) s 103 #[.bool false, .slice none 0 0]) := hide (by rw [hs]; exact Blk.new _ _ _)
          have HS : Hid (w.heap.size ≤ s) := hide (by rw [hs]; exact HB4.out.size)
          rw [← hs]
          clear hs
          go_loopw [9, 10] (fun ch i wr => RisesRel w tag N j fs s ch i wr) (fun _ i _ => j - (intOf i).toNat)
          case atStart =>
            exact ⟨0, 0, false, none, 0, 0, [], by omega, rfl, rfl, by omega, by rcases HT.out with rfl | rfl <;> simp [goodB], HBS.out, ⟨rfl, Reads.none_⟩, HB4.out.alloc HB4.out.size _, HS.out⟩
          case round =>
            clear HBS HB4 HB3 HB2 HB1
            obtain ⟨k, x, cf, A2, m, c2, F, hk, rfl, rfl, hx, hgF, hbs, hrF, hbW, _⟩ := hrel
            by_cases hlt : k < j
            · obtain ⟨b, off, f, rfl, hb, hf, c0, c1, hr, hfn⟩ := (HR.out.below hbW).at_ hlt
              have hfm : f ∈ fs := List.mem_of_getElem? hf
              have hgf := HGD.out f hfm
              have l1 : F.length ≤ 60 := good_len hgF (by have := H60.out; omega)
              have l2 : f.xs.length ≤ 60 := good_len hgf (by have := H60.out; omega)
              have e1 := hrF.1
              have e2 := hr.1
              have hrj := rise_join hgF hgf
              have hgj := good_join hgF hgf
              have hlj := joinL_len hgF hgf (by have := H60.out; omega)
              have HJ := fun (W : World) (hW : Below wr.heap.size wr W) => join_any tag N m f.n c2 f.k cf f.cm A2 f.A F f.xs W ((hrF.below hW).more hW.size) ((hr.below (hW.mono hbW.size)).more (Nat.le_trans hbW.size hW.size)) (by omega) (by omega) hgF hgf
              have d0 := hbs.cell 0
              have d1 := hbs.cell 1
              simp at d0 d1
              have HJ := hide HJ
              have HBS := hide hbs
              have HRF := hide hrF
              have HBW := hide hbW
              have HGF := hide hgF
              have HX := hide hx
              have HRJ := hide hrj
              have HGJ := hide hgj
              have HL := hide (And.intro hlj (And.intro (show m ≤ 60 by omega) (show f.n ≤ 60 by omega)))
              clear hbs hrF hbW hgF hx hf hfm hgf l1 l2 e1 e2 hr hrj hgj hlj
              go_wp2_with fail
              have hws := HBW.out.size
              have hsl := HBS.out.lt
              have hbl : b < wr.heap.size := by omega
              have hn1 : (⟨wr.heap.size, 0, none⟩ : Addr).block ≠ s := by show wr.heap.size ≠ s; omega
              have hn2 : (⟨wr.heap.size, 0, none⟩ : Addr).block ≠ b := by show wr.heap.size ≠ b; omega
              go_region_held3 (fun w' => w'.cell? ⟨s, 0, none⟩ = some (.bool cf) ∧ w'.cell? ⟨s, 1, none⟩ = some (.slice A2 m c2) ∧ w'.cell? ⟨b, off + k * 2, none⟩ = some (.bool f.cm) ∧ w'.cell? ⟨b, off + k * 2 + 1, none⟩ = some (.slice f.A f.n f.k))
                (first | exact ⟨d0, d1, c0, c1⟩ | exact four_alloc ⟨d0, d1, c0, c1⟩ hsl hbl _ | exact hk5 | exact four_alloc hk5 hs5 hb5' _ | exact four_set (four_set hk5 hn1 hn2 _) hn1 hn2 _)
                (first
                  | (go_at_call 56; refine (HJ.out _ ((Below.refl _ _).drew)).mono ?_; rintro e w5 ⟨A1, k1, rfl, hown, hb5⟩
                     have hlw5 : Below wr.heap.size wr w5 := below_undrew hb5
                     have hk5 := four_below ⟨d0, d1, c0, c1⟩ hlw5 hsl hbl
                     have hs5 : s < w5.heap.size := Nat.lt_of_lt_of_le hsl hlw5.size
                     have hb5' : b < w5.heap.size := Nat.lt_of_lt_of_le hbl hlw5.size)
                  | (go_at_call 56; refine (HJ.out _ (((Below.refl _ _).alloc (Nat.le_refl _) (.cells #[.bool false, .slice none 0 0] 103)).drew)).mono ?_; rintro e w5 ⟨A1, k1, rfl, hown, hb5⟩
                     have hlw5 : Below wr.heap.size wr w5 := (((Below.refl _ _).alloc (Nat.le_refl _) (.cells #[.bool false, .slice none 0 0] 103)).drew).trans (hb5.mono (by simp [World.drew]))
                     have hk5 := four_below ⟨d0, d1, c0, c1⟩ hlw5 hsl hbl
                     have hs5 : s < w5.heap.size := Nat.lt_of_lt_of_le hsl hlw5.size
                     have hb5' : b < w5.heap.size := Nat.lt_of_lt_of_le hbl hlw5.size
                     have hg5 : Blk w5 wr.heap.size 103 #[.bool false, .slice none 0 0] := Blk.below (Blk.new wr 103 #[.bool false, .slice none 0 0]) ⟨hb5.os, hb5.tape, hb5.output, hb5.size, hb5.block⟩ (by simp [World.drew])
                     have p0 := hg5.cell 0
                     have p1 := hg5.cell 1
                     have q0 := hg5.frozen 0
                     have q1 := hg5.frozen 1
                     simp at p0 p1))
              all_goals obtain ⟨L, hL⟩ : ∃ L, L = joinL tag cf F f.cm f.xs := ⟨_, rfl⟩
              all_goals obtain ⟨cj, hcj⟩ : ∃ cj, cj = (cf || f.cm) := ⟨_, rfl⟩
              all_goals rw [← hL, ← hcj]
              all_goals simp only [← hL, ← hcj] at hown HRJ HGJ HL
              all_goals clear hL hcj
              all_goals first
                | (obtain ⟨W6, hW6⟩ : ∃ W : World, W = (w5.setCell ⟨wr.heap.size, 0, none⟩ (.bool cj)).setCell ⟨wr.heap.size, 1, none⟩ (.slice A1 L.length k1) := ⟨_, rfl⟩
                   obtain ⟨gb, hgb⟩ : ∃ g, g = wr.heap.size := ⟨_, rfl⟩
                   have hrg := RG.new2 (cj := cj) HBS.out HRF.out hlw5 hg5 (by simpa [World.drew] using hown)
                   rw [← hW6, ← hgb] at hrg ⊢)
                | (obtain ⟨W6, hW6⟩ : ∃ W : World, W = w5.alloc (.cells #[.bool cj, .slice A1 L.length k1] 103) := ⟨_, rfl⟩
                   obtain ⟨gb, hgb⟩ : ∃ g, g = w5.heap.size := ⟨_, rfl⟩
                   have hrg := RG.new1 (cj := cj) HBS.out HRF.out hlw5 hown
                   rw [← hW6, ← hgb] at hrg ⊢)
              all_goals
                have HRG := hide hrg
                obtain ⟨a0, a1, b0, b1⟩ := hrg.cells
                have BF : ∀ W, RG wr s gb m c2 k1 cf cj A2 A1 F L W → Calls Try.prog 59 #[.int .i64 tag, .agg #[.bool cf, .slice A2 m c2], .agg #[.bool cj, .slice A1 L.length k1]] W (BoolBelow W true) := fun W hG => by
                  have h := below_good tag N m L.length c2 k1 cf cj A2 A1 F L W (hG.rf.more hG.low.size) (RI.own rfl hG.own) (by have := HL.out; omega) (by have := HL.out; omega) HGF.out HGJ.out
                  rw [HRJ.out.2.2] at h; exact h
                have GJ : ∀ W, RG wr s gb m c2 k1 cf cj A2 A1 F L W → Calls Try.prog 55 #[.int .i64 tag, .int .i64 N, .agg #[.bool cj, .slice A1 L.length k1]] W (BoolBelow W true) := fun W hG => by
                  have h := good_any W.heap.size L.length k1 tag N cj A1 L W (RI.own rfl hG.own) (Nat.le_refl _) (by have := HL.out; omega)
                  rw [HGJ.out] at h; exact h
                have SM : ∀ W, RG wr s gb m c2 k1 cf cj A2 A1 F L W → Calls Try.prog 57 #[.agg #[.bool cf, .slice A2 m c2], .agg #[.bool cj, .slice A1 L.length k1]] W (BoolBelow W (cf == cj && decide (F = L))) := fun W hG =>
                  same_any m L.length c2 k1 cf cj A2 A1 F L W (hG.rf.more hG.low.size) (RI.own rfl hG.own) (by have := HL.out; omega) (by have := HL.out; omega)
                have BF := hide BF
                have GJ := hide GJ
                have SM := hide SM
                clear hrg hW6 hgb hown hb5 hlw5 hk5 hs5 hb5' d0 d1 c0 c1 hn1 hn2 HJ
                try clear hg5 p0 p1 q0 q1
                go_wp2_with fail
                refine (BF.out _ HRG.out).mono ?_
                rintro e w7 ⟨rfl, hb7⟩
                have HRG7 := hide (HRG.out.step hb7)
                clear hb7 a0 a1 b0 b1
                obtain ⟨a0, a1, b0, b1⟩ := HRG7.out.cells
                go_wp2_with fail
                refine (GJ.out _ HRG7.out).mono ?_
                rintro e w8 ⟨rfl, hb8⟩
                have HRG8 := hide (HRG7.out.step hb8)
                clear hb8 a0 a1 b0 b1
                obtain ⟨a0, a1, b0, b1⟩ := HRG8.out.cells
                have SMW := SM.out _ HRG8.out
                go_wp2_with fail
                cases hsm : (cf == cj && decide (F = L)) with
                | false =>
                  rw [hsm] at SMW
                  have SMW := hide SMW
                  have HSM := hide hsm
                  clear hsm
                  refine SMW.out.mono ?_
                  rintro e w9 ⟨rfl, hb9⟩
                  have HRG9 := hide (HRG8.out.step hb9)
                  clear hb9 a0 a1 b0 b1
                  obtain ⟨a0, a1, b0, b1⟩ := HRG9.out.cells
                  have f0 := HRG9.out.bs.frozen 0
                  have f1 := HRG9.out.bs.frozen 1
                  have hx63 : IntKind.i64.wrap ((x : Int) + 1) = (x : Int) + 1 := IntWalk.i64_in _ (by have h1 := HX.out; have h2 := rise_le HGF.out HN0.out; have h3 := H60.out; split at h2 <;> omega)
                  go_wp2_with fail
                  go_roundw
                  case rel =>
                    obtain ⟨e1, e2, e3⟩ := HRG9.out.end_ (b := w.heap.size) HS.out hsl
                    exact ⟨k + 1, x + 1, cj, A1, L.length, k1, L, by omega, rfl, rfl, by have := HX.out; have := HRJ.out.2.1 HSM.out; omega, HGJ.out, e1, e2, HBW.out.trans e3, HS.out⟩
                  case measure => simp [intOf]; omega
                | true =>
                  rw [hsm] at SMW
                  have SMW := hide SMW
                  clear hsm
                  refine SMW.out.mono ?_
                  rintro e w9 ⟨rfl, hb9⟩
                  have HRG9 := hide (HRG8.out.step hb9)
                  clear hb9 a0 a1 b0 b1
                  obtain ⟨a0, a1, b0, b1⟩ := HRG9.out.cells
                  have f0 := HRG9.out.bs.frozen 0
                  have f1 := HRG9.out.bs.frozen 1
                  go_wp2_with fail
                  go_roundw
                  case rel =>
                    obtain ⟨e1, e2, e3⟩ := HRG9.out.end_ (b := w.heap.size) HS.out hsl
                    exact ⟨k + 1, x, cj, A1, L.length, k1, L, by omega, rfl, rfl, by have := HX.out; have := HRJ.out.1; omega, HGJ.out, e1, e2, HBW.out.trans e3, HS.out⟩
                  case measure => simp [intOf]; omega
            · obtain rfl : k = j := by omega
              have hle := rise_le hgF HN0.out
              have HBW := hide hbW
              have HC : Hid ((x : Int) ≤ 1 + (if tag = 1 then 2 else 1) * N) := hide (by omega)
              have HH := hide (rises_height tag N HN0.out (by have := H60.out; omega) HT.out wr)
              obtain ⟨M, hM⟩ : ∃ M, M = 1 + (if tag = 1 then 2 else 1) * N := ⟨_, rfl⟩
              rw [← hM] at HC HH
              clear hbs hrF hbW hgF hx hle hM
              go_wp2_with fail
              refine HH.out.mono ?_
              rintro e w9 ⟨rfl, rfl⟩
              have hd : decide ((x : Int) ≤ M) = true := decide_eq_true HC.out
              go_wp2_with fail
              go_ret
              exact ⟨rfl, HBW.out⟩

end Go.Proofs.Ytoaajblkbbfikaa
