/- The law CellExact: the walk, by contracts; conditions: the argument is read as data. -/
import Derived.Test.YtoaajblkbbfikaaCellApart
import Derived.Test.YtoaajblkbbfikaaActs
namespace Go.Proofs.Ytoaajblkbbfikaa
open Go.RowKit Go.WideShapes Go.ChangeShapes Go.Deep
set_option linter.unusedVariables false
set_option maxRecDepth 100000

theorem RV.kept {w w' : World} {B n b : Nat} {A : Option Addr} {vs : List Val} {row : Option Nat} (h : RV w B A n vs) (hk : Kept w w' b row) (hB : B ≤ w.heap.size)
    (hf : ∀ g o, A = some ⟨g, o, none⟩ → 0 < n → g ≠ b ∧ row ≠ some g) : RV w' B A n vs := by
  refine ⟨h.1, h.2.1, fun hn => ?_⟩
  obtain ⟨b', o, e, hb, hc⟩ := h.2.plain hn (by omega)
  refine ⟨⟨b', o, none⟩, e, hb, fun j u hu => ?_⟩
  rw [Go.WideShapes.add_plain]
  have := hc j u hu
  obtain ⟨f1, f2⟩ := hf b' o e hn
  exact (World.cell?_of_block (w := w) (hk.block b' (by omega) f1 (fun e' => f2 e'.symm))).trans this

theorem slice_mid {A As : Option Addr} {n c s q : Nat} (h : (if c = s then A else A.map (·.add (s * 5))) = As) (h1 : s + q ≤ c) (W : World) :
    (Instr.slice 68 (.slice A n c) (some (.int .i64 (s : Int))) (some (.int .i64 ((s : Int) + q))) none).run Try.prog W = .ok (.slice As q (c - s)) W := by
  obtain ⟨i0, hi0, hz0, hz1, hz2⟩ := info_parts valInfo
  have he : Try.prog.elem 68 = 81 := by kernel_rfl
  rw [run_slice_lh W _ A n c (by rw [he]; exact Try.underlying68) .i64 .i64 (s : Int) ((s : Int) + q) (by omega) (by omega) (by omega)]
  have e2 : ((s : Int) + q).toNat = s + q := by omega
  simp only [sizeOf, typeInfo, he, Int.toNat_natCast, e2]
  simp [hi0, hz1, sliced, h]

theorem Reads.take_ {w : World} {B size n q : Nat} {A : Option Addr} {xs : List Value} (h : Reads w B size A n xs) (hq : q ≤ n) : Reads w B size A q (xs.take (q * size)) := by
  refine ⟨?_, fun h0 => ?_⟩
  · rw [List.length_take, h.1]; exact Nat.min_eq_left (Nat.mul_le_mul_right _ hq)
  · obtain ⟨ad, e, hb, hc⟩ := h.2 (by omega)
    refine ⟨ad, e, hb, fun j u hu => hc j u ?_⟩
    rw [List.getElem?_take] at hu
    split at hu
    · exact hu
    · cases hu

theorem RV.sub {w : World} {B n c s q : Nat} {A : Option Addr} {vs : List Val} (h : RV w B A n vs) (hs : s + q ≤ n) (hc : n ≤ c) :
    RV w B (if c = s then A else A.map (·.add (s * 5))) q ((vs.drop s).take q) := by
  refine ⟨by rw [List.length_take, List.length_drop, h.1]; omega, ?_⟩
  rw [← cellsV_take, ← cellsV_drop]
  exact (h.2.cut (k := s) (cap := c) (by omega) hc).take_ (by omega)

theorem only_drew {a w : World} {row : Option Nat} (h : a.grownBy w row) : a.grownBy w.drew row := ⟨h.os, h.tape, h.output, h.size, h.block⟩

/-- A scalar put in the place of the element p of a row. -/
def put5 (w : World) (g p : Nat) (x : Val) : World :=
  ((((w.setCell ⟨g, p * 5, none⟩ (.int .i64 x.k)).setCell ⟨g, p * 5 + 1, none⟩ (.int .i64 x.n)).setCell ⟨g, p * 5 + 2, none⟩ (.int .i64 x.m)).setCell ⟨g, p * 5 + 3, none⟩ (.int .i64 x.c)).setCell ⟨g, p * 5 + 4, none⟩ (.string x.s)

theorem put5_grown {a w : World} {g : Nat} (h : a.grownBy w (some g)) (p : Nat) (x : Val) : a.grownBy (put5 w g p x) (some g) := by
  unfold put5
  have h0 := only_setCell (p := ⟨g, p * 5, none⟩) h (.inl rfl) (.int .i64 x.k)
  have h1 := only_setCell (p := ⟨g, p * 5 + 1, none⟩) h0 (.inl rfl) (.int .i64 x.n)
  have h2 := only_setCell (p := ⟨g, p * 5 + 2, none⟩) h1 (.inl rfl) (.int .i64 x.m)
  have h3 := only_setCell (p := ⟨g, p * 5 + 3, none⟩) h2 (.inl rfl) (.int .i64 x.c)
  exact only_setCell (p := ⟨g, p * 5 + 4, none⟩) h3 (.inl rfl) (.string x.s)

theorem cellsV_set (vs : List Val) (p : Nat) (x : Val) (hp : p < vs.length) :
    ((((((cellsV vs).set (p * 5) (.int .i64 x.k)).set (p * 5 + 1) (.int .i64 x.n)).set (p * 5 + 2) (.int .i64 x.m)).set (p * 5 + 3) (.int .i64 x.c)).set (p * 5 + 4) (.string x.s)) = cellsV (vs.set p x) := by
  induction vs generalizing p with
  | nil => simp at hp
  | cons y vs ih =>
    cases p with
    | zero => rw [cellsV_cons]; simp [Val.cells, cellsV]
    | succ p =>
      rw [cellsV_cons, List.set_cons_succ, cellsV_cons, ← ih p (by simpa using hp)]
      have e0 : (p + 1) * 5 = p * 5 + 1 + 1 + 1 + 1 + 1 := by omega
      simp only [e0, Val.cells, List.cons_append, List.nil_append, List.set_cons_succ]

theorem put5_own {w : World} {B g cap n : Nat} {vs : List Val} (h : w.ownsRow B 81 5 (.slice (some ⟨g, 0, none⟩) n cap) n (cellsV vs)) (p : Nat) (x : Val) (hp : p < vs.length) :
    (put5 w g p x).ownsRow B 81 5 (.slice (some ⟨g, 0, none⟩) n cap) n (cellsV (vs.set p x)) := by
  have h1 := (h.stored (p * 5) (.int .i64 x.k)).1
  have h2 := (h1.stored (p * 5 + 1) (.int .i64 x.n)).1
  have h3 := (h2.stored (p * 5 + 2) (.int .i64 x.m)).1
  have h4 := (h3.stored (p * 5 + 3) (.int .i64 x.c)).1
  have h5 := (h4.stored (p * 5 + 4) (.string x.s)).1
  rw [cellsV_set vs p x hp] at h5
  exact h5

theorem set_mid {α : Type} (F ls : List α) (s t : Nat) (x : α) (hx : ls[t]? = some x) (h : s + t < F.length) :
    (F.take s ++ ls.take t ++ F.drop (s + t)).set (s + t) x = F.take s ++ ls.take (t + 1) ++ F.drop (s + (t + 1)) := by
  have hl := (List.getElem?_eq_some_iff.1 hx).1
  have e := (List.getElem?_eq_some_iff.1 hx).2
  have h1 : (F.take s ++ ls.take t).length = s + t := by rw [List.length_append, List.length_take, List.length_take]; omega
  rw [List.set_append_right _ _ (by omega), h1, Nat.sub_self, List.drop_eq_getElem_cons h, List.set_cons_zero, List.take_succ_eq_append_getElem hl, e]
  simp [List.append_assoc, Nat.add_assoc]

/-- The loop that puts a list in the place of a part: t of its elements are there. -/
def SetRel (w6 : World) (B : Nat) (v6 : Value) (F ls : List Val) (s m : Nat) (j : Value) (wr : World) : Prop :=
  ∃ t : Nat, t ≤ m ∧ j = .int .i64 t ∧ wr.ownsRow B 81 5 v6 F.length (cellsV (F.take s ++ ls.take t ++ F.drop (s + t))) ∧ w6.grownBy wr v6.ownBlock

/-- The loop over the acts: F is what the memory holds; u is the document's own row of it. -/
def ExactRel (w : World) (b n : Nat) (u i : Value) (wr : World) : Prop :=
  ∃ (k : Nat) (F : List Val) (v : Value) (Au : Option Addr) (cu : Nat), k ≤ n ∧ k ≤ 60 ∧ i = .int .i64 k ∧ u = .slice Au F.length cu ∧ F.length ≤ 20 * k ∧ F.length ≤ cu ∧ Mem wr w.heap.size b v F.length (cellsV F) ∧
    RV wr wr.heap.size Au F.length F ∧ (∀ g o, Au = some ⟨g, o, none⟩ → 0 < F.length → g ≠ b ∧ v.ownBlock ≠ some g) ∧ Below w.heap.size w wr

theorem get_all (B b : Nat) (v : Value) (F : List Val) (w : World) (h : Mem w B b v F.length (cellsV F)) (hn : F.length ≤ 65536) :
    Calls Try.prog 35 #[.pointer (some ⟨b, 0, none⟩), .int .i64 1, .int .i64 F.length] w fun e w' =>
      ∃ v', e = .returned (.tuple #[v', .int .i64 0]) ∧ w'.ownsRow w.heap.size 81 5 v' F.length (cellsV F) ∧ Below w.heap.size w w' := by
  have H := get_at B b 0 F.length v F F w h (by omega) hn (by simp)
  simpa using H

set_option maxHeartbeats 4000000 in
theorem exact_walk (n c : Nat) (A : Option Addr) (acts : List ActV) (w : World) (hR : AR w w.heap.size A n acts) (hn : n ≤ 9223372036854775807) :
    Calls Try.prog 7 #[.slice A n c] w fun e w' => e = .returned (.bool true) ∧ Below w.heap.size w w' := by
  obtain ⟨i0, hi0, hz0, hz1, hz2⟩ := info_parts valInfo
  go_enter Try.func7, Try.ntmps7
  go_wp2_with fail
  refine (cell_awake _).mono ?_
  rintro e w1 ⟨rfl, hb1⟩
  have HB1 := hide hb1
  have hs1 := hb1.size
  clear hb1
  go_wp2_with fail
  refine (new_ok w.heap.size w1 hs1).mono ?_
  rintro e w2 ⟨rfl, hM2, hb2⟩
  have HM2 := hide hM2
  have hs2 := hM2.1.lt
  have HB2 : Hid (Below w.heap.size w w2) := hide (HB1.out.trans (hb2.mono hs1))
  clear hM2 hb2
  go_wp2_with fail
  go_loopw [4, 5] (fun u i wr => ExactRel w w1.heap.size n u i wr) (fun _ i _ => 60 - (intOf i).toNat)
  case atStart =>
    exact ⟨0, [], .slice none 0 0, _, 0, by omega, by omega, rfl, rfl, by simp, by simp, HM2.out.alloc _, ⟨rfl, Reads.none_⟩, fun g o _ h => absurd h (by simp), HB2.out.alloc (by omega) _⟩
  case round =>
    obtain ⟨k, F, v, Au, cu, hk, hk60, rfl, rfl, hF, hFc, hM, hU, hfar, hB⟩ := hrel
    by_cases hlt : k < n ∧ k < 60
    · obtain ⟨hlt, hlt6⟩ := hlt
      obtain ⟨rb, ro, a, rfl, hrb, ha, c0, c1, c2, c3, i1, i2, i3, hL, hls, hm1, hm2⟩ := (hR.below hB).2 k hlt
      obtain ⟨k0, at0, n0, A0, m0, d0, ls⟩ := a
      simp only at c0 c1 c2 c3 i1 i2 i3 hL hls hm1 hm2
      have hm1' : m0 ≤ 9223372036854775807 := by unfold maxLen at hm1; omega
      have hws := hB.size
      have hblt := hM.1.lt
      have HL := hide hL
      have HM := hide hM
      have HU := hide hU
      have HF := hide hfar
      have HB := hide hB
      have HI := hide (And.intro i1 (And.intro i2 i3))
      clear ha hL hM hU hfar hB i1 i2 i3 hm1
      go_wp2_with fail
      refine (great_any w.heap.size m0 d0 k0 at0 n0 A0 ls _ (HL.out.alloc hws _) (by simp; omega) hls hm1').mono ?_
      rintro e w4 ⟨g, rfl, hg, hb4⟩
      have HG := hide hg
      have HB4 := hide hb4
      have hs4 : wr.heap.size + 1 ≤ w4.heap.size := by have := hb4.size; simpa using this
      clear hg hb4 c0 c1 c2 c3
      cases g with
      | true =>
        go_wp2_with fail
        go_ret
        exact ⟨rfl, (HB.out.alloc hws _).trans (HB4.out.mono (by simp; omega))⟩
      | false =>
        have hm20 : m0 ≤ 20 := HG.out rfl
        have hbx : Blk w4 wr.heap.size 70 #[.int .i64 k0, .int .i64 at0, .int .i64 n0, .slice A0 m0 d0] := (Blk.new wr _ _).below HB4.out (by simp)
        have HBX := hide hbx
        have b0 := hbx.cell 0
        have b1 := hbx.cell 1
        have b2 := hbx.cell 2
        have b3 := hbx.cell 3
        simp at b0 b1 b2 b3
        have HM4 : Hid (Mem w4 w.heap.size w1.heap.size v F.length (cellsV F)) := hide ((HM.out.alloc _).below HB4.out)
        have HU4 : Hid (RV w4 w4.heap.size Au F.length F) := hide (((HU.out.alloc (Nat.le_refl _) _).below (HB4.out.mono (by simp))).more (by omega))
        have HBw : Hid (Below w.heap.size w w4) := hide ((HB.out.alloc hws _).trans (HB4.out.mono (by simp; omega)))
        have HL4 : Hid (RV w4 w.heap.size A0 m0 ls) := hide ((HL.out.alloc hws _).below (HB4.out.mono (by simp; omega)))
        have hvlt : ∀ g, v.ownBlock = some g → g < wr.heap.size := fun g h => (HM.out.2.2.lt g h).2
        clear hbx HG HB4 HU HL HM
        have HVL := hide hvlt
        clear hvlt
        by_cases hk1 : k0 = 1
        · subst hk1
          go_wp2_with fail
          refine (make_ok w.heap.size w1.heap.size F.length m0 d0 v _ _ A0 w4 HM4.out (HL4.out.2.more (by omega)) (cellsV_one _) (by omega) (by omega)).mono ?_
          rintro e w5 ⟨v5, rfl, hM5, hk5, hat5⟩
          rw [← cellsV_append] at hM5
          have hbx5 := HBX.out.kept_ hk5 (by omega) (fun e => own_blk_ne HM4.out.2.2 HBX.out (by decide) e.symm)
          have hs5 := hk5.size
          have hb5 : Below w.heap.size w4 w5 := hk5.below (by omega) (by omega) (fun g hg => (HM4.out.2.2.lt g hg).1)
          have HU5 : Hid (RV w5 w5.heap.size Au F.length F) := hide ((HU4.out.kept hk5 (Nat.le_refl _) (fun g o h h0 => HF.out g o h h0)).more hs5)
          have HL5 : Hid (RV w5 w5.heap.size A0 m0 ls) := hide ((HL4.out.below hb5).more (by omega))
          have HB5 : Hid (Below w.heap.size w w5) := hide (HBw.out.trans hb5)
          have HM5 := hide hM5
          clear b0 b1 b2 b3 hM5 hk5 hat5 hb5
          have b3 := hbx5.cell 3
          simp at b3
          clear hbx5
          go_wp2_with fail
          refine (refmake_ok F.length cu m0 d0 Au A0 F ls w5 HU5.out HL5.out (by omega) (by omega)).mono ?_
          rintro e w6 ⟨v6, rfl, hown6, hb6⟩
          obtain ⟨G, hG⟩ : ∃ G, G = F ++ ls := ⟨_, rfl⟩
          have hlen : F.length + m0 = G.length := by rw [hG, List.length_append, HL4.out.1]
          rw [hlen, ← hG] at hown6
          have HM6 : Hid (Mem w6 w.heap.size w1.heap.size v5 G.length (cellsV G)) := hide (by have h := HM5.out; rw [hlen, ← hG] at h; exact h.below hb6)
          have hcap : ∃ A6 c6, v6 = .slice A6 G.length c6 ∧ G.length ≤ c6 := by
            rcases row_form hown6 with ⟨rfl, h0, _⟩ | ⟨g, cap, rfl, h0, _⟩
            · exact ⟨_, _, by rw [h0], by omega⟩
            · exact ⟨_, _, rfl, h0⟩
          obtain ⟨A6, c6, rfl, hc6⟩ := hcap
          have HU6 : Hid (RV w6 w6.heap.size A6 G.length G) := hide ⟨rfl, Reads.of_own hown6⟩
          have HF6 : Hid (∀ g o, A6 = some ⟨g, o, none⟩ → 0 < G.length → g ≠ w1.heap.size ∧ v5.ownBlock ≠ some g) := hide (by
            rintro g o rfl h0
            have h1 := (hown6.lt g rfl).1
            exact ⟨by omega, fun e => by have := (HM5.out.2.2.lt g e).2; omega⟩)
          have HB6 : Hid (Below w.heap.size w w6) := hide (HB5.out.trans (hb6.mono (by omega)))
          have hb0 := HB6.out.size
          clear hown6 hb6 hG b3
          go_wp2_with fail
          refine (get_all w.heap.size w1.heap.size v5 G w6 HM6.out (by omega)).mono ?_
          rintro e w7 ⟨v7, rfl, hown7, hb7⟩
          obtain ⟨A7, c7, rfl⟩ := own_form hown7
          have HM7 := hide (HM6.out.below hb7)
          have HU7 : Hid (RV w7 w7.heap.size A6 G.length G) := hide ((HU6.out.below hb7).more hb7.size)
          have HR7 : Hid (RV w7 w7.heap.size A7 G.length G) := hide ⟨rfl, Reads.of_own hown7⟩
          have HB7 : Hid (Below w.heap.size w w7) := hide (HB6.out.trans (hb7.mono (by have := HB6.out.size; omega)))
          clear hown7 hb7
          go_wp2_with fail
          refine (len_any _ _ _ _ _ _ HM7.out).mono ?_
          rintro e w8 ⟨rfl, rfl⟩
          go_wp2_with fail
          refine (same_ok _ G.length c7 _ c6 A7 A6 G w7 HR7.out HU7.out (by omega)).mono ?_
          rintro e w9 ⟨rfl, q9, rfl⟩
          go_wp2_with fail
          go_roundw
          case rel => exact ⟨k + 1, G, v5, A6, c6, by omega, by omega, by go_num, rfl, by omega, by omega, HM7.out.drewN _, HU7.out.drewN _, HF6.out, below_drewN HB7.out _⟩
          case measure => simp [intOf]; omega
        · by_cases hk2 : k0 = 2
          · subst hk2
            obtain ⟨Av, cv, hvf⟩ : ∃ Av cv, v = .slice Av F.length cv := own_form HM4.out.2.2
            by_cases hH : HasV F.length at0 n0
            · obtain ⟨h1, h2, h3, h4⟩ := id hH
              obtain ⟨s, rfl⟩ : ∃ s : Nat, at0 = 1 + (s : Int) := ⟨(at0 - 1).toNat, by omega⟩
              obtain ⟨q, rfl⟩ : ∃ q : Nat, n0 = (q : Int) := ⟨n0.toNat, by omega⟩
              have hsq : s + q ≤ F.length := by omega
              obtain ⟨us, hus⟩ : ∃ us, (F.drop s).take q = us := ⟨_, rfl⟩
              by_cases hcs : cu = s
              · subst hcs
                have HS4 : Hid (RV w4 w4.heap.size Au q us) := hide (by have h := HU4.out.sub (s := cu) (q := q) (c := cu) hsq hFc; rw [if_pos rfl, hus] at h; exact h)
                have HUS := hide hus
                have HH := hide hH
                clear hus hH h1 h2 h3 h4
                go_wp2_with fail
                refine (get_at w.heap.size w1.heap.size cu q v F us w4 HM4.out hsq (by omega) HUS.out).mono ?_
                rintro e w5 ⟨v5, rfl, hown5, hb5⟩
                obtain ⟨A5, c5, rfl⟩ := own_form hown5
                have hbx5 := HBX.out.below hb5 HBX.out.lt
                have HR5 : Hid (RV w5 w5.heap.size A5 q us) := hide ⟨by rw [← HS4.out.1], Reads.of_own hown5⟩
                have HS5 : Hid (RV w5 w5.heap.size Au q us) := hide ((HS4.out.below hb5).more hb5.size)
                have HM5 := hide (HM4.out.below hb5)
                have HU5 : Hid (RV w5 w5.heap.size Au F.length F) := hide ((HU4.out.below hb5).more hb5.size)
                have HB5 : Hid (Below w.heap.size w w5) := hide (HBw.out.trans (hb5.mono (by omega)))
                have hs5 := hb5.size
                clear b0 b1 b2 b3 hown5 hb5
                have b1 := hbx5.cell 1
                have b2 := hbx5.cell 2
                simp at b1 b2
                clear hbx5
                go_wp2_with fail
                refine (has_yes F.length cu _ _ Au w5 HH.out (by omega)).mono ?_
                rintro e w6 ⟨rfl, rfl⟩
                go_wp2_with fail
                refine (same_ok _ q c5 _ _ A5 _ us w5 HR5.out HS5.out (by omega)).mono ?_
                rintro e w7' ⟨rfl, q7, rfl⟩
                have HM5' := hide (HM5.out.drewN q7)
                have HU5' := hide (HU5.out.drewN q7)
                have HB5' : Hid (Below w.heap.size w (w5.drewN q7)) := hide (below_drewN HB5.out q7)
                have hFl : F.length ≤ 20 * (k + 1) := by omega
                clear b1 b2
                go_wp2_with fail
                refine (get_all w.heap.size w1.heap.size v F (w5.drewN q7) HM5'.out (by omega)).mono ?_
                rintro e w7 ⟨v7, rfl, hown7, hb7⟩
                obtain ⟨A7, c7, rfl⟩ := own_form hown7
                have HM7 := hide (HM5'.out.below hb7)
                have HU7 : Hid (RV w7 w7.heap.size Au F.length F) := hide ((HU5'.out.below hb7).more hb7.size)
                have HR7 : Hid (RV w7 w7.heap.size A7 F.length F) := hide ⟨rfl, Reads.of_own hown7⟩
                have HB7 : Hid (Below w.heap.size w w7) := hide (HB5'.out.trans (hb7.mono (by have := HB5'.out.size; omega)))
                clear hown7 hb7
                go_wp2_with fail
                refine (len_any _ _ _ _ _ _ HM7.out).mono ?_
                rintro e w8 ⟨rfl, rfl⟩
                go_wp2_with fail
                refine (same_ok _ F.length c7 _ cu A7 Au F w7 HR7.out HU7.out (by omega)).mono ?_
                rintro e w9 ⟨rfl, q9, rfl⟩
                go_wp2_with fail
                go_roundw
                case rel => exact ⟨k + 1, F, v, Au, cu, by omega, by omega, by go_num, rfl, by omega, by omega, HM7.out.drewN _, HU7.out.drewN _, HF.out, below_drewN HB7.out _⟩
                case measure => simp [intOf]; omega
              · have HS4 : Hid (RV w4 w4.heap.size (Au.map (·.add (s * 5))) q us) := hide (by have h := HU4.out.sub (s := s) (q := q) (c := cu) hsq hFc; rw [if_neg hcs, hus] at h; exact h)
                have HUS := hide hus
                have HH := hide hH
                clear hus hH h1 h2 h3 h4
                go_wp2_with fail
                refine (get_at w.heap.size w1.heap.size s q v F us w4 HM4.out hsq (by omega) HUS.out).mono ?_
                rintro e w5 ⟨v5, rfl, hown5, hb5⟩
                obtain ⟨A5, c5, rfl⟩ := own_form hown5
                have hbx5 := HBX.out.below hb5 HBX.out.lt
                have HR5 : Hid (RV w5 w5.heap.size A5 q us) := hide ⟨by rw [← HS4.out.1], Reads.of_own hown5⟩
                have HS5 : Hid (RV w5 w5.heap.size (Au.map (·.add (s * 5))) q us) := hide ((HS4.out.below hb5).more hb5.size)
                have HM5 := hide (HM4.out.below hb5)
                have HU5 : Hid (RV w5 w5.heap.size Au F.length F) := hide ((HU4.out.below hb5).more hb5.size)
                have HB5 : Hid (Below w.heap.size w w5) := hide (HBw.out.trans (hb5.mono (by omega)))
                have hs5 := hb5.size
                clear b0 b1 b2 b3 hown5 hb5
                have b1 := hbx5.cell 1
                have b2 := hbx5.cell 2
                simp at b1 b2
                clear hbx5
                go_wp2_with fail
                refine (has_yes F.length cu _ _ Au w5 HH.out (by omega)).mono ?_
                rintro e w6 ⟨rfl, rfl⟩
                go_wp2_with fail
                refine (same_ok _ q c5 _ _ A5 _ us w5 HR5.out HS5.out (by omega)).mono ?_
                rintro e w7' ⟨rfl, q7, rfl⟩
                have HM5' := hide (HM5.out.drewN q7)
                have HU5' := hide (HU5.out.drewN q7)
                have HB5' : Hid (Below w.heap.size w (w5.drewN q7)) := hide (below_drewN HB5.out q7)
                have hFl : F.length ≤ 20 * (k + 1) := by omega
                clear b1 b2
                go_wp2_with fail
                refine (get_all w.heap.size w1.heap.size v F (w5.drewN q7) HM5'.out (by omega)).mono ?_
                rintro e w7 ⟨v7, rfl, hown7, hb7⟩
                obtain ⟨A7, c7, rfl⟩ := own_form hown7
                have HM7 := hide (HM5'.out.below hb7)
                have HU7 : Hid (RV w7 w7.heap.size Au F.length F) := hide ((HU5'.out.below hb7).more hb7.size)
                have HR7 : Hid (RV w7 w7.heap.size A7 F.length F) := hide ⟨rfl, Reads.of_own hown7⟩
                have HB7 : Hid (Below w.heap.size w w7) := hide (HB5'.out.trans (hb7.mono (by have := HB5'.out.size; omega)))
                clear hown7 hb7
                go_wp2_with fail
                refine (len_any _ _ _ _ _ _ HM7.out).mono ?_
                rintro e w8 ⟨rfl, rfl⟩
                go_wp2_with fail
                refine (same_ok _ F.length c7 _ cu A7 Au F w7 HR7.out HU7.out (by omega)).mono ?_
                rintro e w9 ⟨rfl, q9, rfl⟩
                go_wp2_with fail
                go_roundw
                case rel => exact ⟨k + 1, F, v, Au, cu, by omega, by omega, by go_num, rfl, by omega, by omega, HM7.out.drewN _, HU7.out.drewN _, HF.out, below_drewN HB7.out _⟩
                case measure => simp [intOf]; omega
            · have HH := hide hH
              clear hH
              go_wp2_with fail
              refine (get_arg w1.heap.size F.length at0 n0 _ _ w4 (by have h := HM4.out.1.cell 0; rw [hvf] at h; exact h) HH.out HI.out.2.1 HI.out.2.2 (by omega)).mono ?_
              rintro e w5 ⟨rfl, rfl⟩
              go_wp2_with fail
              refine (has_no F.length cu _ _ Au w4 HH.out HI.out.2.1 HI.out.2.2 (by omega)).mono ?_
              rintro e w5 ⟨rfl, rfl⟩
              go_wp2_with fail
              go_roundw
              case rel => exact ⟨k + 1, F, v, Au, cu, by omega, by omega, by go_num, rfl, by omega, by omega, HM4.out, HU4.out, HF.out, HBw.out⟩
              case measure => simp [intOf]; omega
          · have q1 : (k0 == 1) = false := beq_eq_false_iff_ne.2 hk1
            have q2 : (k0 == 2) = false := beq_eq_false_iff_ne.2 hk2
            by_cases hH : HasV F.length at0 m0
            · obtain ⟨h1, h2, h3, h4⟩ := id hH
              obtain ⟨s, rfl⟩ : ∃ s : Nat, at0 = 1 + (s : Int) := ⟨(at0 - 1).toNat, by omega⟩
              have hsq : s + m0 ≤ F.length := by omega
              have HH := hide hH
              clear hH h1 h2 h3 h4
              go_wp2_with fail
              refine (set_at w.heap.size w1.heap.size 0 s m0 d0 v F ls A0 w4 HM4.out (HL4.out.more (by omega)) hsq (by omega)).mono ?_
              rintro e w5 ⟨rfl, hM5, hk5⟩
              have hbx5 := HBX.out.kept_ hk5 (by omega) (fun e => own_blk_ne HM4.out.2.2 HBX.out (by decide) e.symm)
              have hs5 := hk5.size
              have hb5 : Below w.heap.size w4 w5 := hk5.below (by omega) (by omega) (fun g hg => (HM4.out.2.2.lt g hg).1)
              have HU5 : Hid (RV w5 w5.heap.size Au F.length F) := hide ((HU4.out.kept hk5 (Nat.le_refl _) (fun g o h h0 => HF.out g o h h0)).more hs5)
              have HL5 : Hid (RV w5 w.heap.size A0 m0 ls) := hide (HL4.out.below hb5)
              have HB5 : Hid (Below w.heap.size w w5) := hide (HBw.out.trans hb5)
              have HM5 := hide hM5
              have HBX5 := hide hbx5
              clear b0 b1 b2 b3 hM5 hk5 hb5
              have b1 := hbx5.cell 1
              have b3 := hbx5.cell 3
              simp at b1 b3
              clear hbx5
              go_wp2_with fail
              refine (has_yes F.length cu _ _ Au w5 HH.out (by omega)).mono ?_
              rintro e w6 ⟨rfl, rfl⟩
              have HUA := hide (HU5.out.2.alloc (Nat.le_refl _) (.cells #[] 81))
              go_wp2_with (first
                | (at_builtin
                   refine wpList_append_any _ rfl (.tmp 59) (.tmp 60) _ rfl w5.heap.size 81 i0 _ 5 48 Try.underlying68 hi0 hz0 hz1 hz2 rfl (by omega) (.slice (some ⟨w5.heap.size, 0, none⟩) 0 0) 0 [] rfl
                     (World.ownsRow_made w5 #[] 0 (Nat.le_refl _) (by simp [maxLen]) (by simp)) w5.heap.size Au F.length cu (cellsV F) rfl HUA.out (cellsV_one _) (by simp only [maxLen]; omega) (by omega) (by simp) ?_
                   intro v6 w6 hown6 hg6 hat6
                   have hb6 : Below w5.heap.size w5 w6 := ((Below.refl _ _).alloc (Nat.le_refl _) _).grown hg6 (by simp) (by simp [Value.ownBlock])
                   simp only [Nat.zero_add, List.nil_append] at hown6))
              obtain ⟨A6, c6, rfl, hc6⟩ : ∃ A6 c6, v6 = .slice A6 F.length c6 ∧ F.length ≤ c6 := by
                rcases row_form hown6 with ⟨rfl, h0, _⟩ | ⟨g, cap, rfl, h0, _⟩
                · exact ⟨_, _, by rw [h0], by omega⟩
                · exact ⟨_, _, rfl, h0⟩
              have HO6 := hide hown6
              have HB6 := hide hb6
              have hs6 := hb6.size
              have HBX6 := hide (HBX5.out.below hb6 HBX5.out.lt)
              have HL6 : Hid (RV w6 w.heap.size A0 m0 ls) := hide (HL5.out.below (hb6.mono (by omega)))
              have hbxl := HBX5.out.lt
              clear hown6 hb6 hg6 hat6 b1 b3
              obtain ⟨wo, rfl⟩ : ∃ wo : World, wo = wr := ⟨_, rfl⟩
              go_loopw [16] (fun j wr => SetRel w6 w5.heap.size (.slice A6 F.length c6) F ls s m0 j wr) (fun j _ => m0 - (intOf j).toNat)
              case atStart => exact ⟨0, by omega, rfl, by simpa using HO6.out, World.grownBy.refl _ _⟩
              case round =>
                obtain ⟨t, ht, rfl, hown, hgr⟩ := hrel
                by_cases htm : t < m0
                · obtain ⟨g6, cap6, he6, _, _⟩ := row_one hown 0 (by omega)
                  obtain ⟨rfl, rfl⟩ : A6 = some ⟨g6, 0, none⟩ ∧ c6 = cap6 := by simpa using he6
                  have hg6 : w5.heap.size ≤ g6 := (hown.lt g6 rfl).1
                  have hbw := HBX6.out.grown (row := some g6) hgr (fun e => by injection e with e; omega)
                  have b1 := hbw.cell 1
                  have b3 := hbw.cell 3
                  simp at b1 b3
                  have hLr : RV wr w.heap.size A0 m0 ls := HL6.out.only (g := g6) hgr (fun g' o h h0 => by
                    obtain ⟨g'', o'', h9, h10, _⟩ := HL6.out.2.plain h0 (by omega)
                    rw [h] at h9
                    injection h9 with h9
                    injection h9 with h11 _
                    omega)
                  obtain ⟨lb, lo, x, rfl, hx, x0, x1, x2, x3, x4⟩ := hLr.five htm
                  have hGl : (F.take s ++ ls.take t ++ F.drop (s + t)).length = F.length := by have h := hown.1; rw [length_cellsV] at h; omega
                  obtain ⟨z, hz⟩ : ∃ z, (F.take s ++ ls.take t ++ F.drop (s + t))[s + t]? = some z := ⟨_, List.getElem?_eq_getElem (by omega)⟩
                  have y0 : wr.cell? ⟨g6, (s + t) * 5, none⟩ = some (.int .i64 z.k) := (hown.cellAt _ (by omega)).trans (cellsV_at _ (s + t) z hz 0 _ rfl)
                  have y1 : wr.cell? ⟨g6, (s + t) * 5 + 1, none⟩ = some (.int .i64 z.n) := (hown.cellAt _ (by omega)).trans (cellsV_at _ (s + t) z hz 1 _ rfl)
                  have y2 : wr.cell? ⟨g6, (s + t) * 5 + 2, none⟩ = some (.int .i64 z.m) := (hown.cellAt _ (by omega)).trans (cellsV_at _ (s + t) z hz 2 _ rfl)
                  have y3 : wr.cell? ⟨g6, (s + t) * 5 + 3, none⟩ = some (.int .i64 z.c) := (hown.cellAt _ (by omega)).trans (cellsV_at _ (s + t) z hz 3 _ rfl)
                  have y4 : wr.cell? ⟨g6, (s + t) * 5 + 4, none⟩ = some (.string z.s) := (hown.cellAt _ (by omega)).trans (cellsV_at _ (s + t) z hz 4 _ rfl)
                  have f0 := hown.frozenAt ((s + t) * 5)
                  have f1 := hown.frozenAt ((s + t) * 5 + 1)
                  have f2 := hown.frozenAt ((s + t) * 5 + 2)
                  have f3 := hown.frozenAt ((s + t) * 5 + 3)
                  have f4 := hown.frozenAt ((s + t) * 5 + 4)
                  have e1 : IntKind.i64.wrap (1 + (s : Int) - 1) = s := by rw [IntWalk.i64_in _ (by omega)]; omega
                  have e2 : IntKind.i64.wrap ((s : Int) + t) = (s : Int) + t := IntWalk.i64_in _ (by omega)
                  have e3 : ((s : Int) + t).toNat = s + t := by omega
                  have e4 : 0 ≤ (s : Int) + t := by omega
                  have e5 : (s : Int) + t < F.length := by omega
                  have HOW := hide hown
                  have HGR := hide hgr
                  have HXX := hide (And.intro hx hGl)
                  clear hown hgr hz hx hGl hLr hbw he6
                  go_wp2_with fail
                  go_still_tail 12, (by kernel_rfl)
                  go_wp2_with fail
                  go_roundw
                  case rel => exact ⟨t + 1, by omega, by go_num, by rw [← set_mid F ls s t x HXX.out.1 (by omega)]; exact put5_own HOW.out (s + t) x (by rw [HXX.out.2]; omega), only_drew (put5_grown HGR.out _ _)⟩
                  case measure => simp [intOf]; omega
                · obtain rfl : t = m0 := by omega
                  have hbw := HBX6.out.grown hgr (fun e => by have := (hown.lt _ e.symm).1; omega)
                  have b3 := hbw.cell 3
                  simp at b3
                  clear hbw
                  have hBr : Below w5.heap.size w5 wr := HB6.out.grown hgr hs6 (fun g hg => (hown.lt g hg).1)
                  obtain ⟨G, hG⟩ : ∃ G, G = F.take s ++ ls ++ F.drop (s + ls.length) := ⟨_, rfl⟩
                  have hll : ls.length = t := HL6.out.1
                  have e0 : F.take s ++ ls.take t ++ F.drop (s + t) = G := by rw [hG, hll, List.take_of_length_le (l := ls) (by omega)]
                  rw [e0] at hown
                  have hlen : F.length = G.length := by have h := hown.1; rw [length_cellsV] at h; omega
                  have HMr : Hid (Mem wr w.heap.size w1.heap.size v G.length (cellsV G)) := hide (by have h := HM5.out.below hBr; rw [← hG, hlen] at h; exact h)
                  have HUr : Hid (RV wr wr.heap.size A6 G.length G) := hide ⟨rfl, by have h := Reads.of_own hown; rw [hlen] at h; exact h⟩
                  have HFr : Hid (∀ g o, A6 = some ⟨g, o, none⟩ → 0 < G.length → g ≠ w1.heap.size ∧ v.ownBlock ≠ some g) := hide (by
                    rintro g o rfl h0
                    have h1 := (hown.lt g rfl).1
                    exact ⟨by omega, fun e => by have := (HM5.out.2.2.lt g e).2; omega⟩)
                  have HBr : Hid (Below w.heap.size w wr) := hide (HB5.out.trans (hBr.mono (by omega)))
                  have hgl : G.length ≤ 20 * (k + 1) := by omega
                  have hgl2 : G.length ≤ 1200 := by omega
                  have hgc : G.length ≤ c6 := by omega
                  have hb0 := HBr.out.size
                  rw [hlen]
                  clear hown hgr hBr hG e0 hll hlen hc6 hsq hF hFc
                  go_wp2_with fail
                  refine (get_all w.heap.size w1.heap.size v G wr HMr.out (by omega)).mono ?_
                  rintro e w7 ⟨v7, rfl, hown7, hb7⟩
                  obtain ⟨A7, c7, rfl⟩ := own_form hown7
                  have HM7 := hide (HMr.out.below hb7)
                  have HU7 : Hid (RV w7 w7.heap.size A6 G.length G) := hide ((HUr.out.below hb7).more hb7.size)
                  have HR7 : Hid (RV w7 w7.heap.size A7 G.length G) := hide ⟨rfl, Reads.of_own hown7⟩
                  have HB7 : Hid (Below w.heap.size w w7) := hide (HBr.out.trans (hb7.mono (by have := HBr.out.size; omega)))
                  clear hown7 hb7
                  go_wp2_with fail
                  refine (len_any _ _ _ _ _ _ HM7.out).mono ?_
                  rintro e w8 ⟨rfl, rfl⟩
                  go_wp2_with fail
                  refine (same_ok _ G.length c7 _ c6 A7 A6 G w7 HR7.out HU7.out (by omega)).mono ?_
                  rintro e w9 ⟨rfl, q9, rfl⟩
                  go_wp2_with fail
                  go_roundw
                  case rel => exact ⟨k + 1, G, v, A6, c6, by omega, by omega, by go_num, rfl, by omega, by omega, HM7.out.drewN _, HU7.out.drewN _, HFr.out, below_drewN HB7.out _⟩
                  case measure => simp [intOf]; omega
            · have HH := hide hH
              clear hH
              obtain ⟨Av, cv, hvf⟩ : ∃ Av cv, v = .slice Av F.length cv := own_form HM4.out.2.2
              have HVF := hide hvf
              clear hvf
              go_wp2_with fail
              refine (set_arg w1.heap.size F.length m0 d0 at0 _ A0 _ w4 (by have h := HM4.out.1.cell 0; rw [HVF.out] at h; exact h) HH.out HI.out.2.1 (by omega) (by omega)).mono ?_
              rintro e w5 ⟨rfl, rfl⟩
              go_wp2_with fail
              refine (has_no F.length cu _ _ Au w4 HH.out HI.out.2.1 ⟨by omega, by omega⟩ (by omega)).mono ?_
              rintro e w5 ⟨rfl, rfl⟩
              go_wp2_with fail
              go_roundw
              case rel => exact ⟨k + 1, F, v, Au, cu, by omega, by omega, by go_num, rfl, by omega, by omega, HM4.out, HU4.out, HF.out, HBw.out⟩
              case measure => simp [intOf]; omega
    · by_cases h6 : k < n
      · have h60 : k = 60 := by omega
        go_wp2_with fail
        go_ret
        exact ⟨rfl, hB⟩
      · go_wp2_with fail
        go_ret
        exact ⟨rfl, hB⟩

end Go.Proofs.Ytoaajblkbbfikaa
