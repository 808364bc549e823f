/- Open and Put of package scope, with the blocks that they may write; conditions: the scopes are ones of the call's own. -/
import Derived.Test.YtllddgfmjmblmaaScA
namespace Go.Proofs.Ytllddgfmjmblmaa
open Go.RowKit Go.WideShapes Go.ChangeShapes
set_option linter.unusedVariables false
set_option maxRecDepth 100000

theorem nw_open {w : World} {b gm n : Nat} {vo vj v' : Value} (h : v'.ownBlock = vo.ownBlock ∨ v'.ownBlock = some n) (hn : w.heap.size ≤ n) : Nw w (fpS b gm vo vj) (fpS b gm v' vj) := fun k hk => by
  rcases mem_fpS.1 hk with x | x | x | x
  · exact .inl (mem_fpS.2 (.inl x))
  · exact .inl (mem_fpS.2 (.inr (.inl x)))
  · rcases h with y | y
    · exact .inl (mem_fpS.2 (.inr (.inr (.inl (y.symm.trans x)))))
    · rw [y] at x; injection x with x; exact .inr (by omega)
  · exact .inl (mem_fpS.2 (.inr (.inr (.inr x))))
theorem nw_put {w : World} {b gm n : Nat} {vo vj v' : Value} (h : v'.ownBlock = vj.ownBlock ∨ v'.ownBlock = some n) (hn : w.heap.size ≤ n) : Nw w (fpS b gm vo vj) (fpS b gm vo v') := fun k hk => by
  rcases mem_fpS.1 hk with x | x | x | x
  · exact .inl (mem_fpS.2 (.inl x))
  · exact .inl (mem_fpS.2 (.inr (.inl x)))
  · exact .inl (mem_fpS.2 (.inr (.inr (.inl x))))
  · rcases h with y | y
    · exact .inl (mem_fpS.2 (.inr (.inr (.inr (y.symm.trans x)))))
    · rw [y] at x; injection x with x; exact .inr (by omega)

section
variable {w : World} {B b gm : Nat} {vo vj : Value} {outer : List Int} {objs : List ObjV} {tbl : List ((Int × ByteArray) × Nat)}
set_option maxHeartbeats 2000000 in
theorem open_okF (h : SC w B b gm vo vj outer objs tbl) (a : Int) (ha : hasB outer.length a = true) (hn : outer.length ≤ 1000) :
    Calls Try.prog 21 #[.pointer (some ⟨b, 0, none⟩), .int .i64 a] w fun e w' => e = .returned (.tuple #[.int .i64 (outer.length + 1), .int .i64 0]) ∧
      ∃ v', SC w' B b gm v' vj (outer ++ [a]) objs tbl ∧ Below B w w' ∧ Fr (fpS b gm vo vj) w w' ∧ Nw w (fpS b gm vo vj) (fpS b gm v' vj) := by
  obtain ⟨c0, c1, c2⟩ := h.cells
  obtain ⟨A0, k0, rfl⟩ := own_form7 h.ou
  have hsc := has_scope h a
  rw [ha] at hsc
  have HSC := hide hsc
  have HH := hide h
  obtain ⟨i0, hi0, hz0, hz1, hz2⟩ := info_parts intInfo7
  have hlt := h.bl.lt
  have c0a : (w.alloc (.cells #[.int .i64 a] 3)).cell? ⟨b, 0, none⟩ = some (.slice A0 outer.length k0) := (World.cell?_alloc_lt w _ ⟨b, 0, none⟩ hlt).trans c0
  have hge : decide ((65536 : Int) ≤ (outer.length : Int)) = false := decide_eq_false (by omega)
  have HN := hide hn
  clear h hsc ha hn
  go_enter Try.func21, Try.ntmps21
  go_wp2_with fail
  refine HSC.out.mono ?_
  rintro e w' ⟨rfl, rfl⟩
  go_wp2_with (first
    | (at_builtin
       refine wpList_append_any _ rfl (.tmp 25) (.tmp 27) _ rfl B 3 i0 _ 1 8 Try.underlying30 hi0 hz0 hz1 hz2 rfl (by omega) (.slice A0 outer.length k0) outer.length (outer.map (Value.int .i64)) rfl
         (HH.out.alloc _).ou (w.heap.size + 1) (some ⟨w.heap.size, 0, none⟩) 1 1 [.int .i64 a] rfl (by have h := reads_new7 w #[.int .i64 a] 3 1 1 rfl; simpa using h) (by intro u hu; simp at hu; subst hu; rfl) (by have := HN.out; simp only [maxLen]; omega) (by have := HN.out; omega) (by have := HH.out.lt; simp; omega) ?_
       intro v1 w1 hown1 hg1 hat1
       obtain ⟨A1, k1, rfl⟩ := own_form7 hown1
       have hbl1 := (HH.out.alloc (.cells #[.int .i64 a] 3)).bl.grown hg1 (fun e => own_blk_ne (HH.out.alloc (.cells #[.int .i64 a] 3)).ou (HH.out.alloc (.cells #[.int .i64 a] 3)).bl (by decide) e.symm)
       have d0 : w1.cell? ⟨b, 0, none⟩ = some (.slice A0 outer.length k0) := hbl1.cell 0
       have f0 := hbl1.frozen 0))
  go_ret2
  obtain ⟨e1, e2⟩ := open_end (HH.out.alloc (.cells #[.int .i64 a] 3)) hg1 hown1
  exact ⟨rfl, _, e1, ((Below.refl _ _).alloc HH.out.lt _).trans e2, (((Fr.refl _ _).alloc _).grown hg1 (fun g hg => .inl (mem_fpS.2 (.inr (.inr (.inl hg)))))).setCell (.inl (mem_fpS.2 (.inl rfl))) _, nw_open hat1 (by simp)⟩

set_option maxHeartbeats 4000000 in
theorem put_okF (h : SC w B b gm vo vj outer objs tbl) (a : Int) (o : ObjV) (ha : hasB outer.length a = true) (hkd : decide (1 ≤ o.k ∧ o.k ≤ 9) = true) (hne : o.name ≠ ⟨#[]⟩) (hsz : o.name.size ≤ maxLen) (hlk : look tbl (a, o.name) = none) (hn : objs.length ≤ 1000) (hnn : outer.length ≤ 70000) :
    Calls Try.prog 20 #[.pointer (some ⟨b, 0, none⟩), .int .i64 a, o.val] w fun e w' => e = .returned (.tuple #[.int .i64 (objs.length + 1), .int .i64 0]) ∧
      ∃ v', SC w' B b gm vo v' outer (objs ++ [o]) (tblPut tbl a o.name (objs.length + 1)) ∧ Below B w w' ∧ Others w w' ∧ Fr (fpS b gm vo vj) w w' ∧ Nw w (fpS b gm vo vj) (fpS b gm vo v') := by
  have hk : KeyOk (a, o.name) := ⟨by rw [hasB_iff] at ha; exact WalkArith.wf_i64 ⟨by omega, by omega⟩, hsz⟩
  obtain ⟨W0, hW0⟩ : ∃ W : World, W = w.alloc (.cells o.arr 42) := ⟨_, rfl⟩
  obtain ⟨bo, hbo⟩ : ∃ n, n = w.heap.size := ⟨_, rfl⟩
  have hb0 : Blk W0 bo 42 o.arr := by rw [hW0, hbo]; exact Blk.new _ _ _
  have h0 : SC W0 B b gm vo vj outer objs tbl := by rw [hW0]; exact h.alloc _
  have hbw : Below B w W0 := by rw [hW0]; exact (Below.refl _ _).alloc h.lt _
  have hb1 : o.name.toList.isEmpty = false := str_some hne
  have hsc := has_scope h0 a
  rw [ha] at hsc
  have hki := is_kind o.k W0
  rw [hkd] at hki
  have hhe := here_any h0 a o.name hk
  rw [hlk] at hhe
  simp only [looked, Option.getD_none, Option.isSome_none] at hhe
  have n1 := hb0.cell 1
  have n0 := hb0.cell 0
  simp at n1 n0
  have HSC := hide hsc
  have HKI := hide hki
  have HHE := hide hhe
  have HH := hide h0
  have HB0 := hide hb0
  have HOW : Hid (Others w W0) := hide (by rw [hW0]; exact Others.below ((Below.refl _ _).alloc (Nat.le_refl _) _))
  have HBW := hide hbw
  have HF0 : Hid (∀ L, Fr L w W0) := hide (fun L => by rw [hW0]; exact (Fr.refl _ _).alloc _)
  have HLK := hide hlk
  have HK := hide hk
  have HN := hide hn
  have HNE := hide hne
  have HBN : Hid (vj.ownBlock ≠ some bo ∧ b ≠ bo) := hide ⟨fun e => by have := (h.ob.lt _ e).2; omega, by have := h.bl.lt; omega⟩
  have HWE := hide hW0
  have HBE := hide hbo
  rw [hW0, hbo] at n0 n1
  obtain ⟨A0, k0, rfl⟩ := own_form7 h0.ob
  clear h hsc hki hhe h0 hb0 hbw ha hkd hne hlk hk hn hW0 hbo
  unfold ObjV.val
  go_enter Try.func20, Try.ntmps20
  go_wp2_with fail
  rw [← HWE.out]
  rw [← HBE.out]
  refine HSC.out.mono ?_
  rintro e w' ⟨rfl, rfl⟩
  clear n0 n1
  obtain ⟨c0, c1, c2⟩ := HH.out.cells
  have o0 := HB0.out.cell 0
  have o1 := HB0.out.cell 1
  have o2 := HB0.out.cell 2
  have o3 := HB0.out.cell 3
  have o4 := HB0.out.cell 4
  have o5 := HB0.out.cell 5
  have o6 := HB0.out.cell 6
  have o7 := HB0.out.cell 7
  have o8 := HB0.out.cell 8
  have o9 := HB0.out.cell 9
  have o10 := HB0.out.cell 10
  have o11 := HB0.out.cell 11
  have o12 := HB0.out.cell 12
  simp at o0 o1 o2 o3 o4 o5 o6 o7 o8 o9 o10 o11 o12
  have hge : decide ((65536 : Int) ≤ (objs.length : Int)) = false := decide_eq_false (by have := HN.out; omega)
  go_wp2_with fail
  refine HKI.out.mono ?_
  rintro e w' ⟨rfl, rfl⟩
  go_wp2_with fail
  refine HHE.out.mono ?_
  rintro e w' ⟨rfl, rfl⟩
  go_wp2_with fail
  obtain ⟨i0, hi0, hz0, hz1, hz2⟩ := info_parts objInfo
  have hbl := HH.out.bl.lt
  have c1a : (W0.alloc (.cells o.arr 42)).cell? ⟨b, 1, none⟩ = some (.slice A0 objs.length k0) := (World.cell?_alloc_lt W0 _ ⟨b, 1, none⟩ hbl).trans c1
  have RD : Reads (W0.alloc (.cells o.arr 42)) (W0.heap.size + 1) 13 (some ⟨W0.heap.size, 0, none⟩) 1 o.cells := by
    have h := reads_new7 W0 o.arr 42 13 1 rfl
    have e : (W0.alloc (.cells o.arr 42)).heap.size = W0.heap.size + 1 := by simp
    rw [e] at h
    exact h
  have OB := (HH.out.alloc (.cells o.arr 42)).ob
  have RD := hide RD
  have OB := hide OB
  go_region_law (first
    | (refine step_append_any _ rfl (.tmp 46) (.tmp 48) _ rfl B 42 i0 _ 13 120 Try.underlying31 hi0 hz0 hz1 hz2 rfl (by omega) (.slice A0 objs.length k0) objs.length (objs.flatMap ObjV.cells) (by simp [Act.eval]) OB.out (W0.heap.size + 1) (some ⟨W0.heap.size, 0, none⟩) 1 1 o.cells (by simp [Act.eval]) RD.out (cellsO_one o) (by have := HN.out; simp only [maxLen]; omega) (by have := HN.out; omega) (by have := HH.out.lt; simp; omega) ?_
       intro v6 w6 hown6 hg6 hat6
       obtain ⟨A6, k6, rfl⟩ := own_form7 hown6
       have hbl6 := (HH.out.alloc (.cells o.arr 42)).drew.bl.grown hg6 (fun e => own_blk_ne (HH.out.alloc (.cells o.arr 42)).drew.ob (HH.out.alloc (.cells o.arr 42)).drew.bl (by decide) e.symm)
       have d1 : w6.cell? ⟨b, 1, none⟩ = some (.slice A0 objs.length k0) := hbl6.cell 1
       have f1 := hbl6.frozen 1))
  go_ways
  all_goals
    obtain ⟨e1, e2, e3⟩ := put_end (o := o) (HH.out.alloc (.cells o.arr 42)).drew hg6 hown6
    have hbo6 := ((HB0.out.alloc (.cells o.arr 42)).drew.grown hg6 (fun e => HBN.out.1 e.symm)).far (p := ⟨b, 1, none⟩) (fun e => HBN.out.2 e.symm) (.slice A6 (objs.length + 1) k6)
    have hfr7 : Fr (fpS b gm vo (.slice A0 objs.length k0)) w (w6.setCell ⟨b, 1, none⟩ (.slice A6 (objs.length + 1) k6)) := (((((HF0.out _).alloc (.cells o.arr 42)).drew).grown hg6 (fun g hg => .inl (mem_fpS.2 (.inr (.inr (.inr hg))))))).setCell (.inl (mem_fpS.2 (.inl rfl))) _
    have hnw7 : Nw w (fpS b gm vo (.slice A0 objs.length k0)) (fpS b gm vo (.slice A6 (objs.length + 1) k6)) := nw_put hat6 (by have := (HF0.out []).1; simp; omega)
    obtain ⟨W7, hW7⟩ : ∃ W : World, W = w6.setCell ⟨b, 1, none⟩ (.slice A6 (objs.length + 1) k6) := ⟨_, rfl⟩
    rw [← hW7] at e1 e2 e3 hbo6 hfr7 ⊢
    have HFR7 := hide hfr7
    have HNW7 := hide hnw7
    clear hfr7 hnw7
    have hb7 : Below B w W7 := HBW.out.trans ((((Below.refl B W0).alloc HH.out.lt (.cells o.arr 42)).drew).trans e2)
    have HS7 := hide e1
    have HB7 := hide hb7
    have HO7 : Hid (Others w W7) := hide ((HOW.out.trans (Others.below (((Below.refl _ _).alloc (Nat.le_refl _) (.cells o.arr 42)).drew))).trans e3)
    have n1 := hbo6.cell 1
    simp at n1
    have HBO := hide hbo6
    clear hW7 e1 e2 e3 hbo6 hb7 hg6 hown6 hbl6 d1 f1 hat6 c1a c0 c1 c2 o0 o1 o2 o3 o4 o5 o6 o7 o8 o9 o10 o11 o12 OB RD hb1 HSC HKI HHE
    obtain ⟨d0, d1, d2⟩ := HS7.out.cells
    by_cases hu : o.name = ⟨#[95]⟩
    · have hub : (o.name.toList == [95]) = true := by rw [hu, under_list]; rfl
      have HU := hide hu
      clear hu
      go_wp2_with fail
      go_ret2
      exact ⟨rfl, _, by unfold tblPut; rw [if_pos HU.out]; exact HS7.out, HB7.out, HO7.out, HFR7.out, HNW7.out⟩
    · have hub : (o.name.toList == [95]) = false := by rw [← under_list]; exact str_ne hu
      obtain ⟨w8, hrun, hm8, hg8, _⟩ := map_push HS7.out.drew.mp HK.out HLK.out (objs.length + 1)
      unfold keyV at hrun
      simp only at hrun
      rw [show ((objs.length + 1 : Nat) : Int) = (objs.length : Int) + 1 by omega] at hrun
      obtain ⟨e8, b8, t8⟩ := name_end HS7.out.drew hm8 hg8
      obtain ⟨g0, g1, g2⟩ := e8.cells
      have hbo8 := (HBO.out.drew.grown hg8 (fun e => HS7.out.mp.ne_blk HBO.out (by injection e with e; exact e.symm))).cell 1
      simp at hbo8
      have HE8 := hide e8
      have HFR8 := hide ((HFR7.out.drew).grown hg8 (fun g hg => .inl (mem_fpS.2 (.inr (.inl (by injection hg with hg; exact hg.symm))))))
      have HB8 := hide (HB7.out.trans (((Below.refl B W7).drew).trans b8))
      have HO8 : Hid (Others w w8) := hide ((HO7.out.trans (Others.below (Below.refl _ _).drew)).trans t8)
      have HU := hide hu
      clear hm8 hg8 e8 b8 t8 hu
      go_wp2_with fail
      go_region_held3 (fun w' => w'.cell? ⟨b, 1, none⟩ = some (.slice A6 (objs.length + 1) k6) ∧ w'.cell? ⟨b, 2, none⟩ = some (.map (some gm)) ∧ w'.cell? ⟨bo, 1, none⟩ = some (.string o.name))
        (first | exact ⟨d1, d2, n1⟩ | exact ⟨g1, g2, hbo8⟩)
        (first | fail)
      go_wp2_with fail
      go_ret2
      exact ⟨rfl, _, by unfold tblPut; rw [if_neg HU.out]; exact HE8.out, HB8.out, HO8.out, HFR8.out, HNW7.out⟩
end

end Go.Proofs.Ytllddgfmjmblmaa
