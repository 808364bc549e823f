/- Put of package scope; conditions: the scopes are ones of the call's own. -/
import Derived.Test.YtllddgfmjmblmaaScope4
namespace Go.Proofs.Ytllddgfmjmblmaa
open Go.RowKit Go.WideShapes Go.ChangeShapes
set_option linter.unusedVariables false
set_option maxRecDepth 100000

theorem str_ne {a b : ByteArray} (h : a ≠ b) : (a.toList == b.toList) = false := by
  rw [beq_eq_false_iff_ne]
  intro e
  rw [ByteArray.toList_eq, ByteArray.toList_eq] at e
  exact h (bytes_inj e)
theorem under_list : (⟨#[95]⟩ : ByteArray).toList = [95] := by rw [ByteArray.toList_eq]
theorem str_some {a : ByteArray} (h : a ≠ ⟨#[]⟩) : a.toList.isEmpty = false := by
  cases hh : a.toList with
  | nil => exact absurd (bytes_inj (by rw [← ByteArray.toList_eq, hh])) h
  | cons _ _ => rfl
theorem cellsO_length (o : ObjV) : o.cells.length = 13 := rfl
theorem cellsO_one (o : ObjV) : ∀ u ∈ o.cells, u.oneCell' = true := by
  intro u hu
  simp [ObjV.cells] at hu
  rcases hu with rfl | rfl | rfl | rfl | rfl | rfl | rfl | rfl | rfl | rfl | rfl | rfl | rfl <;> rfl
abbrev ObjV.arr (o : ObjV) : Array Value := #[.int .i64 o.k, .string o.name, .int .i64 o.t, .int .i64 o.node, .int .i64 o.num, .int .i64 o.ck, .int .u64 o.hi, .int .u64 o.lo, .bool o.b, .string o.s, .int .i64 o.f, .int .i64 o.l, .int .i64 o.c]

section
variable {w : World} {B b gm : Nat} {vo vj : Value} {outer : List Int} {objs : List ObjV} {tbl : List ((Int × ByteArray) × Nat)}
/-- Blocks of other types than those that a Put may write are as they were. -/
def Others (w w' : World) : Prop := ∀ (k : Nat) (t : TypeId) (cs : Array Value), t ≠ 106 → t ≠ 42 → Blk w k t cs → Blk w' k t cs
theorem Others.trans {w w' w'' : World} (h : Others w w') (h' : Others w' w'') : Others w w'' := fun k t cs h1 h2 hk => h' k t cs h1 h2 (h k t cs h1 h2 hk)
theorem Others.below {w w' : World} (h : Below w.heap.size w w') : Others w w' := fun k t cs _ _ hk => hk.below h hk.lt
theorem SC.drew (h : SC w B b gm vo vj outer objs tbl) : SC w.drew B b gm vo vj outer objs tbl := h.drewN 1
/-- What stands behind an object that is appended. -/
theorem put_end {w6 : World} {v6 : Value} {o : ObjV} (h : SC w B b gm vo vj outer objs tbl) (hg6 : w.grownBy w6 vj.ownBlock) (hown6 : w6.ownsRow B 42 13 v6 (objs.length + 1) (objs.flatMap ObjV.cells ++ o.cells)) :
    SC (w6.setCell ⟨b, 1, none⟩ v6) B b gm vo v6 outer (objs ++ [o]) tbl ∧ Below B w (w6.setCell ⟨b, 1, none⟩ v6) ∧ Others w (w6.setCell ⟨b, 1, none⟩ v6) := by
  have hbl6 : Blk w6 b 106 #[vo, vj, .map (some gm)] := h.bl.grown hg6 (fun e => own_blk_ne h.ob h.bl (by decide) e.symm)
  have hmp6 : MP w6 gm tbl := h.mp.same (hg6.block gm h.mp.lt (fun e => h.mp.ne_own h.ob e.symm))
  refine ⟨⟨by have h := hbl6.set_ 1 v6; simpa using h, ?_, ?_, ?_, h.bb, h.bm⟩, (((Below.refl B w).grown hg6 h.lt (fun k hk => (h.ob.lt k hk).1))).setCell (p := ⟨b, 1, none⟩) h.bb _, fun k t cs h1 h2 hk => ?_⟩
  · have h6 := h.ou.kept hg6 (own_ne_own7 h.ou h.ob (by decide))
    exact ownsRow_setCell_other (a := ⟨b, 1, none⟩) h6 (own_blk_ne h6 hbl6 (by decide)) _
  · have h7 := ownsRow_setCell_other (a := ⟨b, 1, none⟩) hown6 (own_blk_ne hown6 hbl6 (by decide)) v6
    simpa using h7
  · exact hmp6.same (Below.heap_setCell _ _ _ _ (hmp6.ne_blk hbl6))
  · have hk6 := hk.grown hg6 (fun e => own_blk_ne h.ob hk (fun e => h2 e.symm) e.symm)
    exact hk6.far (p := ⟨b, 1, none⟩) (Blk.ne_ hk6 hbl6 h1) _
/-- What stands behind a name that is put into the map. -/
theorem name_end {w' : World} {tbl' : List ((Int × ByteArray) × Nat)} (h : SC w B b gm vo vj outer objs tbl) (hm : MP w' gm tbl') (hg : w.grownBy w' (some gm)) : SC w' B b gm vo vj outer objs tbl' ∧ Below B w w' ∧ Others w w' := by
  have hne : ∀ {e s n : Nat} {v : Value} {xs : List Value}, w.ownsRow B e s v n xs → w'.ownsRow B e s v n xs := fun {e s n v xs} ho => ho.kept hg (.inr (h.mp.ne_own ho))
  exact ⟨⟨h.bl.grown hg (fun e => h.mp.ne_blk h.bl (by injection e with e; exact e.symm)), hne h.ou, hne h.ob, hm, h.bb, h.bm⟩, (Below.refl B w).grown hg h.lt (fun k hk => by injection hk with hk; rw [← hk]; exact h.bm), fun k t cs _ _ hk => hk.grown hg (fun e => h.mp.ne_blk hk (by injection e with e; exact e.symm))⟩

def tblPut (tbl : List ((Int × ByteArray) × Nat)) (a : Int) (name : ByteArray) (i : Nat) : List ((Int × ByteArray) × Nat) := if name = ⟨#[95]⟩ then tbl else tbl ++ [((a, name), i)]

set_option maxHeartbeats 4000000 in
theorem put_ok (h : SC w B b gm vo vj outer objs tbl) (a : Int) (o : ObjV) (ha : hasB outer.length a = true) (hkd : decide (1 ≤ o.k ∧ o.k ≤ 9) = true) (hne : o.name ≠ ⟨#[]⟩) (hsz : o.name.size ≤ maxLen) (hlk : look tbl (a, o.name) = none) (hn : objs.length ≤ 1000) (hnn : outer.length ≤ 70000) :
    Calls Try.prog 20 #[.pointer (some ⟨b, 0, none⟩), .int .i64 a, o.val] w fun e w' => e = .returned (.tuple #[.int .i64 (objs.length + 1), .int .i64 0]) ∧
      ∃ v', SC w' B b gm vo v' outer (objs ++ [o]) (tblPut tbl a o.name (objs.length + 1)) ∧ Below B w w' ∧ Others w w' := by
  have hk : KeyOk (a, o.name) := ⟨by rw [hasB_iff] at ha; exact WalkArith.wf_i64 ⟨by omega, by omega⟩, hsz⟩
  obtain ⟨W0, hW0⟩ : ∃ W : World, W = w.alloc (.cells o.arr 42) := ⟨_, rfl⟩
  obtain ⟨bo, hbo⟩ : ∃ n, n = w.heap.size := ⟨_, rfl⟩
  have hb0 : Blk W0 bo 42 o.arr := by rw [hW0, hbo]; exact Blk.new _ _ _
  have h0 : SC W0 B b gm vo vj outer objs tbl := by rw [hW0]; exact h.alloc _
  have hbw : Below B w W0 := by rw [hW0]; exact (Below.refl _ _).alloc h.lt _
  have hb1 : o.name.toList.isEmpty = false := str_some hne
  have hsc := has_scope h0 a
  rw [ha] at hsc
  have hki := is_kind o.k W0
  rw [hkd] at hki
  have hhe := here_any h0 a o.name hk
  rw [hlk] at hhe
  simp only [looked, Option.getD_none, Option.isSome_none] at hhe
  have n1 := hb0.cell 1
  have n0 := hb0.cell 0
  simp at n1 n0
  have HSC := hide hsc
  have HKI := hide hki
  have HHE := hide hhe
  have HH := hide h0
  have HB0 := hide hb0
  have HOW : Hid (Others w W0) := hide (by rw [hW0]; exact Others.below ((Below.refl _ _).alloc (Nat.le_refl _) _))
  have HBW := hide hbw
  have HLK := hide hlk
  have HK := hide hk
  have HN := hide hn
  have HNE := hide hne
  have HBN : Hid (vj.ownBlock ≠ some bo ∧ b ≠ bo) := hide ⟨fun e => by have := (h.ob.lt _ e).2; omega, by have := h.bl.lt; omega⟩
  have HWE := hide hW0
  have HBE := hide hbo
  rw [hW0, hbo] at n0 n1
  obtain ⟨A0, k0, rfl⟩ := own_form7 h0.ob
  clear h hsc hki hhe h0 hb0 hbw ha hkd hne hlk hk hn hW0 hbo
  unfold ObjV.val
  go_enter Try.func20, Try.ntmps20
  go_wp2_with fail
  rw [← HWE.out]
  rw [← HBE.out]
  refine HSC.out.mono ?_
  rintro e w' ⟨rfl, rfl⟩
  clear n0 n1
  obtain ⟨c0, c1, c2⟩ := HH.out.cells
  have o0 := HB0.out.cell 0
  have o1 := HB0.out.cell 1
  have o2 := HB0.out.cell 2
  have o3 := HB0.out.cell 3
  have o4 := HB0.out.cell 4
  have o5 := HB0.out.cell 5
  have o6 := HB0.out.cell 6
  have o7 := HB0.out.cell 7
  have o8 := HB0.out.cell 8
  have o9 := HB0.out.cell 9
  have o10 := HB0.out.cell 10
  have o11 := HB0.out.cell 11
  have o12 := HB0.out.cell 12
  simp at o0 o1 o2 o3 o4 o5 o6 o7 o8 o9 o10 o11 o12
  have hge : decide ((65536 : Int) ≤ (objs.length : Int)) = false := decide_eq_false (by have := HN.out; omega)
  go_wp2_with fail
  refine HKI.out.mono ?_
  rintro e w' ⟨rfl, rfl⟩
  go_wp2_with fail
  refine HHE.out.mono ?_
  rintro e w' ⟨rfl, rfl⟩
  go_wp2_with fail
  obtain ⟨i0, hi0, hz0, hz1, hz2⟩ := info_parts objInfo
  have hbl := HH.out.bl.lt
  have c1a : (W0.alloc (.cells o.arr 42)).cell? ⟨b, 1, none⟩ = some (.slice A0 objs.length k0) := (World.cell?_alloc_lt W0 _ ⟨b, 1, none⟩ hbl).trans c1
  have RD : Reads (W0.alloc (.cells o.arr 42)) (W0.heap.size + 1) 13 (some ⟨W0.heap.size, 0, none⟩) 1 o.cells := by
    have h := reads_new7 W0 o.arr 42 13 1 rfl
    have e : (W0.alloc (.cells o.arr 42)).heap.size = W0.heap.size + 1 := by simp
    rw [e] at h
    exact h
  have OB := (HH.out.alloc (.cells o.arr 42)).ob
  have RD := hide RD
  have OB := hide OB
  go_region_law (first
    | (refine step_append_any _ rfl (.tmp 46) (.tmp 48) _ rfl B 42 i0 _ 13 120 Try.underlying31 hi0 hz0 hz1 hz2 rfl (by omega) (.slice A0 objs.length k0) objs.length (objs.flatMap ObjV.cells) (by simp [Act.eval]) OB.out (W0.heap.size + 1) (some ⟨W0.heap.size, 0, none⟩) 1 1 o.cells (by simp [Act.eval]) RD.out (cellsO_one o) (by have := HN.out; simp only [maxLen]; omega) (by have := HN.out; omega) (by have := HH.out.lt; simp; omega) ?_
       intro v6 w6 hown6 hg6 hat6
       obtain ⟨A6, k6, rfl⟩ := own_form7 hown6
       have hbl6 := (HH.out.alloc (.cells o.arr 42)).drew.bl.grown hg6 (fun e => own_blk_ne (HH.out.alloc (.cells o.arr 42)).drew.ob (HH.out.alloc (.cells o.arr 42)).drew.bl (by decide) e.symm)
       have d1 : w6.cell? ⟨b, 1, none⟩ = some (.slice A0 objs.length k0) := hbl6.cell 1
       have f1 := hbl6.frozen 1))
  go_ways
  all_goals
    obtain ⟨e1, e2, e3⟩ := put_end (o := o) (HH.out.alloc (.cells o.arr 42)).drew hg6 hown6
    have hbo6 := ((HB0.out.alloc (.cells o.arr 42)).drew.grown hg6 (fun e => HBN.out.1 e.symm)).far (p := ⟨b, 1, none⟩) (fun e => HBN.out.2 e.symm) (.slice A6 (objs.length + 1) k6)
    obtain ⟨W7, hW7⟩ : ∃ W : World, W = w6.setCell ⟨b, 1, none⟩ (.slice A6 (objs.length + 1) k6) := ⟨_, rfl⟩
    rw [← hW7] at e1 e2 e3 hbo6 ⊢
    have hb7 : Below B w W7 := HBW.out.trans ((((Below.refl B W0).alloc HH.out.lt (.cells o.arr 42)).drew).trans e2)
    have HS7 := hide e1
    have HB7 := hide hb7
    have HO7 : Hid (Others w W7) := hide ((HOW.out.trans (Others.below (((Below.refl _ _).alloc (Nat.le_refl _) (.cells o.arr 42)).drew))).trans e3)
    have n1 := hbo6.cell 1
    simp at n1
    have HBO := hide hbo6
    clear hW7 e1 e2 e3 hbo6 hb7 hg6 hown6 hbl6 d1 f1 hat6 c1a c0 c1 c2 o0 o1 o2 o3 o4 o5 o6 o7 o8 o9 o10 o11 o12 OB RD hb1 HSC HKI HHE
    obtain ⟨d0, d1, d2⟩ := HS7.out.cells
    by_cases hu : o.name = ⟨#[95]⟩
    · have hub : (o.name.toList == [95]) = true := by rw [hu, under_list]; rfl
      have HU := hide hu
      clear hu
      go_wp2_with fail
      go_ret2
      exact ⟨rfl, _, by unfold tblPut; rw [if_pos HU.out]; exact HS7.out, HB7.out, HO7.out⟩
    · have hub : (o.name.toList == [95]) = false := by rw [← under_list]; exact str_ne hu
      obtain ⟨w8, hrun, hm8, hg8, _⟩ := map_push HS7.out.drew.mp HK.out HLK.out (objs.length + 1)
      unfold keyV at hrun
      simp only at hrun
      rw [show ((objs.length + 1 : Nat) : Int) = (objs.length : Int) + 1 by omega] at hrun
      obtain ⟨e8, b8, t8⟩ := name_end HS7.out.drew hm8 hg8
      obtain ⟨g0, g1, g2⟩ := e8.cells
      have hbo8 := (HBO.out.drew.grown hg8 (fun e => HS7.out.mp.ne_blk HBO.out (by injection e with e; exact e.symm))).cell 1
      simp at hbo8
      have HE8 := hide e8
      have HB8 := hide (HB7.out.trans (((Below.refl B W7).drew).trans b8))
      have HO8 : Hid (Others w w8) := hide ((HO7.out.trans (Others.below (Below.refl _ _).drew)).trans t8)
      have HU := hide hu
      clear hm8 hg8 e8 b8 t8 hu
      go_wp2_with fail
      go_region_held3 (fun w' => w'.cell? ⟨b, 1, none⟩ = some (.slice A6 (objs.length + 1) k6) ∧ w'.cell? ⟨b, 2, none⟩ = some (.map (some gm)) ∧ w'.cell? ⟨bo, 1, none⟩ = some (.string o.name))
        (first | exact ⟨d1, d2, n1⟩ | exact ⟨g1, g2, hbo8⟩)
        (first | fail)
      go_wp2_with fail
      go_ret2
      exact ⟨rfl, _, by unfold tblPut; rw [if_neg HU.out]; exact HE8.out, HB8.out, HO8.out⟩
end

end Go.Proofs.Ytllddgfmjmblmaa
