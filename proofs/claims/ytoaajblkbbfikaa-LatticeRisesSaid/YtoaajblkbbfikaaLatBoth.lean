/- What lattice.Join answers for two facts that both come. -/
import Derived.Test.YtoaajblkbbfikaaLatOne
import Derived.Deep.RegionLaw
namespace Go.Proofs.Ytoaajblkbbfikaa
open Go.RowKit Go.WideShapes Go.ChangeShapes
set_option linter.unusedVariables false
set_option maxRecDepth 100000

theorem both_end {w W4 wr : World} {o n c2 : Nat} {A2 : Option Addr} {zs : List Int} (hn : zs.length = n) (ho : o = w.heap.size + 1 + 1 + 1) (hb4 : Below w.heap.size w W4) (hbl : Below o W4 wr)
    (hown : wr.ownsRow (o + 1) 3 1 (.slice A2 n c2) n ((zs.take n).map (Value.int .i64))) (hbr : Blk W4 (w.heap.size + 1 + 1) 103 #[.bool false, .slice none 0 0]) :
    Blk ((wr.setCell ⟨w.heap.size + 1 + 1, 0, none⟩ (.bool true)).setCell ⟨w.heap.size + 1 + 1, 1, none⟩ (.slice A2 n c2)) (w.heap.size + 1 + 1) 103 #[.bool true, .slice A2 n c2] ∧
    JoinPost w true zs (.returned (.agg #[.bool true, .slice A2 n c2])) ((wr.setCell ⟨w.heap.size + 1 + 1, 0, none⟩ (.bool true)).setCell ⟨w.heap.size + 1 + 1, 1, none⟩ (.slice A2 n c2)) := by
  subst hn
  subst ho
  rw [List.take_of_length_le (Nat.le_refl _)] at hown
  have hne : Value.ownBlock (.slice A2 zs.length c2) ≠ some (w.heap.size + 1 + 1) := fun e => by have := (hown.lt _ e).1; omega
  refine ⟨?_, A2, c2, rfl, own_mono_ (ownsRow_setCell_other (a := ⟨w.heap.size + 1 + 1, 1, none⟩) (ownsRow_setCell_other (a := ⟨w.heap.size + 1 + 1, 0, none⟩) hown hne _) hne _) (by omega), ?_⟩
  · have h := ((hbr.below hbl (by omega)).set_ 0 (.bool true)).set_ 1 (.slice A2 zs.length c2)
    simpa using h
  · exact ((hb4.trans (hbl.mono (by omega))).setCell (p := ⟨w.heap.size + 1 + 1, 0, none⟩) (by show w.heap.size ≤ w.heap.size + 1 + 1; omega) _).setCell (p := ⟨w.heap.size + 1 + 1, 1, none⟩) (by show w.heap.size ≤ w.heap.size + 1 + 1; omega) _

set_option maxHeartbeats 2000000 in
theorem join_both (n c d : Nat) (tag : Int) (A A' : Option Addr) (xs ys : List Int) (w : World) (hx : RI w w.heap.size A n xs) (hy : RI w w.heap.size A' n ys) (hn : n ≤ 1000)
    (ht : tag = 1 ∨ tag = 2) (hcx : ∀ x ∈ xs, cellB tag x = true) (hcy : ∀ y ∈ ys, cellB tag y = true) :
    Calls Try.prog 56 #[.int .i64 tag, .agg #[.bool true, .slice A n c], .agg #[.bool true, .slice A' n d]] w (JoinPost w true (List.zipWith (jn tag) xs ys)) := by
  obtain ⟨i0, hi0, hz0, hz1, hz2⟩ := info_parts intInfo_
  go_enter Try.func56, Try.ntmps56
  go_wp2_with fail
  obtain ⟨W4, hW4⟩ : ∃ W4 : World, W4 = ((((w.alloc (.cells #[.bool true, .slice A n c] 103)).alloc (.cells #[.bool true, .slice A' n d] 103)).alloc (.cells #[.bool false, .slice none 0 0] 103)).alloc (.cells #[.bool true, .slice none 0 0] 103)) := ⟨_, rfl⟩
  rw [← hW4]
  have hs4 : W4.heap.size = w.heap.size + 1 + 1 + 1 + 1 := by rw [hW4]; simp
  have hba : Blk W4 w.heap.size 103 #[.bool true, .slice A n c] := by rw [hW4]; exact (((Blk.new w _ _).alloc _).alloc _).alloc _
  have hbb : Blk W4 (w.heap.size + 1) 103 #[.bool true, .slice A' n d] := by
    rw [hW4]; have h := ((Blk.new (w.alloc (.cells #[.bool true, .slice A n c] 103)) 103 #[.bool true, .slice A' n d]).alloc (.cells #[.bool false, .slice none 0 0] 103)).alloc (.cells #[.bool true, .slice none 0 0] 103)
    simpa using h
  have hbr : Blk W4 (w.heap.size + 1 + 1) 103 #[.bool false, .slice none 0 0] := by
    rw [hW4]; have h := (Blk.new ((w.alloc (.cells #[.bool true, .slice A n c] 103)).alloc (.cells #[.bool true, .slice A' n d] 103)) 103 #[.bool false, .slice none 0 0]).alloc (.cells #[.bool true, .slice none 0 0] 103)
    simpa using h
  have hbo : Blk W4 (w.heap.size + 1 + 1 + 1) 103 #[.bool true, .slice none 0 0] := by
    rw [hW4]; have h := Blk.new (((w.alloc (.cells #[.bool true, .slice A n c] 103)).alloc (.cells #[.bool true, .slice A' n d] 103)).alloc (.cells #[.bool false, .slice none 0 0] 103)) 103 #[.bool true, .slice none 0 0]
    simpa using h
  have hb4 : Below w.heap.size w W4 := by
    rw [hW4]; exact ((((Below.refl _ _).alloc (Nat.le_refl _) _).alloc (by simp) _).alloc (by simp; omega) _).alloc (by simp; omega) _
  have HBA := hide hba
  have HBB := hide hbb
  have HBR := hide hbr
  have HBO := hide hbo
  have HB4 := hide hb4
  have HX := hide hx
  have HY := hide hy
  have HCX := hide hcx
  have HCY := hide hcy
  obtain ⟨o, ho⟩ : ∃ o, o = w.heap.size + 1 + 1 + 1 := ⟨_, rfl⟩
  have HS4 : Hid (W4.heap.size = o + 1) := hide (by omega)
  rw [← ho] at HBO ⊢
  have ho1 : w.heap.size + 1 + 1 < o := by omega
  have HO := hide ho
  clear hW4 hs4 hba hbb hbr hbo hb4 hx hy hcx hcy ho
  go_loopw [35] (fun i wr => JoinRel W4 o n (List.zipWith (jn tag) xs ys) i wr) (fun i _ => n - (intOf i).toNat)
  case atStart => exact ⟨0, none, 0, by omega, rfl, HBO.out, by simpa using World.ownsRow_nil _ _ _ _, Below.refl _ _⟩
  case round =>
    obtain ⟨k, A2, c2, hk, rfl, hbo, hown, hbl⟩ := hrel
    have hba := HBA.out.below hbl (by omega)
    have hbb := HBB.out.below hbl (by omega)
    by_cases hlt : k < n
    · have hblw : Below w.heap.size w wr := HB4.out.trans (hbl.mono (by omega))
      obtain ⟨ab, ao, x, rfl, hab, hxx, cx⟩ := (HX.out.below hblw).at_ hlt
      obtain ⟨bb, bo, y, rfl, hbb', hyy, cy⟩ := (HY.out.below hblw).at_ hlt
      have a1 := hba.cell 1
      have b1 := hbb.cell 1
      have o1 := hbo.cell 1
      have fo1 := hbo.frozen 1
      simp at a1 b1 o1
      have H1 : Hid (∀ W, Calls Try.prog 79 _ W _) := hide (fun W => joined_ok tag x y W ht (HCX.out x (List.mem_of_getElem? hxx)) (HCY.out y (List.mem_of_getElem? hyy)))
      have HXX := hide (And.intro hxx hyy)
      have HOWN := hide hown
      have HBL := hide hbl
      have HBO2 := hide hbo
      have hlw : o + 1 ≤ wr.heap.size := by have h := hbl.size; have h2 := HS4.out; omega
      have hol : o < wr.heap.size := by omega
      clear hba hbb hxx hyy hown hbl hbo hblw
      go_wp2_with fail
      have hbn := HBO2.out.alloc (.cells #[.int .i64 (jn tag x y)] 3)
      have hrn := (reads_new1 wr (jn tag x y)).drew
      have oA : (wr.alloc (.cells #[.int .i64 (jn tag x y)] 3)).cell? ⟨o, 1, none⟩ = some (.slice A2 k c2) := hbn.cell 1
      have HBN := hide hbn.drew
      have HRN := hide hrn
      have hbx : Below o wr ((wr.alloc (.cells #[.int .i64 (jn tag x y)] 3)).drew) := ((Below.refl o wr).alloc (by omega) _).drew
      have HBX := hide hbx
      have hz : (List.zipWith (jn tag) xs ys)[k]? = some (jn tag x y) := by rw [List.getElem?_zipWith, HXX.out.1, HXX.out.2]
      have HZ := hide hz
      clear hbn hrn hbx hz
      go_region_law (first
        | (go_simp; go_at_call 79; refine (H1.out _).mono ?_; rintro e w' ⟨rfl, rfl⟩)
        | (refine step_append_any _ rfl (.tmp 39) (.tmp 52) _ rfl (o + 1) 3 i0 _ 1 8 Try.underlying30 hi0 hz0 hz1 hz2 rfl (by omega) (.slice A2 k c2) k _ (by simp [Act.eval]) (HOWN.out.alloc _) (wr.heap.size + 1) (some ⟨wr.heap.size, 0, none⟩) 1 1 [.int .i64 (jn tag x y)] (by simp [Act.eval]) HRN.out (by intro u hu; simp at hu; subst hu; rfl) (by simp only [maxLen]; omega) (by omega) (by simp; omega) ?_; intro v1 w1' hown1 hg1 hat1; obtain ⟨A1, c1, rfl⟩ := own_form_ hown1; have hbo1 := HBN.out.grown hg1 (fun e => by have := (HOWN.out.lt o e.symm).1; omega); have o1' := hbo1.cell 1; simp at o1'; have fo1' := hbo1.frozen 1))
      go_ways
      all_goals
        go_wp2_with fail
        go_roundw
        case rel =>
          first
            | exact join_step hlt HZ.out HBL.out hlw HBN.out HOWN.out HBX.out HBX.out.size hg1 hown1 _ (by go_num)
            | exact (join_step hlt HZ.out HBL.out hlw HBN.out HOWN.out HBX.out HBX.out.size hg1 hown1 _ (by go_num)).drew
        case measure => simp [intOf]; omega
    · obtain rfl : k = n := by omega
      have o0 := hbo.cell 0
      have o1 := hbo.cell 1
      have hbr := HBR.out.below hbl (by omega)
      have r0 := hbr.cell 0
      have r1 := hbr.cell 1
      have fr0 := hbr.frozen 0
      have fr1 := hbr.frozen 1
      simp at o0 o1 r0 r1
      have HOWN := hide hown
      have HBL := hide hbl
      clear hba hbb hown hbl hbo hbr
      go_wp2_with fail
      obtain ⟨e1, e2⟩ := both_end (by rw [List.length_zipWith, HX.out.1, HY.out.1]; omega) HO.out HB4.out HBL.out HOWN.out HBR.out
      exact ret_known rfl rfl rfl e1 e2

end Go.Proofs.Ytoaajblkbbfikaa
