/- What lattice.Join answers where one of two facts doesn't come. -/
import Derived.Test.YtoaajblkbbfikaaLatStep
namespace Go.Proofs.Ytoaajblkbbfikaa
open Go.RowKit Go.WideShapes Go.ChangeShapes
set_option linter.unusedVariables false
set_option maxRecDepth 100000

theorem known_size : (Try.prog.info? 103).map (·.size) = some 2 := by kernel_rfl
theorem known_und : ((Try.prog.underlying 103).map fun d => (match d with | .struct _ | .array _ _ => true | _ => false)) = some true := by kernel_rfl
theorem ret_known {fn : Func} {t : Tmp} (hf : fn.results = #[.cell t 103]) {R : Ending → World → Prop} {a : Act} {wf : World} {g n c : Nat} {cj : Bool} {A : Option Addr} (hp : a.tmps.getD t undef = .pointer (some ⟨g, 0, none⟩)) (hd : a.defers = [])
    (hb : Blk wf g 103 #[.bool cj, .slice A n c]) (h : R (.returned (.agg #[.bool cj, .slice A n c])) wf) : bodyPost Try.prog fn R .ret a wf := by
  have hu := known_und
  cases hq : Try.prog.underlying 103 with
  | none => rw [hq] at hu; cases hu
  | some d =>
    rw [hq] at hu
    exact bodyPost_ret (results_cell_row hf _ _ _ _ _ _ d hp hb hq (by cases d <;> simp_all) known_size) hd h

theorem own_mono_ {w : World} {B B' e s n : Nat} {v : Value} {xs : List Value} (h : w.ownsRow B e s v n xs) (hb : B' ≤ B) : w.ownsRow B' e s v n xs := by
  rcases h with ⟨h1, h2 | ⟨g, cap, cur, hv, hg, rest⟩⟩
  · exact ⟨h1, .inl h2⟩
  · exact ⟨h1, .inr ⟨g, cap, cur, hv, by omega, rest⟩⟩

theorem one_end {w W3 w' : World} {n c1 : Nat} {A1 : Option Addr} {cj : Bool} {xs : List Int} (hn : xs.length = n) (hs3 : W3.heap.size = w.heap.size + 1 + 1 + 1) (hb3 : Below w.heap.size w W3) (hbl : Below W3.heap.size W3 w')
    (hown : w'.ownsRow (w.heap.size + 1 + 1 + 1) 3 1 (.slice A1 n c1) n (xs.map (Value.int .i64))) (hbr : Blk w' (w.heap.size + 1 + 1) 103 #[.bool false, .slice none 0 0]) :
    Blk ((w'.setCell ⟨w.heap.size + 1 + 1, 0, none⟩ (.bool cj)).setCell ⟨w.heap.size + 1 + 1, 1, none⟩ (.slice A1 n c1)) (w.heap.size + 1 + 1) 103 #[.bool cj, .slice A1 n c1] ∧
    JoinPost w cj xs (.returned (.agg #[.bool cj, .slice A1 n c1])) ((w'.setCell ⟨w.heap.size + 1 + 1, 0, none⟩ (.bool cj)).setCell ⟨w.heap.size + 1 + 1, 1, none⟩ (.slice A1 n c1)) := by
  subst hn
  have hne : Value.ownBlock (.slice A1 xs.length c1) ≠ some (w.heap.size + 1 + 1) := fun e => by have := (hown.lt _ e).1; omega
  refine ⟨?_, A1, c1, rfl, own_mono_ (ownsRow_setCell_other (a := ⟨w.heap.size + 1 + 1, 1, none⟩) (ownsRow_setCell_other (a := ⟨w.heap.size + 1 + 1, 0, none⟩) hown hne _) hne _) (by omega), ?_⟩
  · have h := (hbr.set_ 0 (.bool cj)).set_ 1 (.slice A1 xs.length c1)
    simpa using h
  · exact ((hb3.trans (hbl.mono (by omega))).setCell (p := ⟨w.heap.size + 1 + 1, 0, none⟩) (by show w.heap.size ≤ w.heap.size + 1 + 1; omega) _).setCell (p := ⟨w.heap.size + 1 + 1, 1, none⟩) (by show w.heap.size ≤ w.heap.size + 1 + 1; omega) _

set_option maxHeartbeats 1000000 in
theorem join_left (n m c d : Nat) (tag : Int) (cb : Bool) (A A' : Option Addr) (ys : List Int) (w : World) (hy : RI w w.heap.size A' m ys) (hm : m ≤ 1000) :
    Calls Try.prog 56 #[.int .i64 tag, .agg #[.bool false, .slice A n c], .agg #[.bool cb, .slice A' m d]] w (JoinPost w cb ys) := by
  have HY := hide hy
  clear hy
  go_enter Try.func56, Try.ntmps56
  go_wp2_with fail
  obtain ⟨W3, hW3⟩ : ∃ W3 : World, W3 = (((w.alloc (.cells #[.bool false, .slice A n c] 103)).alloc (.cells #[.bool cb, .slice A' m d] 103)).alloc (.cells #[.bool false, .slice none 0 0] 103)) := ⟨_, rfl⟩
  rw [← hW3]
  have hs3 : W3.heap.size = w.heap.size + 1 + 1 + 1 := by rw [hW3]; simp
  have hba : Blk W3 w.heap.size 103 #[.bool false, .slice A n c] := by rw [hW3]; exact ((Blk.new w _ _).alloc _).alloc _
  have hbb : Blk W3 (w.heap.size + 1) 103 #[.bool cb, .slice A' m d] := by
    rw [hW3]; have h := (Blk.new (w.alloc (.cells #[.bool false, .slice A n c] 103)) 103 #[.bool cb, .slice A' m d]).alloc (.cells #[.bool false, .slice none 0 0] 103)
    simpa using h
  have hbr : Blk W3 (w.heap.size + 1 + 1) 103 #[.bool false, .slice none 0 0] := by
    rw [hW3]; have h := Blk.new ((w.alloc (.cells #[.bool false, .slice A n c] 103)).alloc (.cells #[.bool cb, .slice A' m d] 103)) 103 #[.bool false, .slice none 0 0]
    simpa using h
  have hb3 : Below w.heap.size w W3 := by
    rw [hW3]; exact (((Below.refl _ _).alloc (Nat.le_refl _) _).alloc (by simp) _).alloc (by simp; omega) _
  have hyc : RI W3 W3.heap.size A' m ys := by
    rw [hW3]; exact (((HY.out.alloc (Nat.le_refl _) _).alloc (by simp) _).alloc (by simp; omega) _).more (by simp; omega)
  have a0 := hba.cell 0
  have a1 := hba.cell 1
  have b0 := hbb.cell 0
  have b1 := hbb.cell 1
  simp at a0 a1 b0 b1
  have HBB := hide hbb
  have HBR := hide hbr
  have HB3 := hide hb3
  have HYC := hide hyc
  have HS3 := hide hs3
  clear hW3 hs3 hba hbb hbr hb3 hyc HY
  have HC := hide (iclone_any m d A' ys W3.drew ⟨HYC.out.1, HYC.out.2⟩ (by omega))
  go_region_law (first
    | (go_simp
       go_at_call 78
       refine HC.out.mono ?_
       rintro e w' ⟨v', rfl, hown, hbl⟩
       have hbl3 : Below W3.heap.size W3 w' := ⟨hbl.os, hbl.tape, hbl.output, hbl.size, hbl.block⟩
       have hown := own_mono_ (B' := w.heap.size + 1 + 1 + 1) hown (show w.heap.size + 1 + 1 + 1 ≤ W3.heap.size by have := HS3.out; omega)
       obtain ⟨A1, c1, rfl⟩ := own_form_ hown
       have b0' := (HBB.out.below hbl3 (by have := HS3.out; omega)).cell 0
       have hbr' := HBR.out.below hbl3 (by have := HS3.out; omega)
       have r0' := hbr'.cell 0
       have r1' := hbr'.cell 1
       have f0' := hbr'.frozen 0
       have f1' := hbr'.frozen 1
       simp at b0' r0' r1'
       have HOWN := hide hown
       have HBL := hide hbl3
       have HBR' := hide hbr'
       clear hown hbl hbl3 hbr'))
  go_ways
  all_goals go_wp2_with fail
  all_goals (obtain ⟨e1, e2⟩ := one_end (cj := cb) HYC.out.1 HS3.out HB3.out HBL.out HOWN.out HBR'.out)
  all_goals exact ret_known rfl rfl rfl e1 e2

set_option maxHeartbeats 1000000 in
theorem join_right (n m c d : Nat) (tag : Int) (A A' : Option Addr) (xs : List Int) (w : World) (hx : RI w w.heap.size A n xs) (hn : n ≤ 1000) :
    Calls Try.prog 56 #[.int .i64 tag, .agg #[.bool true, .slice A n c], .agg #[.bool false, .slice A' m d]] w (JoinPost w true xs) := by
  have HY := hide hx
  clear hx
  go_enter Try.func56, Try.ntmps56
  go_wp2_with fail
  obtain ⟨W3, hW3⟩ : ∃ W3 : World, W3 = (((w.alloc (.cells #[.bool true, .slice A n c] 103)).alloc (.cells #[.bool false, .slice A' m d] 103)).alloc (.cells #[.bool false, .slice none 0 0] 103)) := ⟨_, rfl⟩
  rw [← hW3]
  have hs3 : W3.heap.size = w.heap.size + 1 + 1 + 1 := by rw [hW3]; simp
  have hba : Blk W3 w.heap.size 103 #[.bool true, .slice A n c] := by rw [hW3]; exact ((Blk.new w _ _).alloc _).alloc _
  have hbb : Blk W3 (w.heap.size + 1) 103 #[.bool false, .slice A' m d] := by
    rw [hW3]; have h := (Blk.new (w.alloc (.cells #[.bool true, .slice A n c] 103)) 103 #[.bool false, .slice A' m d]).alloc (.cells #[.bool false, .slice none 0 0] 103)
    simpa using h
  have hbr : Blk W3 (w.heap.size + 1 + 1) 103 #[.bool false, .slice none 0 0] := by
    rw [hW3]; have h := Blk.new ((w.alloc (.cells #[.bool true, .slice A n c] 103)).alloc (.cells #[.bool false, .slice A' m d] 103)) 103 #[.bool false, .slice none 0 0]
    simpa using h
  have hb3 : Below w.heap.size w W3 := by
    rw [hW3]; exact (((Below.refl _ _).alloc (Nat.le_refl _) _).alloc (by simp) _).alloc (by simp; omega) _
  have hyc : RI W3 W3.heap.size A n xs := by
    rw [hW3]; exact (((HY.out.alloc (Nat.le_refl _) _).alloc (by simp) _).alloc (by simp; omega) _).more (by simp; omega)
  have a0 := hba.cell 0
  have a1 := hba.cell 1
  have b0 := hbb.cell 0
  have b1 := hbb.cell 1
  simp at a0 a1 b0 b1
  have HBB := hide hbb
  have HBR := hide hbr
  have HB3 := hide hb3
  have HYC := hide hyc
  have HS3 := hide hs3
  clear hW3 hs3 hba hbb hbr hb3 hyc HY
  refine (iclone_any n c A xs _ HYC.out (by omega)).mono ?_
  rintro e w' ⟨v', rfl, hown, hbl⟩
  have hbl3 : Below W3.heap.size W3 w' := ⟨hbl.os, hbl.tape, hbl.output, hbl.size, hbl.block⟩
  have hown := own_mono_ (B' := w.heap.size + 1 + 1 + 1) hown (show w.heap.size + 1 + 1 + 1 ≤ W3.heap.size by have := HS3.out; omega)
  obtain ⟨A1, c1, rfl⟩ := own_form_ hown
  have b0' := (HBB.out.below hbl3 (by have := HS3.out; omega)).cell 0
  have hbr' := HBR.out.below hbl3 (by have := HS3.out; omega)
  have r0' := hbr'.cell 0
  have r1' := hbr'.cell 1
  have f0' := hbr'.frozen 0
  have f1' := hbr'.frozen 1
  simp at b0' r0' r1'
  have HOWN := hide hown
  have HBL := hide hbl3
  have HBR' := hide hbr'
  clear hown hbl hbl3 hbr'
  go_wp2_with fail
  obtain ⟨e1, e2⟩ := one_end (cj := true) HYC.out.1 HS3.out HB3.out HBL.out HOWN.out HBR'.out
  exact ret_known rfl rfl rfl e1 e2

end Go.Proofs.Ytoaajblkbbfikaa
