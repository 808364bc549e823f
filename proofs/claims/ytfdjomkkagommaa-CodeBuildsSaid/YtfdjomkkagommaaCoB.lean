/- The simple funcs of package code; conditions: as each says. -/
import Derived.Test.YtfdjomkkagommaaCoA
namespace Go.Proofs.Ytfdjomkkagommaa
open Go.RowKit Go.WideShapes Go.ChangeShapes
set_option linter.unusedVariables false
set_option linter.unusedSimpArgs false
set_option maxRecDepth 100000

def endsB (op : Int) : Bool := op == 19 || op == 37 || op == 23 || op == 26
theorem ends_any (i : Ins) (av rv : Value) (w : World) : Calls Try.prog 17 #[i.val av rv] w (BoolP w (endsB i.op)) := by
  obtain ⟨a, ha⟩ : ∃ a, a = w.heap.size := ⟨_, rfl⟩
  obtain ⟨W1, hW1⟩ : ∃ W1, W1 = w.alloc (.cells (i.arr av rv) 39) := ⟨_, rfl⟩
  have hb1 : Below w.heap.size w W1 := by rw [hW1]; exact (Below.refl _ _).alloc (Nat.le_refl _) _
  have hba : Blk W1 a 39 (i.arr av rv) := by rw [hW1, ha]; exact Blk.new _ _ _
  have z0 : W1.cell? ⟨a, 0, none⟩ = some (.int .i64 i.op) := hba.cell 0
  have HB1 := hide hb1
  have HW1 := hide hW1
  have HA := hide ha
  have HBA := hide hba
  obtain ⟨o, ho⟩ : ∃ o, o = i.op := ⟨_, rfl⟩
  rw [← ho] at z0 ⊢
  clear hb1 hW1 ha hba ho
  go_enter Try.func17, Try.ntmps17
  go_upto_region 1 with (fail)
  rw [← HW1.out, ← HA.out]
  go_wp2_with fail
  all_goals go_ret
  all_goals exact ⟨ret_bS (by unfold endsB; first | rfl | simp_all), HB1.out⟩
def countB (n : Int) : Bool := decide (0 ≤ n ∧ n ≤ 65536)
theorem count_any (n : Int) (w : World) : Calls Try.prog 45 #[.int .i64 n] w fun e w' => e = .returned (.bool (countB n)) ∧ w = w' := by
  by_cases h1 : 0 ≤ n
  · by_cases h2 : n ≤ 65536
    · have HE := hide (show countB n = true from decide_eq_true ⟨h1, h2⟩)
      go_enter Try.func45, Try.ntmps45
      go_wp2_with fail
      go_ret
      exact ⟨ret_bS HE.out.symm, rfl⟩
    · have HE := hide (show countB n = false from decide_eq_false (fun h => h2 h.2))
      go_enter Try.func45, Try.ntmps45
      go_wp2_with fail
      go_ret
      exact ⟨ret_bS HE.out.symm, rfl⟩
  · have HE := hide (show countB n = false from decide_eq_false (fun h => h1 h.1))
    go_enter Try.func45, Try.ntmps45
    go_wp2_with fail
    go_ret
    exact ⟨ret_bS HE.out.symm, rfl⟩
def meantI (i : Ins) : List Int := if i.op = 19 ∨ i.op = 20 then [i.to_] else if i.op = 37 then i.arms.map Arm.to_ else []
def RowP (w : World) (l : List Int) (e : Ending) (w' : World) : Prop := ∃ v', e = .returned v' ∧ w'.ownsRow w.heap.size 3 1 v' l.length (l.map iI) ∧ Below w.heap.size w w'
set_option maxHeartbeats 4000000 in
theorem meant_any (i : Ins) (av rv : Value) (w : World) (h : InsOk w i av rv) (hn : i.arms.length ≤ 100000) : Calls Try.prog 22 #[i.val av rv] w (RowP w (meantI i)) := by
  obtain ⟨i0, hi0, hz0, hz1, hz2⟩ := info_parts intInfoT
  obtain ⟨Ar, cr, rfl⟩ := h.rm.form
  obtain ⟨a, ha⟩ : ∃ a, a = w.heap.size := ⟨_, rfl⟩
  obtain ⟨W1, hW1⟩ : ∃ W1, W1 = w.alloc (.cells (i.arr av (.slice Ar i.arms.length cr)) 39) := ⟨_, rfl⟩
  have hb1 : Below w.heap.size w W1 := by rw [hW1]; exact (Below.refl _ _).alloc (Nat.le_refl _) _
  have hba : Blk W1 a 39 (i.arr av (.slice Ar i.arms.length cr)) := by rw [hW1, ha]; exact Blk.new _ _ _
  have z0 : W1.cell? ⟨a, 0, none⟩ = some (.int .i64 i.op) := hba.cell 0
  have z14 : W1.cell? ⟨a, 14, none⟩ = some (.int .i64 i.to_) := hba.cell 14
  have z15 : W1.cell? ⟨a, 15, none⟩ = some (.slice Ar i.arms.length cr) := hba.cell 15
  have HB1 := hide hb1
  have HW1 := hide hW1
  have HA := hide ha
  have HBA := hide hba
  have HOK := hide (h.rm.below hb1 (Nat.le_refl _))
  obtain ⟨o, ho⟩ : ∃ o, o = i.op := ⟨_, rfl⟩
  obtain ⟨m, hm⟩ : ∃ m, m = i.arms.length := ⟨_, rfl⟩
  have HO := hide ho
  rw [← ho] at z0
  rw [← hm] at z15 HW1 HBA HOK ⊢
  have HM := hide (And.intro hm hn)
  clear hb1 hW1 ha hba ho h hn hm
  rcases Int.decEq o 19 with h19 | h19
  · rcases Int.decEq o 20 with h20 | h20
    · rcases Int.decEq o 37 with h37 | h37
      · skip
        have HE := hide (show meantI i = [] by unfold meantI; rw [← HO.out, if_neg (by omega), if_neg h37])
        rw [HE.out]
        go_enter Try.func22, Try.ntmps22
        go_upto_region 2 with (fail)
        rw [← HW1.out, ← HA.out]
        go_wp2_with fail
        go_ret
        exact ⟨_, rfl, World.ownsRow_nil _ _ _ _, HB1.out⟩
      · subst h37
        have HE := hide (show meantI i = i.arms.map Arm.to_ by unfold meantI; rw [← HO.out]; rfl)
        rw [HE.out]
        go_enter Try.func22, Try.ntmps22
        go_upto_region 2 with (fail)
        rw [← HW1.out, ← HA.out]
        go_wp2_with fail
        go_loopw [3, 21] (fun ov jj wr => ∃ (Ao : Option Addr) (co j : Nat), j ≤ m ∧ ov = .slice Ao j co ∧ jj = .int .i64 j ∧ Hid (wr.ownsRow W1.heap.size 3 1 (.slice Ao j co) j (((i.arms.take j).map Arm.to_).map iI)) ∧ Hid (Below W1.heap.size W1 wr)) (fun _ jj _ => m - (intOf jj).toNat)
        case atStart => exact ⟨none, 0, 0, Nat.zero_le _, rfl, rfl, hide (by simpa using World.ownsRow_nil _ _ _ _), hide (Below.refl _ _)⟩
        case round =>
          obtain ⟨Ao, co, j, hj, rfl, rfl, HR, HWR⟩ := hrel
          by_cases hlt : j < m
          · have j1 : (j : Int) < (m : Int) := by omega
            have q5 : IntKind.i64.wrap ((j : Int) + 1) = (j : Int) + 1 := IntWalk.i64_in _ (by have := HM.out; omega)
            obtain ⟨b, of, x, rfl, hbl, hx, x0, x1, x2, x3, x4, x5⟩ := ArmsAt.at_ (HOK.out.below HWR.out (Nat.le_refl _)) (i := j) (by have := HM.out; omega)
            have HX := hide hx
            obtain ⟨g, hg⟩ : ∃ g, g = wr.heap.size := ⟨_, rfl⟩
            obtain ⟨W2, hW2⟩ : ∃ W2, W2 = wr.alloc (.cells (x.arr) 41) := ⟨_, rfl⟩
            have hb2 : Below wr.heap.size wr W2 := by rw [hW2]; exact (Below.refl _ _).alloc (Nat.le_refl _) _
            have hbg : Blk W2 g 41 x.arr := by rw [hW2, hg]; exact Blk.new _ _ _
            have u5 : W2.cell? ⟨g, 5, none⟩ = some (.int .i64 x.to_) := hbg.cell 5
            have HW2 := hide hW2
            have HG := hide hg
            have HB2 := hide hb2
            have HR2 := hide (own_belowT (own_belowT HR.out hb2) ((Below.refl W2.heap.size W2).alloc (Nat.le_refl _) (.cells #[.int .i64 x.to_] 3)))
            have HBW := hide ((HWR.out.trans (hb2.mono HWR.out.size)).alloc (Nat.le_trans HWR.out.size hb2.size) (.cells #[.int .i64 x.to_] 3))
            have HSZ := hide (show w.heap.size ≤ W2.heap.size from Nat.le_trans HB1.out.size (Nat.le_trans HWR.out.size hb2.size))
            have HSZ1 := hide (show W1.heap.size ≤ W2.heap.size from Nat.le_trans HWR.out.size hb2.size)
            clear hx hW2 hg hb2 hbg
            go_upto_region 10 with (fail)
            rw [← HG.out, ← HW2.out]
            go_wp2_with (first
              | (at_builtin
                 refine wpList_append_own_at _ rfl (.tmp 25) (.tmp 28) _ rfl W1.heap.size 3 i0 _ 1 8 Try.underlying22 hi0 hz0 hz1 hz2 rfl (by omega) (.slice Ao j co) j (((i.arms.take j).map Arm.to_).map iI) rfl HR2.out ⟨W2.heap.size, 0, none⟩ 1 1 [iI x.to_] rfl rfl (cell_one_new _ _ _) (by intro u hu; simp at hu; subst hu; rfl) (by have := HM.out; simp only [maxLen]; omega) (by have := HM.out; omega) (by simp; exact Nat.le_succ_of_le HSZ1.out) ?_
                 intro v6 w6 hown6 hg6 _ hat6
                 have HBN := hide (HBW.out.grown hg6 (by simp; exact Nat.le_succ_of_le HSZ1.out) (fun k hk => (HR.out.lt k hk).1))
                 obtain ⟨A6, c6, rfl⟩ := own_formT hown6
                 have HRN : Hid (w6.ownsRow W1.heap.size 3 1 (.slice A6 (j + 1) c6) (j + 1) (((i.arms.take (j + 1)).map Arm.to_).map iI)) := hide (by
                   rw [List.take_add_one, HX.out, Option.toList_some, List.map_append, List.map_append]
                   exact hown6)
                 clear hown6 hg6 hat6))
            go_roundw
            case rel => exact ⟨A6, c6, j + 1, by omega, rfl, by simp, HRN, HBN⟩
            case measure => simp [intOf]; omega
          · have hjm : j = m := by omega
            have HFI := hide (show i.arms.take j = i.arms from List.take_of_length_le (by have := HM.out; omega))
            have HFL := hide (show (i.arms.map Arm.to_).length = j by rw [List.length_map]; have := HM.out; omega)
            clear hjm
            have j1 : ¬ (j : Int) < (m : Int) := by omega
            go_wp2_with fail
            go_ret
            refine ⟨_, rfl, ?_, HB1.out.trans (HWR.out.mono HB1.out.size)⟩
            have h := own_monoT HR.out HB1.out.size
            rw [HFI.out] at h
            rw [HFL.out]
            exact h
    · subst h20
      have HE := hide (show meantI i = [i.to_] by unfold meantI; rw [← HO.out]; rfl)
      rw [HE.out]
      go_enter Try.func22, Try.ntmps22
      go_upto_region 2 with (fail)
      rw [← HW1.out, ← HA.out]
      have hc1 : Hid (Below w.heap.size w (W1.alloc (.cells #[.int .i64 i.to_] 3))) := hide (HB1.out.alloc HB1.out.size _)
      have hsz : Hid (w.heap.size ≤ W1.heap.size) := hide HB1.out.size
      go_wp2_with (first
        | (at_builtin
           refine wpList_append_any _ rfl (.tmp 11) (.tmp 14) _ rfl w.heap.size 3 i0 _ 1 8 Try.underlying22 hi0 hz0 hz1 hz2 rfl (by omega) (.slice none 0 0) 0 [] rfl (World.ownsRow_nil _ _ _ _) (W1.heap.size + 1) (some ⟨W1.heap.size, 0, none⟩) 1 1 [.int .i64 i.to_] rfl ⟨rfl, fun _ => ⟨_, rfl, Nat.lt_succ_self _, cell_one_new _ _ _⟩⟩ (by intro u hu; simp at hu; subst hu; rfl) (by simp [maxLen]) (by omega) (by simp; exact Nat.le_succ_of_le hsz.out) ?_
           intro v6 w6 hown6 hg6 hat6))
      go_ret
      exact ⟨v6, rfl, hown6, hc1.out.grown hg6 (by simp; exact Nat.le_succ_of_le hsz.out) (by simp [Value.ownBlock])⟩
  · subst h19
    have HE := hide (show meantI i = [i.to_] by unfold meantI; rw [← HO.out]; rfl)
    rw [HE.out]
    go_enter Try.func22, Try.ntmps22
    go_upto_region 2 with (fail)
    rw [← HW1.out, ← HA.out]
    have hc1 : Hid (Below w.heap.size w (W1.alloc (.cells #[.int .i64 i.to_] 3))) := hide (HB1.out.alloc HB1.out.size _)
    have hsz : Hid (w.heap.size ≤ W1.heap.size) := hide HB1.out.size
    go_wp2_with (first
      | (at_builtin
         refine wpList_append_any _ rfl (.tmp 11) (.tmp 14) _ rfl w.heap.size 3 i0 _ 1 8 Try.underlying22 hi0 hz0 hz1 hz2 rfl (by omega) (.slice none 0 0) 0 [] rfl (World.ownsRow_nil _ _ _ _) (W1.heap.size + 1) (some ⟨W1.heap.size, 0, none⟩) 1 1 [.int .i64 i.to_] rfl ⟨rfl, fun _ => ⟨_, rfl, Nat.lt_succ_self _, cell_one_new _ _ _⟩⟩ (by intro u hu; simp at hu; subst hu; rfl) (by simp [maxLen]) (by omega) (by simp; exact Nat.le_succ_of_le hsz.out) ?_
         intro v6 w6 hown6 hg6 hat6))
    go_ret
    exact ⟨v6, rfl, hown6, hc1.out.grown hg6 (by simp; exact Nat.le_succ_of_le hsz.out) (by simp [Value.ownBlock])⟩
end Go.Proofs.Ytfdjomkkagommaa
