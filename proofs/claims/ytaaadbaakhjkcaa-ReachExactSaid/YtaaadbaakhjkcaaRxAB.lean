/- The reference's rows of registers (run), its count and Ends; conditions: the rows are the caller's own. -/
import Derived.Test.YtaaadbaakhjkcaaRcGI
namespace Go.Proofs.Ytaaadbaakhjkcaa
open Go.RowKit Go.WideShapes Go.ChangeShapes
set_option linter.unusedVariables false
set_option linter.unusedSimpArgs false
set_option maxRecDepth 100000

def OwnP (w : World) (B : Nat) (L : List Int) (e : Ending) (w' : World) : Prop := ∃ v', e = .returned v' ∧ w'.ownsRow B 3 1 v' L.length (L.map iI) ∧ Below B w w'
theorem runN_nat (n : Int) : ∃ m : Nat, runN n = (m : Int) ∧ m ≤ 65536 := ⟨(runN n).toNat, by have := runN_le n; omega, by have := runN_le n; omega⟩
set_option maxHeartbeats 4000000 in
theorem rrun_any (B : Nat) (out : Value) (xs : List Int) (fr n : Int) (w : World) (hB : B ≤ w.heap.size) (h : w.ownsRow B 3 1 out xs.length (xs.map iI)) (hx : xs.length ≤ 1000000000) :
    Calls Try.prog 73 #[out, .int .i64 fr, .int .i64 n] w (OwnP w B (xs ++ partS ⟨fr, runN n⟩ (runN n).toNat)) := by
  obtain ⟨i0, hi0, hz0, hz1, hz2⟩ := info_parts intInfoT
  obtain ⟨A, c, rfl⟩ := own_formT h
  obtain ⟨lx, hlx⟩ : ∃ lx, lx = xs.length := ⟨_, rfl⟩
  rw [← hlx] at h ⊢
  obtain ⟨m, hm, hm2⟩ := runN_nat n
  have HO := hide h
  have HB := hide hB
  have HX := hide (And.intro hlx hx)
  have HM := hide (And.intro hm hm2)
  have HW0 := hide (show Below B w w from Below.refl _ _)
  have HMI := hide (show ∀ j : Nat, (j < m → (j : Int) < n ∧ j < 65536) ∧ (¬ j < m → j ≤ m → ¬ (j : Int) < n ∨ ¬ j < 65536) by
    intro j
    unfold runN at hm
    constructor
    · intro h1
      omega
    · intro h1 h2
      omega)
  clear h hB hlx hx hm hm2
  go_enter Try.func73, Try.ntmps73
  go_upto_region 2 with (fail)
  go_loopw [0, 7] (fun ov kv wr => ∃ (j : Nat) (A : Option Addr) (c : Nat), j ≤ m ∧ ov = .slice A (lx + j) c ∧ kv = .int .i64 (j : Int) ∧ Hid (wr.ownsRow B 3 1 (.slice A (lx + j) c) (lx + j) ((xs ++ partS ⟨fr, runN n⟩ j).map iI)) ∧ Hid (Below B w wr)) (fun _ kv _ => m - (intOf kv).toNat)
  case atStart => exact ⟨0, A, c, Nat.zero_le _, rfl, rfl, hide (by rw [show partS ⟨fr, runN n⟩ 0 = [] from rfl, List.append_nil]; exact HO.out), HW0⟩
  case round =>
    obtain ⟨j, A, c, hj, rfl, rfl, HOj, HWj⟩ := hrel
    have hmi := HMI.out j
    have q5 : IntKind.i64.wrap ((j : Int) + 1) = ((j + 1 : Nat) : Int) := by rw [show (j : Int) + 1 = ((j + 1 : Nat) : Int) by omega]; exact IntWalk.i64_in _ (by have := HM.out; omega)
    obtain ⟨jn, hjn⟩ : ∃ jn, jn = j + 1 := ⟨_, rfl⟩
    rw [← hjn] at q5
    have HJN := hide hjn
    obtain ⟨lj, hlj⟩ : ∃ lj, lj = lx + j := ⟨_, rfl⟩
    rw [← hlj] at HOj ⊢
    have HLJ := hide hlj
    clear hjn hlj
    by_cases hlt : j < m
    · obtain ⟨k1, k2⟩ := hmi.1 hlt
      have k3 : (j : Int) < 65536 := by omega
      obtain ⟨fv, hfv⟩ : ∃ fv, fv = IntKind.i64.wrap (fr + (j : Int)) := ⟨_, rfl⟩
      have q6 : IntKind.i64.wrap (fr + (j : Int)) = fv := hfv.symm
      have HLT := hide hlt
      have HPS := hide (show xs ++ partS ⟨fr, runN n⟩ (j + 1) = (xs ++ partS ⟨fr, runN n⟩ j) ++ [fv] by rw [partS_snoc, hfv, List.append_assoc])
      have HBD := hide (show lj ≤ 1000100000 by have := HLJ.out; have := HX.out; have := HM.out; omega)
      clear hfv hlt hmi k2
      obtain ⟨N9W, hN9W⟩ : ∃ W, W = wr.alloc (.cells #[.int .i64 (fv)] 3) := ⟨_, rfl⟩
      have hN9b : Below wr.heap.size wr N9W := by rw [hN9W]; exact (Below.refl _ _).alloc (Nat.le_refl _) _
      have N9O := hide (own_belowT HOj.out hN9b)
      have N9B := hide ((HWj.out).trans (hN9b.mono (Nat.le_trans HB.out (HWj.out).size)))
      have N9 := hide (show N9W = wr.alloc (.cells #[.int .i64 (fv)] 3) ∧ Blk N9W wr.heap.size 3 #[.int .i64 (fv)] ∧ B ≤ N9W.heap.size from ⟨hN9W, by rw [hN9W]; exact Blk.new _ _ _, Nat.le_trans HB.out N9B.out.size⟩)
      clear hN9W hN9b
      go_upto_region 3 with (first
        | (at_builtin
           rw [← N9.out.1]
           refine wpList_append_any _ rfl (.tmp 17) (.tmp 21) _ rfl B 3 i0 _ 1 8 Try.underlying23 hi0 hz0 hz1 hz2 rfl (by omega) (.slice A lj c) lj _ rfl N9O.out (wr.heap.size + 1) (some ⟨wr.heap.size, 0, none⟩) 1 1 [.int .i64 (fv)] rfl ?rd ?on ?b1 ?b2 ?sz ?_
           case rd => exact ⟨rfl, fun _ => ⟨_, rfl, Nat.lt_succ_self _, fun q u hu => by rw [Addr.add_lit, Nat.zero_add, N9.out.2.1.cell q]; simpa using hu⟩⟩
           case on => (intro u hu; simp at hu; subst hu; rfl)
           case b1 => (have := HBD.out; simp only [maxLen]; omega)
           case b2 => (have := HBD.out; omega)
           case sz => exact N9.out.2.2
           intro v10 w10 hown10 hg10 hat10
           have HB10 := hide (N9B.out.grown hg10 (Nat.le_trans HB.out N9B.out.size) (fun q hq => (N9O.out.lt q hq).1))
           have HO10 := hide (show w10.ownsRow B 3 1 v10 (lj + 1) ((xs ++ partS ⟨fr, runN n⟩ (j + 1)).map iI) by rw [HPS.out, List.map_append]; exact hown10)
           obtain ⟨A10, c10, rfl⟩ := own_formT hown10
           clear hown10 hg10 hat10))
      clear q6
      go_wp2_with fail
      go_roundw
      case rel => exact ⟨j + 1, A10, c10, by have := HLT.out; omega, by rw [HLJ.out]; rfl, by rw [HJN.out], by rw [← Nat.add_assoc, ← HLJ.out]; exact HO10, HB10⟩
      case measure => rw [HJN.out]; simp [intOf]; have := HLT.out; omega
    · have HJE := hide (show j = m by omega)
      have hmi2 := hmi.2 hlt hj
      have HFIN := hide (show OwnP w B (xs ++ partS ⟨fr, runN n⟩ (runN n).toNat) (.returned (.slice A lj c)) wr by
        refine ⟨_, rfl, ?_, HWj.out⟩
        have h := HOj.out
        rw [HJE.out, show m = (runN n).toNat by have := HM.out; omega] at h
        have hl : (xs ++ partS ⟨fr, runN n⟩ (runN n).toNat).length = lj := by rw [List.length_append, partS_len, HLJ.out, HX.out.1, HJE.out]; have := HM.out; omega
        rw [hl]
        exact h)
      by_cases k1 : (j : Int) < n
      · have k3 : ¬ (j : Int) < 65536 := by omega
        clear hmi hmi2 hlt hj
        go_wp2_with fail
        go_ret
        exact HFIN.out
      · clear hmi hmi2 hlt hj
        go_wp2_with fail
        go_ret
        exact HFIN.out
end Go.Proofs.Ytaaadbaakhjkcaa

namespace Go.Proofs.Ytaaadbaakhjkcaa
open Go.RowKit Go.WideShapes Go.ChangeShapes
set_option linter.unusedVariables false
set_option linter.unusedSimpArgs false
set_option maxRecDepth 100000

def rowR (op : Int) : ByteArray × ByteArray :=
  if op = 1 ∨ op = 3 ∨ op = 6 ∨ op = 9 ∨ op = 10 ∨ op = 27 ∨ op = 29 then (⟨#[]⟩, ⟨#[100]⟩) else
  if op = 2 then (⟨#[65]⟩, ⟨#[68]⟩) else
  if op = 4 ∨ op = 13 ∨ op = 20 ∨ op = 26 ∨ op = 36 then (⟨#[97]⟩, ⟨#[]⟩) else
  if op = 5 then (⟨#[65]⟩, ⟨#[]⟩) else
  if op = 11 ∨ op = 35 then (⟨#[97]⟩, ⟨#[68]⟩) else
  if op = 12 ∨ op = 34 then (⟨#[97, 66]⟩, ⟨#[]⟩) else
  if op = 14 ∨ op = 18 ∨ op = 30 ∨ op = 32 ∨ op = 33 ∨ op = 39 then (⟨#[97]⟩, ⟨#[100]⟩) else
  if op = 15 ∨ op = 16 ∨ op = 17 then (⟨#[97, 98]⟩, ⟨#[100]⟩) else
  if op = 21 then (⟨#[97, 115]⟩, ⟨#[68]⟩) else
  if op = 22 then (⟨#[115]⟩, ⟨#[77]⟩) else
  if op = 23 ∨ op = 38 then (⟨#[115]⟩, ⟨#[]⟩) else
  if op = 24 ∨ op = 25 then (⟨#[103, 115]⟩, ⟨#[]⟩) else
  if op = 28 then (⟨#[115]⟩, ⟨#[100]⟩) else
  if op = 31 then (⟨#[97, 112]⟩, ⟨#[100]⟩) else
  (⟨#[]⟩, ⟨#[]⟩)
set_option maxHeartbeats 16000000 in
theorem rrow_any (op : Int) (h : 1 ≤ op ∧ op ≤ 41) (w : World) : Calls Try.prog 71 #[.int .i64 op] w fun e w' => e = .returned (.tuple #[.string (rowR op).1, .string (rowR op).2]) ∧ w' = w := by
  have hc : op = 1 ∨ op = 2 ∨ op = 3 ∨ op = 4 ∨ op = 5 ∨ op = 6 ∨ op = 7 ∨ op = 8 ∨ op = 9 ∨ op = 10 ∨ op = 11 ∨ op = 12 ∨ op = 13 ∨ op = 14 ∨ op = 15 ∨ op = 16 ∨ op = 17 ∨ op = 18 ∨ op = 19 ∨ op = 20 ∨ op = 21 ∨ op = 22 ∨ op = 23 ∨ op = 24 ∨ op = 25 ∨ op = 26 ∨ op = 27 ∨ op = 28 ∨ op = 29 ∨ op = 30 ∨ op = 31 ∨ op = 32 ∨ op = 33 ∨ op = 34 ∨ op = 35 ∨ op = 36 ∨ op = 37 ∨ op = 38 ∨ op = 39 ∨ op = 40 ∨ op = 41 := by omega
  clear h
  rcases hc with rfl | rfl | rfl | rfl | rfl | rfl | rfl | rfl | rfl | rfl | rfl | rfl | rfl | rfl | rfl | rfl | rfl | rfl | rfl | rfl | rfl | rfl | rfl | rfl | rfl | rfl | rfl | rfl | rfl | rfl | rfl | rfl | rfl | rfl | rfl | rfl | rfl | rfl | rfl | rfl | rfl <;>
  · go_enter Try.func71, Try.ntmps71
    go_wp2_with fail
    go_ret2
    exact ⟨rfl, rfl⟩
theorem rcount_any (n : Int) (w : World) : Calls Try.prog 44 #[.int .i64 n] w fun e w' => e = .returned (.bool (countB n)) ∧ w' = w := by
  by_cases h1 : 0 ≤ n
  · by_cases h2 : n ≤ 65536
    · have HE := hide (show countB n = true from decide_eq_true ⟨h1, h2⟩)
      go_enter Try.func44, Try.ntmps44
      go_wp2_with fail
      go_ret
      exact ⟨ret_bS HE.out.symm, rfl⟩
    · have HE := hide (show countB n = false from decide_eq_false (fun h => h2 h.2))
      go_enter Try.func44, Try.ntmps44
      go_wp2_with fail
      go_ret
      exact ⟨ret_bS HE.out.symm, rfl⟩
  · have HE := hide (show countB n = false from decide_eq_false (fun h => h1 h.1))
    go_enter Try.func44, Try.ntmps44
    go_wp2_with fail
    go_ret
    exact ⟨ret_bS HE.out.symm, rfl⟩
set_option maxHeartbeats 4000000 in
theorem rends_any (i : Ins) (av rv : Value) (w : World) : Calls Try.prog 43 #[i.val av rv] w (BoolP w (endsB i.op)) := by
  obtain ⟨a, ha⟩ : ∃ a, a = w.heap.size := ⟨_, rfl⟩
  obtain ⟨W1, hW1⟩ : ∃ W1, W1 = w.alloc (.cells (i.arr av rv) 45) := ⟨_, rfl⟩
  have hb1 : Below w.heap.size w W1 := by rw [hW1]; exact (Below.refl _ _).alloc (Nat.le_refl _) _
  have hba : Blk W1 a 45 (i.arr av rv) := by rw [hW1, ha]; exact Blk.new _ _ _
  have z0 : W1.cell? ⟨a, 0, none⟩ = some (.int .i64 i.op) := hba.cell 0
  have HB1 := hide hb1
  have HW1 := hide hW1
  have HA := hide ha
  have HBA := hide hba
  obtain ⟨o, ho⟩ : ∃ o, o = i.op := ⟨_, rfl⟩
  rw [← ho] at z0 ⊢
  clear hb1 hW1 ha hba ho
  go_enter Try.func43, Try.ntmps43
  go_upto_region 1 with (fail)
  rw [← HW1.out, ← HA.out]
  go_wp2_with fail
  all_goals go_ret
  all_goals exact ⟨ret_bS (by unfold endsB; first | rfl | simp_all), HB1.out⟩
end Go.Proofs.Ytaaadbaakhjkcaa
