/- The registers that letters say (the reference's letters); conditions: the instruction is in memory. -/
import Derived.Test.YtaaadbaakhjkcaaRxAB
namespace Go.Proofs.Ytaaadbaakhjkcaa
open Go.RowKit Go.WideShapes Go.ChangeShapes
set_option linter.unusedVariables false
set_option linter.unusedSimpArgs false
set_option maxRecDepth 100000

def runL (r n : Int) : List Int := partS ⟨r, runN n⟩ (runN n).toNat
theorem runL_len (r n : Int) : (runL r n).length ≤ 65536 := by unfold runL; rw [partS_len]; have := runN_le n; omega
def letL (i : Ins) (b : Nat) : List Int :=
  if b = 97 then [i.a] else if b = 98 then [i.b] else if b = 100 then [i.d] else if b = 65 then runL i.a i.n else if b = 66 then runL i.b i.n else if b = 68 then runL i.d i.n else if b = 77 then runL i.d i.m
  else if b = 103 then (if i.a = -1 then [] else [i.a]) else if b = 115 then i.args else if b = 112 then i.args.flatMap (fun r => runL r i.m) else []
def lettersL (i : Ins) (s : List UInt8) : List Int := s.flatMap (fun b => letL i b.toNat)
theorem runsL_len (m : Int) : ∀ l : List Int, (l.flatMap (fun r => runL r m)).length ≤ l.length * 65536
  | [] => by simp
  | x :: l => by
    have h1 := runL_len x m
    have h2 := runsL_len m l
    rw [List.flatMap_cons, List.length_append, List.length_cons, Nat.succ_mul]
    omega
theorem letL_len (i : Ins) (b : Nat) (h : i.args.length ≤ 100) : (letL i b).length ≤ 6553700 := by
  have h1 := runL_len i.a i.n
  have h2 := runL_len i.b i.n
  have h3 := runL_len i.d i.n
  have h4 := runL_len i.d i.m
  have h5 := runsL_len i.m i.args
  have h6 : i.args.length * 65536 ≤ 100 * 65536 := Nat.mul_le_mul_right _ h
  unfold letL
  split
  · simp
  split
  · simp
  split
  · simp
  split
  · omega
  split
  · omega
  split
  · omega
  split
  · omega
  split
  · split <;> simp
  split
  · omega
  split
  · omega
  · simp
theorem lettersL_len (i : Ins) (h : i.args.length ≤ 100) : ∀ s : List UInt8, (lettersL i s).length ≤ s.length * 6553700
  | [] => by simp [lettersL]
  | x :: l => by
    have h1 := letL_len i x.toNat h
    have h2 := lettersL_len i h l
    unfold lettersL at *
    rw [List.flatMap_cons, List.length_append, List.length_cons, Nat.succ_mul]
    omega
set_option maxHeartbeats 16000000 in
theorem letters_any (s : ByteArray) (i : Ins) (av rv : Value) (w : World) (h : InsOk w i av rv) (hs : s.size ≤ 10) (hn : i.args.length ≤ 100) :
    Calls Try.prog 72 #[.string s, i.val av rv] w (RowP w (lettersL i s.data.toList)) := by
  obtain ⟨i0, hi0, hz0, hz1, hz2⟩ := info_parts intInfoT
  obtain ⟨Aa, ca, rfl⟩ := h.ar.form
  obtain ⟨ma, hma⟩ : ∃ ma, ma = i.args.length := ⟨_, rfl⟩
  rw [← hma] at h hn ⊢
  obtain ⟨a, ha⟩ : ∃ a, a = w.heap.size := ⟨_, rfl⟩
  obtain ⟨W1, hW1⟩ : ∃ W1, W1 = w.alloc (.cells (i.arr (.slice Aa ma ca) rv) 45) := ⟨_, rfl⟩
  have hb1 : Below w.heap.size w W1 := by rw [hW1]; exact (Below.refl _ _).alloc (Nat.le_refl _) _
  have HBA := hide (show Blk W1 a 45 (i.arr (.slice Aa ma ca) rv) by rw [hW1, ha]; exact Blk.new _ _ _)
  obtain ⟨B, hB⟩ : ∃ B, B = W1.heap.size := ⟨_, rfl⟩
  obtain ⟨W2, hW2⟩ : ∃ W2, W2 = W1.alloc (.cells #[] 3) := ⟨_, rfl⟩
  have HO2 := hide (show W2.ownsRow B 3 1 (.slice (some ⟨B, 0, none⟩) 0 0) 0 ((lettersL i (s.data.toList.take 0)).map iI) from ⟨rfl, .inr ⟨B, 0, #[], rfl, Nat.le_refl _, by rw [hW2, hB]; exact Blk.new _ _ _, Nat.le_refl _, by simp only [maxLen]; omega, rfl, rfl⟩⟩)
  have HB2 := hide (show Below B W1 W2 by rw [hW2, hB]; exact (Below.refl _ _).alloc (Nat.le_refl _) _)
  have HB := hide (show B ≤ W1.heap.size from Nat.le_of_eq hB)
  have HAR := hide (show IntsAt W1 (.slice Aa ma ca) i.args from h.ar.below hb1 (Nat.le_refl _))
  have HAB := hide (show a < B by rw [hB]; exact HBA.out.lt)
  obtain ⟨sl, hsl⟩ : ∃ sl, sl = s.size := ⟨_, rfl⟩
  have HSL := hide (show sl = s.data.toList.length ∧ sl ≤ 10 ∧ sl = s.size from ⟨by rw [hsl]; exact Array.length_toList.symm, by omega, hsl⟩)
  have HBX := hide (fun (k : Nat) => show (lettersL i (s.data.toList.take k)).length ≤ 65537000 by
    have h1 := lettersL_len i (by rw [← hma]; exact hn) (s.data.toList.take k)
    have h2 : (s.data.toList.take k).length * 6553700 ≤ 10 * 6553700 := Nat.mul_le_mul_right _ (by rw [List.length_take, ← HSL.out.1]; have := HSL.out.2.1; omega)
    omega)
  have HMA := hide (And.intro hma hn)
  have HB1 := hide hb1
  have HW1 := hide hW1
  have HW2 := hide hW2
  have HA := hide ha
  have HBE := hide hB
  obtain ⟨fa, hfa⟩ : ∃ x, x = i.a := ⟨_, rfl⟩
  obtain ⟨fb, hfb⟩ : ∃ x, x = i.b := ⟨_, rfl⟩
  obtain ⟨fd, hfd⟩ : ∃ x, x = i.d := ⟨_, rfl⟩
  obtain ⟨fn, hfn⟩ : ∃ x, x = i.n := ⟨_, rfl⟩
  obtain ⟨fm, hfm⟩ : ∃ x, x = i.m := ⟨_, rfl⟩
  have HFI := hide (And.intro hfa (And.intro hfb (And.intro hfd (And.intro hfn hfm))))
  have HCS := hide (fun wr (hw : Below B W1 wr) => show wr.cell? ⟨a, 1, none⟩ = some (.int .i64 fd) ∧ wr.cell? ⟨a, 2, none⟩ = some (.int .i64 fa) ∧ wr.cell? ⟨a, 3, none⟩ = some (.int .i64 fb) ∧ wr.cell? ⟨a, 4, none⟩ = some (.int .i64 fn) ∧ wr.cell? ⟨a, 5, none⟩ = some (.int .i64 fm) ∧ wr.cell? ⟨a, 12, none⟩ = some (.slice Aa ma ca) from by
    have hb := HBA.out.below hw HAB.out
    rw [hfa, hfb, hfd, hfn, hfm]
    exact ⟨hb.cell 1, hb.cell 2, hb.cell 3, hb.cell 4, hb.cell 5, hb.cell 12⟩)
  clear h hs hn hma ha hW1 hb1 hB hW2 hsl hfa hfb hfd hfn hfm
  go_enter Try.func72, Try.ntmps72
  go_upto_region 1 with (fail)
  rw [← HW1.out, ← HA.out]
  go_upto_region 3 with (fail)
  rw [← HBE.out, ← HW2.out]
  go_loopw [5, 6] (fun ov kv wr => ∃ (k lk : Nat) (A : Option Addr) (c : Nat), k ≤ sl ∧ ov = .slice A lk c ∧ kv = .int .i64 (k : Int) ∧ Hid (lk = (lettersL i (s.data.toList.take k)).length) ∧ Hid (wr.ownsRow B 3 1 (.slice A lk c) lk ((lettersL i (s.data.toList.take k)).map iI)) ∧ Hid (Below B W1 wr)) (fun _ kv _ => sl - (intOf kv).toNat)
  case atStart => exact ⟨0, 0, _, 0, Nat.zero_le _, rfl, rfl, hide rfl, HO2, HB2⟩
  case round =>
    clear HO2 HB2
    obtain ⟨k, lk, A, c, hk, rfl, rfl, HLK, HO, HWR⟩ := hrel
    have hss : s.size = sl := HSL.out.2.2.symm
    by_cases hlt : k < sl
    · have k1 : (k : Int) < (sl : Int) := by omega
      have k2 : (0 : Int) ≤ (k : Int) := by omega
      have q5 : IntKind.i64.wrap ((k : Int) + 1) = ((k + 1 : Nat) : Int) := by rw [show (k : Int) + 1 = ((k + 1 : Nat) : Int) by omega]; exact IntWalk.i64_in _ (by have := HSL.out; omega)
      obtain ⟨kn, hkn⟩ : ∃ kn, kn = k + 1 := ⟨_, rfl⟩
      rw [← hkn] at q5
      have HKN := hide hkn
      have HLT := hide hlt
      have hkl : k < s.data.toList.length := by rw [← HSL.out.1]; exact hlt
      obtain ⟨bt, hbt⟩ : ∃ bt, s.data.toList[k]? = some bt := ⟨_, List.getElem?_eq_getElem hkl⟩
      obtain ⟨bv, hbv⟩ : ∃ bv, bv = bt.toNat := ⟨_, rfl⟩
      have hix : ∀ W : World, (Instr.index 9 (.string s) (.int .i64 (k : Int))).run Try.prog W = .ok (.int .u8 (bv : Int)) W := fun W => by
        rw [run_index_string W 9 s .i64 (k : Int) Try.underlying9, dif_pos ⟨by omega, by omega⟩]
        have e3 : s[((k : Int)).toNat]'(by omega) = bt := by
          have h1 : s.data.toList[k]'hkl = bt := by
            rw [List.getElem?_eq_getElem hkl] at hbt
            injection hbt
          rw [← h1, Array.getElem_toList]
          rfl
        rw [e3, hbv]
      have HLX := hide (show lettersL i (s.data.toList.take (k + 1)) = lettersL i (s.data.toList.take k) ++ letL i bv by
        unfold lettersL
        rw [List.take_add_one, hbt, List.flatMap_append, hbv]
        simp)
      have HLKB := hide (show lk ≤ 65537000 by rw [HLK.out]; exact HBX.out k)
      clear hkn hlt hkl hbt hbv
      obtain ⟨c1, c2, c3, c4, c5, c12⟩ := HCS.out wr HWR.out
      by_cases a97 : bv = 97
      · have hiy : ∀ W : World, (Instr.index 9 (.string s) (.int .i64 (k : Int))).run Try.prog W = .ok (.int .u8 97) W := fun W => by rw [hix W, a97]; rfl
        clear hix
        have HLL := hide (show lettersL i (s.data.toList.take (k + 1)) = lettersL i (s.data.toList.take k) ++ [fa] by
          rw [HLX.out]
          congr 1
          unfold letL
          rw [if_pos a97]; rw [HFI.out.1])
        obtain ⟨N9W, hN9W⟩ : ∃ W, W = wr.alloc (.cells #[.int .i64 (fa)] 3) := ⟨_, rfl⟩
        have hN9b : Below wr.heap.size wr N9W := by rw [hN9W]; exact (Below.refl _ _).alloc (Nat.le_refl _) _
        have N9O := hide (own_belowT HO.out hN9b)
        have N9B := hide ((HWR.out).trans (hN9b.mono (Nat.le_trans HB.out (HWR.out).size)))
        have N9 := hide (show N9W = wr.alloc (.cells #[.int .i64 (fa)] 3) ∧ Blk N9W wr.heap.size 3 #[.int .i64 (fa)] ∧ B ≤ N9W.heap.size from ⟨hN9W, by rw [hN9W]; exact Blk.new _ _ _, Nat.le_trans HB.out N9B.out.size⟩)
        clear hN9W hN9b
        go_upto_region 4 with (first
          | (at_builtin
             rw [← N9.out.1]
             refine wpList_append_any _ rfl (.tmp 20) (.tmp 23) _ rfl B 3 i0 _ 1 8 Try.underlying23 hi0 hz0 hz1 hz2 rfl (by omega) (.slice A lk c) lk _ rfl N9O.out (wr.heap.size + 1) (some ⟨wr.heap.size, 0, none⟩) 1 1 [.int .i64 (fa)] rfl ?rd ?on ?b1 ?b2 ?sz ?_
             case rd => exact ⟨rfl, fun _ => ⟨_, rfl, Nat.lt_succ_self _, fun q u hu => by rw [Addr.add_lit, Nat.zero_add, N9.out.2.1.cell q]; simpa using hu⟩⟩
             case on => (intro u hu; simp at hu; subst hu; rfl)
             case b1 => (have := HLKB.out; simp only [maxLen]; omega)
             case b2 => (have := HLKB.out; omega)
             case sz => exact N9.out.2.2
             intro v10 w10 hown10 hg10 hat10
             have HB10 := hide (N9B.out.grown hg10 (Nat.le_trans HB.out N9B.out.size) (fun q hq => (N9O.out.lt q hq).1))
             have HO10 := hide (show w10.ownsRow B 3 1 v10 (lk + 1) ((lettersL i (s.data.toList.take (k + 1))).map iI) by rw [HLL.out, List.map_append]; exact hown10)
             have HL10 := hide (show lk + 1 = (lettersL i (s.data.toList.take (k + 1))).length by rw [HLL.out, List.length_append, ← HLK.out]; rfl)
             obtain ⟨A10, c10, rfl⟩ := own_formT hown10
             clear hown10 hg10 hat10))
        go_wp2_with fail
        go_roundw
        case rel => exact ⟨k + 1, lk + 1, A10, c10, by have := HLT.out; omega, rfl, by rw [HKN.out], HL10, HO10, HB10⟩
        case measure => rw [HKN.out]; simp [intOf]; have := HLT.out; omega
      have n97 : ¬ (bv : Int) = 97 := by omega
      have m97 : ((bv : Int) == 97) = false := by simp; omega
      by_cases a98 : bv = 98
      · have hiy : ∀ W : World, (Instr.index 9 (.string s) (.int .i64 (k : Int))).run Try.prog W = .ok (.int .u8 98) W := fun W => by rw [hix W, a98]; rfl
        clear hix
        clear n97 m97
        have HLL := hide (show lettersL i (s.data.toList.take (k + 1)) = lettersL i (s.data.toList.take k) ++ [fb] by
          rw [HLX.out]
          congr 1
          unfold letL
          rw [if_neg a97]; rw [if_pos a98]; rw [HFI.out.2.1])
        obtain ⟨N9W, hN9W⟩ : ∃ W, W = wr.alloc (.cells #[.int .i64 (fb)] 3) := ⟨_, rfl⟩
        have hN9b : Below wr.heap.size wr N9W := by rw [hN9W]; exact (Below.refl _ _).alloc (Nat.le_refl _) _
        have N9O := hide (own_belowT HO.out hN9b)
        have N9B := hide ((HWR.out).trans (hN9b.mono (Nat.le_trans HB.out (HWR.out).size)))
        have N9 := hide (show N9W = wr.alloc (.cells #[.int .i64 (fb)] 3) ∧ Blk N9W wr.heap.size 3 #[.int .i64 (fb)] ∧ B ≤ N9W.heap.size from ⟨hN9W, by rw [hN9W]; exact Blk.new _ _ _, Nat.le_trans HB.out N9B.out.size⟩)
        clear hN9W hN9b
        go_upto_region 4 with (first
          | (at_builtin
             rw [← N9.out.1]
             refine wpList_append_any _ rfl (.tmp 27) (.tmp 30) _ rfl B 3 i0 _ 1 8 Try.underlying23 hi0 hz0 hz1 hz2 rfl (by omega) (.slice A lk c) lk _ rfl N9O.out (wr.heap.size + 1) (some ⟨wr.heap.size, 0, none⟩) 1 1 [.int .i64 (fb)] rfl ?rd ?on ?b1 ?b2 ?sz ?_
             case rd => exact ⟨rfl, fun _ => ⟨_, rfl, Nat.lt_succ_self _, fun q u hu => by rw [Addr.add_lit, Nat.zero_add, N9.out.2.1.cell q]; simpa using hu⟩⟩
             case on => (intro u hu; simp at hu; subst hu; rfl)
             case b1 => (have := HLKB.out; simp only [maxLen]; omega)
             case b2 => (have := HLKB.out; omega)
             case sz => exact N9.out.2.2
             intro v10 w10 hown10 hg10 hat10
             have HB10 := hide (N9B.out.grown hg10 (Nat.le_trans HB.out N9B.out.size) (fun q hq => (N9O.out.lt q hq).1))
             have HO10 := hide (show w10.ownsRow B 3 1 v10 (lk + 1) ((lettersL i (s.data.toList.take (k + 1))).map iI) by rw [HLL.out, List.map_append]; exact hown10)
             have HL10 := hide (show lk + 1 = (lettersL i (s.data.toList.take (k + 1))).length by rw [HLL.out, List.length_append, ← HLK.out]; rfl)
             obtain ⟨A10, c10, rfl⟩ := own_formT hown10
             clear hown10 hg10 hat10))
        go_wp2_with fail
        go_roundw
        case rel => exact ⟨k + 1, lk + 1, A10, c10, by have := HLT.out; omega, rfl, by rw [HKN.out], HL10, HO10, HB10⟩
        case measure => rw [HKN.out]; simp [intOf]; have := HLT.out; omega
      have n98 : ¬ (bv : Int) = 98 := by omega
      have m98 : ((bv : Int) == 98) = false := by simp; omega
      by_cases a100 : bv = 100
      · have hiy : ∀ W : World, (Instr.index 9 (.string s) (.int .i64 (k : Int))).run Try.prog W = .ok (.int .u8 100) W := fun W => by rw [hix W, a100]; rfl
        clear hix
        clear n97 m97
        clear n98 m98
        have HLL := hide (show lettersL i (s.data.toList.take (k + 1)) = lettersL i (s.data.toList.take k) ++ [fd] by
          rw [HLX.out]
          congr 1
          unfold letL
          rw [if_neg a97]; rw [if_neg a98]; rw [if_pos a100]; rw [HFI.out.2.2.1])
        obtain ⟨N9W, hN9W⟩ : ∃ W, W = wr.alloc (.cells #[.int .i64 (fd)] 3) := ⟨_, rfl⟩
        have hN9b : Below wr.heap.size wr N9W := by rw [hN9W]; exact (Below.refl _ _).alloc (Nat.le_refl _) _
        have N9O := hide (own_belowT HO.out hN9b)
        have N9B := hide ((HWR.out).trans (hN9b.mono (Nat.le_trans HB.out (HWR.out).size)))
        have N9 := hide (show N9W = wr.alloc (.cells #[.int .i64 (fd)] 3) ∧ Blk N9W wr.heap.size 3 #[.int .i64 (fd)] ∧ B ≤ N9W.heap.size from ⟨hN9W, by rw [hN9W]; exact Blk.new _ _ _, Nat.le_trans HB.out N9B.out.size⟩)
        clear hN9W hN9b
        go_upto_region 4 with (first
          | (at_builtin
             rw [← N9.out.1]
             refine wpList_append_any _ rfl (.tmp 34) (.tmp 37) _ rfl B 3 i0 _ 1 8 Try.underlying23 hi0 hz0 hz1 hz2 rfl (by omega) (.slice A lk c) lk _ rfl N9O.out (wr.heap.size + 1) (some ⟨wr.heap.size, 0, none⟩) 1 1 [.int .i64 (fd)] rfl ?rd ?on ?b1 ?b2 ?sz ?_
             case rd => exact ⟨rfl, fun _ => ⟨_, rfl, Nat.lt_succ_self _, fun q u hu => by rw [Addr.add_lit, Nat.zero_add, N9.out.2.1.cell q]; simpa using hu⟩⟩
             case on => (intro u hu; simp at hu; subst hu; rfl)
             case b1 => (have := HLKB.out; simp only [maxLen]; omega)
             case b2 => (have := HLKB.out; omega)
             case sz => exact N9.out.2.2
             intro v10 w10 hown10 hg10 hat10
             have HB10 := hide (N9B.out.grown hg10 (Nat.le_trans HB.out N9B.out.size) (fun q hq => (N9O.out.lt q hq).1))
             have HO10 := hide (show w10.ownsRow B 3 1 v10 (lk + 1) ((lettersL i (s.data.toList.take (k + 1))).map iI) by rw [HLL.out, List.map_append]; exact hown10)
             have HL10 := hide (show lk + 1 = (lettersL i (s.data.toList.take (k + 1))).length by rw [HLL.out, List.length_append, ← HLK.out]; rfl)
             obtain ⟨A10, c10, rfl⟩ := own_formT hown10
             clear hown10 hg10 hat10))
        go_wp2_with fail
        go_roundw
        case rel => exact ⟨k + 1, lk + 1, A10, c10, by have := HLT.out; omega, rfl, by rw [HKN.out], HL10, HO10, HB10⟩
        case measure => rw [HKN.out]; simp [intOf]; have := HLT.out; omega
      have n100 : ¬ (bv : Int) = 100 := by omega
      have m100 : ((bv : Int) == 100) = false := by simp; omega
      by_cases a65 : bv = 65
      · have hiy : ∀ W : World, (Instr.index 9 (.string s) (.int .i64 (k : Int))).run Try.prog W = .ok (.int .u8 65) W := fun W => by rw [hix W, a65]; rfl
        clear hix
        clear n97 m97
        clear n98 m98
        clear n100 m100
        have HLL := hide (show lettersL i (s.data.toList.take (k + 1)) = lettersL i (s.data.toList.take k) ++ partS ⟨fa, runN fn⟩ (runN fn).toNat by
          rw [HLX.out]
          congr 1
          unfold letL
          rw [if_neg a97]; rw [if_neg a98]; rw [if_neg a100]; rw [if_pos a65]; rw [HFI.out.1, HFI.out.2.2.2.1]; rfl)
        have HRC := hide (rrun_any B (.slice A lk c) (lettersL i (s.data.toList.take k)) fa fn wr (Nat.le_trans HB.out HWR.out.size) (by rw [← HLK.out]; exact HO.out) (by rw [← HLK.out]; have := HLKB.out; omega))
        go_wp2_with fail
        refine HRC.out.mono ?_
        rintro e w9 ⟨v9, rfl, hown9, hb9⟩
        have hown9 : w9.ownsRow B 3 1 v9 (lettersL i (s.data.toList.take (k + 1))).length ((lettersL i (s.data.toList.take (k + 1))).map iI) := by rw [HLL.out]; exact hown9
        obtain ⟨l9, hl9⟩ : ∃ l9, l9 = (lettersL i (s.data.toList.take (k + 1))).length := ⟨_, rfl⟩
        rw [← hl9] at hown9
        have HL10 := hide hl9
        have HB10 := hide (HWR.out.trans hb9)
        have HO10 := hide hown9
        obtain ⟨A10, c10, rfl⟩ := own_formT hown9
        clear hl9 hb9 hown9
        go_wp2_with fail
        go_roundw
        case rel => exact ⟨k + 1, l9, A10, c10, by have := HLT.out; omega, rfl, by rw [HKN.out], HL10, HO10, HB10⟩
        case measure => rw [HKN.out]; simp [intOf]; have := HLT.out; omega
      have n65 : ¬ (bv : Int) = 65 := by omega
      have m65 : ((bv : Int) == 65) = false := by simp; omega
      by_cases a66 : bv = 66
      · have hiy : ∀ W : World, (Instr.index 9 (.string s) (.int .i64 (k : Int))).run Try.prog W = .ok (.int .u8 66) W := fun W => by rw [hix W, a66]; rfl
        clear hix
        clear n97 m97
        clear n98 m98
        clear n100 m100
        clear n65 m65
        have HLL := hide (show lettersL i (s.data.toList.take (k + 1)) = lettersL i (s.data.toList.take k) ++ partS ⟨fb, runN fn⟩ (runN fn).toNat by
          rw [HLX.out]
          congr 1
          unfold letL
          rw [if_neg a97]; rw [if_neg a98]; rw [if_neg a100]; rw [if_neg a65]; rw [if_pos a66]; rw [HFI.out.2.1, HFI.out.2.2.2.1]; rfl)
        have HRC := hide (rrun_any B (.slice A lk c) (lettersL i (s.data.toList.take k)) fb fn wr (Nat.le_trans HB.out HWR.out.size) (by rw [← HLK.out]; exact HO.out) (by rw [← HLK.out]; have := HLKB.out; omega))
        go_wp2_with fail
        refine HRC.out.mono ?_
        rintro e w9 ⟨v9, rfl, hown9, hb9⟩
        have hown9 : w9.ownsRow B 3 1 v9 (lettersL i (s.data.toList.take (k + 1))).length ((lettersL i (s.data.toList.take (k + 1))).map iI) := by rw [HLL.out]; exact hown9
        obtain ⟨l9, hl9⟩ : ∃ l9, l9 = (lettersL i (s.data.toList.take (k + 1))).length := ⟨_, rfl⟩
        rw [← hl9] at hown9
        have HL10 := hide hl9
        have HB10 := hide (HWR.out.trans hb9)
        have HO10 := hide hown9
        obtain ⟨A10, c10, rfl⟩ := own_formT hown9
        clear hl9 hb9 hown9
        go_wp2_with fail
        go_roundw
        case rel => exact ⟨k + 1, l9, A10, c10, by have := HLT.out; omega, rfl, by rw [HKN.out], HL10, HO10, HB10⟩
        case measure => rw [HKN.out]; simp [intOf]; have := HLT.out; omega
      have n66 : ¬ (bv : Int) = 66 := by omega
      have m66 : ((bv : Int) == 66) = false := by simp; omega
      by_cases a68 : bv = 68
      · have hiy : ∀ W : World, (Instr.index 9 (.string s) (.int .i64 (k : Int))).run Try.prog W = .ok (.int .u8 68) W := fun W => by rw [hix W, a68]; rfl
        clear hix
        clear n97 m97
        clear n98 m98
        clear n100 m100
        clear n65 m65
        clear n66 m66
        have HLL := hide (show lettersL i (s.data.toList.take (k + 1)) = lettersL i (s.data.toList.take k) ++ partS ⟨fd, runN fn⟩ (runN fn).toNat by
          rw [HLX.out]
          congr 1
          unfold letL
          rw [if_neg a97]; rw [if_neg a98]; rw [if_neg a100]; rw [if_neg a65]; rw [if_neg a66]; rw [if_pos a68]; rw [HFI.out.2.2.1, HFI.out.2.2.2.1]; rfl)
        have HRC := hide (rrun_any B (.slice A lk c) (lettersL i (s.data.toList.take k)) fd fn wr (Nat.le_trans HB.out HWR.out.size) (by rw [← HLK.out]; exact HO.out) (by rw [← HLK.out]; have := HLKB.out; omega))
        go_wp2_with fail
        refine HRC.out.mono ?_
        rintro e w9 ⟨v9, rfl, hown9, hb9⟩
        have hown9 : w9.ownsRow B 3 1 v9 (lettersL i (s.data.toList.take (k + 1))).length ((lettersL i (s.data.toList.take (k + 1))).map iI) := by rw [HLL.out]; exact hown9
        obtain ⟨l9, hl9⟩ : ∃ l9, l9 = (lettersL i (s.data.toList.take (k + 1))).length := ⟨_, rfl⟩
        rw [← hl9] at hown9
        have HL10 := hide hl9
        have HB10 := hide (HWR.out.trans hb9)
        have HO10 := hide hown9
        obtain ⟨A10, c10, rfl⟩ := own_formT hown9
        clear hl9 hb9 hown9
        go_wp2_with fail
        go_roundw
        case rel => exact ⟨k + 1, l9, A10, c10, by have := HLT.out; omega, rfl, by rw [HKN.out], HL10, HO10, HB10⟩
        case measure => rw [HKN.out]; simp [intOf]; have := HLT.out; omega
      have n68 : ¬ (bv : Int) = 68 := by omega
      have m68 : ((bv : Int) == 68) = false := by simp; omega
      by_cases a77 : bv = 77
      · have hiy : ∀ W : World, (Instr.index 9 (.string s) (.int .i64 (k : Int))).run Try.prog W = .ok (.int .u8 77) W := fun W => by rw [hix W, a77]; rfl
        clear hix
        clear n97 m97
        clear n98 m98
        clear n100 m100
        clear n65 m65
        clear n66 m66
        clear n68 m68
        have HLL := hide (show lettersL i (s.data.toList.take (k + 1)) = lettersL i (s.data.toList.take k) ++ partS ⟨fd, runN fm⟩ (runN fm).toNat by
          rw [HLX.out]
          congr 1
          unfold letL
          rw [if_neg a97]; rw [if_neg a98]; rw [if_neg a100]; rw [if_neg a65]; rw [if_neg a66]; rw [if_neg a68]; rw [if_pos a77]; rw [HFI.out.2.2.1, HFI.out.2.2.2.2]; rfl)
        have HRC := hide (rrun_any B (.slice A lk c) (lettersL i (s.data.toList.take k)) fd fm wr (Nat.le_trans HB.out HWR.out.size) (by rw [← HLK.out]; exact HO.out) (by rw [← HLK.out]; have := HLKB.out; omega))
        go_wp2_with fail
        refine HRC.out.mono ?_
        rintro e w9 ⟨v9, rfl, hown9, hb9⟩
        have hown9 : w9.ownsRow B 3 1 v9 (lettersL i (s.data.toList.take (k + 1))).length ((lettersL i (s.data.toList.take (k + 1))).map iI) := by rw [HLL.out]; exact hown9
        obtain ⟨l9, hl9⟩ : ∃ l9, l9 = (lettersL i (s.data.toList.take (k + 1))).length := ⟨_, rfl⟩
        rw [← hl9] at hown9
        have HL10 := hide hl9
        have HB10 := hide (HWR.out.trans hb9)
        have HO10 := hide hown9
        obtain ⟨A10, c10, rfl⟩ := own_formT hown9
        clear hl9 hb9 hown9
        go_wp2_with fail
        go_roundw
        case rel => exact ⟨k + 1, l9, A10, c10, by have := HLT.out; omega, rfl, by rw [HKN.out], HL10, HO10, HB10⟩
        case measure => rw [HKN.out]; simp [intOf]; have := HLT.out; omega
      have n77 : ¬ (bv : Int) = 77 := by omega
      have m77 : ((bv : Int) == 77) = false := by simp; omega
      by_cases a103 : bv = 103
      · have hiy : ∀ W : World, (Instr.index 9 (.string s) (.int .i64 (k : Int))).run Try.prog W = .ok (.int .u8 103) W := fun W => by rw [hix W, a103]; rfl
        clear hix
        clear n97 m97
        clear n98 m98
        clear n100 m100
        clear n65 m65
        clear n66 m66
        clear n68 m68
        clear n77 m77
        by_cases g1 : fa = -1
        · have g2 : (fa == -1) = true := by simp [g1]
          have HLL := hide (show lettersL i (s.data.toList.take (k + 1)) = lettersL i (s.data.toList.take k) ++ [] by
            rw [HLX.out]
            congr 1
            unfold letL
            rw [if_neg a97]; rw [if_neg a98]; rw [if_neg a100]; rw [if_neg a65]; rw [if_neg a66]; rw [if_neg a68]; rw [if_neg a77]; rw [if_pos a103]; rw [← HFI.out.1, if_pos g1])
          have HO10 := hide (show wr.ownsRow B 3 1 (.slice A lk c) lk ((lettersL i (s.data.toList.take (k + 1))).map iI) by rw [HLL.out, List.append_nil]; exact HO.out)
          have HL10 := hide (show lk = (lettersL i (s.data.toList.take (k + 1))).length by rw [HLL.out, List.append_nil]; exact HLK.out)
          go_wp2_with fail
          go_roundw
          case rel => exact ⟨k + 1, lk, A, c, by have := HLT.out; omega, rfl, by rw [HKN.out], HL10, HO10, HWR⟩
          case measure => rw [HKN.out]; simp [intOf]; have := HLT.out; omega
        · have g2 : (fa == -1) = false := by simp [g1]
          have HLL := hide (show lettersL i (s.data.toList.take (k + 1)) = lettersL i (s.data.toList.take k) ++ [fa] by
            rw [HLX.out]
            congr 1
            unfold letL
            rw [if_neg a97]; rw [if_neg a98]; rw [if_neg a100]; rw [if_neg a65]; rw [if_neg a66]; rw [if_neg a68]; rw [if_neg a77]; rw [if_pos a103]; rw [← HFI.out.1, if_neg g1])
          obtain ⟨N9W, hN9W⟩ : ∃ W, W = wr.alloc (.cells #[.int .i64 (fa)] 3) := ⟨_, rfl⟩
          have hN9b : Below wr.heap.size wr N9W := by rw [hN9W]; exact (Below.refl _ _).alloc (Nat.le_refl _) _
          have N9O := hide (own_belowT HO.out hN9b)
          have N9B := hide ((HWR.out).trans (hN9b.mono (Nat.le_trans HB.out (HWR.out).size)))
          have N9 := hide (show N9W = wr.alloc (.cells #[.int .i64 (fa)] 3) ∧ Blk N9W wr.heap.size 3 #[.int .i64 (fa)] ∧ B ≤ N9W.heap.size from ⟨hN9W, by rw [hN9W]; exact Blk.new _ _ _, Nat.le_trans HB.out N9B.out.size⟩)
          clear hN9W hN9b
          go_upto_region 4 with (first
            | (at_builtin
               rw [← N9.out.1]
               refine wpList_append_any _ rfl (.tmp 76) (.tmp 79) _ rfl B 3 i0 _ 1 8 Try.underlying23 hi0 hz0 hz1 hz2 rfl (by omega) (.slice A lk c) lk _ rfl N9O.out (wr.heap.size + 1) (some ⟨wr.heap.size, 0, none⟩) 1 1 [.int .i64 (fa)] rfl ?rd ?on ?b1 ?b2 ?sz ?_
               case rd => exact ⟨rfl, fun _ => ⟨_, rfl, Nat.lt_succ_self _, fun q u hu => by rw [Addr.add_lit, Nat.zero_add, N9.out.2.1.cell q]; simpa using hu⟩⟩
               case on => (intro u hu; simp at hu; subst hu; rfl)
               case b1 => (have := HLKB.out; simp only [maxLen]; omega)
               case b2 => (have := HLKB.out; omega)
               case sz => exact N9.out.2.2
               intro v10 w10 hown10 hg10 hat10
               have HB10 := hide (N9B.out.grown hg10 (Nat.le_trans HB.out N9B.out.size) (fun q hq => (N9O.out.lt q hq).1))
               have HO10 := hide (show w10.ownsRow B 3 1 v10 (lk + 1) ((lettersL i (s.data.toList.take (k + 1))).map iI) by rw [HLL.out, List.map_append]; exact hown10)
               have HL10 := hide (show lk + 1 = (lettersL i (s.data.toList.take (k + 1))).length by rw [HLL.out, List.length_append, ← HLK.out]; rfl)
               obtain ⟨A10, c10, rfl⟩ := own_formT hown10
               clear hown10 hg10 hat10))
          go_wp2_with fail
          go_roundw
          case rel => exact ⟨k + 1, lk + 1, A10, c10, by have := HLT.out; omega, rfl, by rw [HKN.out], HL10, HO10, HB10⟩
          case measure => rw [HKN.out]; simp [intOf]; have := HLT.out; omega
      have n103 : ¬ (bv : Int) = 103 := by omega
      have m103 : ((bv : Int) == 103) = false := by simp; omega
      by_cases a115 : bv = 115
      · have hiy : ∀ W : World, (Instr.index 9 (.string s) (.int .i64 (k : Int))).run Try.prog W = .ok (.int .u8 115) W := fun W => by rw [hix W, a115]; rfl
        clear hix
        clear n97 m97
        clear n98 m98
        clear n100 m100
        clear n65 m65
        clear n66 m66
        clear n68 m68
        clear n77 m77
        clear n103 m103
        have HLL := hide (show lettersL i (s.data.toList.take (k + 1)) = lettersL i (s.data.toList.take k) ++ i.args by
          rw [HLX.out]
          congr 1
          unfold letL
          rw [if_neg a97]; rw [if_neg a98]; rw [if_neg a100]; rw [if_neg a65]; rw [if_neg a66]; rw [if_neg a68]; rw [if_neg a77]; rw [if_neg a103]; rw [if_pos a115])
        have HRD := hide ((HAR.out.below HWR.out (Nat.le_of_eq HBE.out.symm)).reads.2)
        go_upto_region 4 with (first
          | (at_builtin
             refine wpList_append_any _ rfl (.tmp 83) (.tmp 85) _ rfl B 3 i0 _ 1 8 Try.underlying23 hi0 hz0 hz1 hz2 rfl (by omega) (.slice A lk c) lk _ rfl HO.out wr.heap.size Aa ma ca _ rfl HRD.out (ints_oneT _) ?b1 ?b2 ?sz ?_
             case b1 => (have := HLKB.out; have := HMA.out.2; simp only [maxLen]; omega)
             case b2 => (have := HLKB.out; have := HMA.out.2; omega)
             case sz => exact Nat.le_trans HB.out HWR.out.size
             intro v10 w10 hown10 hg10 hat10
             have HB10 := hide (HWR.out.grown hg10 (Nat.le_trans HB.out HWR.out.size) (fun q hq => (HO.out.lt q hq).1))
             have HO10 := hide (show w10.ownsRow B 3 1 v10 (lk + ma) ((lettersL i (s.data.toList.take (k + 1))).map iI) by rw [HLL.out, List.map_append]; exact hown10)
             have HL10 := hide (show lk + ma = (lettersL i (s.data.toList.take (k + 1))).length by rw [HLL.out, List.length_append, ← HLK.out, HMA.out.1])
             obtain ⟨A10, c10, rfl⟩ := own_formT hown10
             clear hown10 hg10 hat10))
        go_wp2_with fail
        go_roundw
        case rel => exact ⟨k + 1, lk + ma, A10, c10, by have := HLT.out; omega, rfl, by rw [HKN.out], HL10, HO10, HB10⟩
        case measure => rw [HKN.out]; simp [intOf]; have := HLT.out; omega
      have n115 : ¬ (bv : Int) = 115 := by omega
      have m115 : ((bv : Int) == 115) = false := by simp; omega
      by_cases a112 : bv = 112
      · have hiy : ∀ W : World, (Instr.index 9 (.string s) (.int .i64 (k : Int))).run Try.prog W = .ok (.int .u8 112) W := fun W => by rw [hix W, a112]; rfl
        clear hix
        clear n97 m97
        clear n98 m98
        clear n100 m100
        clear n65 m65
        clear n66 m66
        clear n68 m68
        clear n77 m77
        clear n103 m103
        clear n115 m115
        have HLL := hide (show lettersL i (s.data.toList.take (k + 1)) = lettersL i (s.data.toList.take k) ++ i.args.flatMap (fun r => runL r i.m) by
          rw [HLX.out]
          congr 1
          unfold letL
          rw [if_neg a97]; rw [if_neg a98]; rw [if_neg a100]; rw [if_neg a65]; rw [if_neg a66]; rw [if_neg a68]; rw [if_neg a77]; rw [if_neg a103]; rw [if_neg a115]; rw [if_pos a112])
        have HPB := hide (fun (j : Nat) => show (lettersL i (s.data.toList.take k) ++ (i.args.take j).flatMap (fun r => runL r i.m)).length ≤ 100000000 by
          have h1 := HBX.out k
          have h2 := runsL_len i.m (i.args.take j)
          have h3 : (i.args.take j).length * 65536 ≤ 100 * 65536 := Nat.mul_le_mul_right _ (by rw [List.length_take]; have := HMA.out; omega)
          rw [List.length_append]
          omega)
        have HO0 := hide (show wr.ownsRow B 3 1 (.slice A lk c) lk ((lettersL i (s.data.toList.take k) ++ (i.args.take 0).flatMap (fun r => runL r i.m)).map iI) by simpa using HO.out)
        have HL0 := hide (show lk = (lettersL i (s.data.toList.take k) ++ (i.args.take 0).flatMap (fun r => runL r i.m)).length by simpa using HLK.out)
        have HW0 := hide (show Below B W1 wr from HWR.out)
        clear HO HLK HWR
        go_upto_region 27 with (fail)
        clear c1 c2 c3 c4 c5 c12
        go_loopw [5, 7] (fun ov jv wr => ∃ (j l : Nat) (A : Option Addr) (c : Nat), j ≤ ma ∧ ov = .slice A l c ∧ jv = .int .i64 (j : Int) ∧ Hid (l = (lettersL i (s.data.toList.take k) ++ (i.args.take j).flatMap (fun r => runL r i.m)).length) ∧ Hid (wr.ownsRow B 3 1 (.slice A l c) l ((lettersL i (s.data.toList.take k) ++ (i.args.take j).flatMap (fun r => runL r i.m)).map iI)) ∧ Hid (Below B W1 wr)) (fun _ jv _ => ma - (intOf jv).toNat)
        case atStart => exact ⟨0, lk, A, c, Nat.zero_le _, rfl, rfl, HL0, HO0, HW0⟩
        case round =>
          clear HO0 HL0 HW0
          obtain ⟨j, l, A, c, hj, rfl, rfl, HL, HO, HWR⟩ := hrel
          obtain ⟨c1, c2, c3, c4, c5, c12⟩ := HCS.out wr HWR.out
          clear c1 c2 c3 c4
          by_cases hjm : j < ma
          · have j1 : (j : Int) < (ma : Int) := by omega
            have j2 : (0 : Int) ≤ (j : Int) := by omega
            have q6 : IntKind.i64.wrap ((j : Int) + 1) = ((j + 1 : Nat) : Int) := by rw [show (j : Int) + 1 = ((j + 1 : Nat) : Int) by omega]; exact IntWalk.i64_in _ (by have := HMA.out; omega)
            obtain ⟨jn, hjn⟩ : ∃ jn, jn = j + 1 := ⟨_, rfl⟩
            rw [← hjn] at q6
            have HJN := hide hjn
            have HJM := hide hjm
            obtain ⟨b3, o3, x, hA3, hl3, hx3, y3⟩ := HAR.out.at_ (k := j) (by rw [← HMA.out.1]; exact hjm)
            have y3 : wr.cell? ⟨b3, o3 + j, none⟩ = some (.int .i64 x) := (HWR.out.cell (p := ⟨b3, o3 + j, none⟩) (by have := HBE.out; show b3 < B; omega)).trans y3
            subst hA3
            have hS0 : (wr.cell? ⟨a, 12, none⟩ = some (.slice (some ⟨b3, o3, none⟩) ma ca) ∧ wr.cell? ⟨b3, o3 + j, none⟩ = some (.int .i64 x) ∧ wr.cell? ⟨a, 5, none⟩ = some (.int .i64 fm)) := ⟨c12, y3, c5⟩
            have hb3B : b3 < B := by have := HBE.out; omega
            have HIX := hide (show lettersL i (s.data.toList.take k) ++ (i.args.take (j + 1)).flatMap (fun r => runL r i.m) = (lettersL i (s.data.toList.take k) ++ (i.args.take j).flatMap (fun r => runL r i.m)) ++ runL x i.m by
              rw [List.take_add_one, hx3, List.flatMap_append, List.append_assoc]
              simp)
            have HRC := hide (rrun_any B (.slice A l c) (lettersL i (s.data.toList.take k) ++ (i.args.take j).flatMap (fun r => runL r i.m)) x fm wr.drew (Nat.le_trans HB.out HWR.out.size) (by rw [← HL.out]; exact HO.out) (by have := HPB.out j; omega))
            clear hjn hjm hl3 hx3 c5 c12 y3
            go_upto_region 29 with (fail)
            refine wp_region_tail 99 (fun w' => (w'.cell? ⟨a, 12, none⟩ = some (.slice (some ⟨b3, o3, none⟩) ma ca) ∧ w'.cell? ⟨b3, o3 + j, none⟩ = some (.int .i64 x) ∧ w'.cell? ⟨a, 5, none⟩ = some (.int .i64 fm))) (by kernel_rfl) hS0 (fun hHeld => ?_)
            try simp only [Act.put, List.setIfInBounds_toArray, List.set_cons_zero, List.set_cons_succ]
            refine' wpTail_take (i := 0) (oi := _) ?hin5018 ?hsn5018 ?hfn5018 ?hrn5018 ?hzn5018 ?hQn5018 (v := _) (Or.inl ⟨?hwn5018, ?hyn5018⟩) (by assumption) ?_
            case hin5018 => (simp only [List.getElem?_toArray, List.getElem?_cons_zero]; exact rfl)
            case hsn5018 => kernel_rfl
            case hfn5018 => kernel_rfl
            case hrn5018 => kernel_rfl
            case hzn5018 => kernel_rfl
            case hQn5018 => exact fun _ _ _ h => h
            case hwn5018 => rfl
            case hyn5018 => (intro W0 hSw; (try dsimp only at hSw); go_simp; (try with_reducible rfl))
            try simp only [Act.put, List.setIfInBounds_toArray, List.set_cons_zero, List.set_cons_succ]
            refine' wpTail_take (i := 1) (oi := _) ?hin5019 ?hsn5019 ?hfn5019 ?hrn5019 ?hzn5019 ?hQn5019 (v := _) (Or.inl ⟨?hwn5019, ?hyn5019⟩) (by assumption) ?_
            case hin5019 => (simp only [List.getElem?_toArray, List.getElem?_cons_succ, List.getElem?_cons_zero]; exact rfl)
            case hsn5019 => kernel_rfl
            case hfn5019 => kernel_rfl
            case hrn5019 => kernel_rfl
            case hzn5019 => kernel_rfl
            case hQn5019 => exact fun _ _ _ h => h
            case hwn5019 => rfl
            case hyn5019 => (intro W0 hSw; (try dsimp only at hSw); go_simp; (try with_reducible rfl))
            try simp only [Act.put, List.setIfInBounds_toArray, List.set_cons_zero, List.set_cons_succ]
            refine' wpTail_take (i := 2) (oi := _) ?hin5020 ?hsn5020 ?hfn5020 ?hrn5020 ?hzn5020 ?hQn5020 (v := _) (Or.inl ⟨?hwn5020, ?hyn5020⟩) (by assumption) ?_
            case hin5020 => (simp only [List.getElem?_toArray, List.getElem?_cons_succ, List.getElem?_cons_zero]; exact rfl)
            case hsn5020 => kernel_rfl
            case hfn5020 => kernel_rfl
            case hrn5020 => kernel_rfl
            case hzn5020 => kernel_rfl
            case hQn5020 => exact fun _ _ _ h => h
            case hwn5020 => rfl
            case hyn5020 => (intro W0 hSw; (try dsimp only at hSw); have u0 : W0.cell? ⟨a, 12, none⟩ = some (.slice (some ⟨b3, o3, none⟩) ma ca) := hSw.1; go_simp; (try with_reducible rfl))
            try simp only [Act.put, List.setIfInBounds_toArray, List.set_cons_zero, List.set_cons_succ]
            refine' wpTail_take (i := 3) (oi := _) ?hin5021 ?hsn5021 ?hfn5021 ?hrn5021 ?hzn5021 ?hQn5021 (v := _) (Or.inl ⟨?hwn5021, ?hyn5021⟩) (by assumption) ?_
            case hin5021 => (simp only [List.getElem?_toArray, List.getElem?_cons_succ, List.getElem?_cons_zero]; exact rfl)
            case hsn5021 => kernel_rfl
            case hfn5021 => kernel_rfl
            case hrn5021 => kernel_rfl
            case hzn5021 => kernel_rfl
            case hQn5021 => exact fun _ _ _ h => h
            case hwn5021 => rfl
            case hyn5021 => (intro W0 hSw; (try dsimp only at hSw); go_simp; (try with_reducible rfl))
            try simp only [Act.put, List.setIfInBounds_toArray, List.set_cons_zero, List.set_cons_succ]
            refine' wpTail_take (i := 4) (oi := _) ?hin5022 ?hsn5022 ?hfn5022 ?hrn5022 ?hzn5022 ?hQn5022 (v := _) (Or.inl ⟨?hwn5022, ?hyn5022⟩) (by assumption) ?_
            case hin5022 => (simp only [List.getElem?_toArray, List.getElem?_cons_succ, List.getElem?_cons_zero]; exact rfl)
            case hsn5022 => kernel_rfl
            case hfn5022 => kernel_rfl
            case hrn5022 => kernel_rfl
            case hzn5022 => kernel_rfl
            case hQn5022 => exact fun _ _ _ h => h
            case hwn5022 => rfl
            case hyn5022 => (intro W0 hSw; (try dsimp only at hSw); go_simp; (try with_reducible rfl))
            try simp only [Act.put, List.setIfInBounds_toArray, List.set_cons_zero, List.set_cons_succ]
            refine' wpTail_take (i := 5) (oi := _) ?hin5023 ?hsn5023 ?hfn5023 ?hrn5023 ?hzn5023 ?hQn5023 (v := _) (Or.inl ⟨?hwn5023, ?hyn5023⟩) (by assumption) ?_
            case hin5023 => (simp only [List.getElem?_toArray, List.getElem?_cons_succ, List.getElem?_cons_zero]; exact rfl)
            case hsn5023 => kernel_rfl
            case hfn5023 => kernel_rfl
            case hrn5023 => kernel_rfl
            case hzn5023 => kernel_rfl
            case hQn5023 => exact fun _ _ _ h => h
            case hwn5023 => rfl
            case hyn5023 => (intro W0 hSw; (try dsimp only at hSw); have u0 : W0.cell? ⟨b3, o3 + j, none⟩ = some (.int .i64 x) := hSw.2.1; go_simp; (try with_reducible rfl))
            try simp only [Act.put, List.setIfInBounds_toArray, List.set_cons_zero, List.set_cons_succ]
            refine' wpTail_take (i := 6) (oi := _) ?hin5024 ?hsn5024 ?hfn5024 ?hrn5024 ?hzn5024 ?hQn5024 (v := _) (Or.inl ⟨?hwn5024, ?hyn5024⟩) (by assumption) ?_
            case hin5024 => (simp only [List.getElem?_toArray, List.getElem?_cons_succ, List.getElem?_cons_zero]; exact rfl)
            case hsn5024 => kernel_rfl
            case hfn5024 => kernel_rfl
            case hrn5024 => kernel_rfl
            case hzn5024 => kernel_rfl
            case hQn5024 => exact fun _ _ _ h => h
            case hwn5024 => rfl
            case hyn5024 => (intro W0 hSw; (try dsimp only at hSw); go_simp; (try with_reducible rfl))
            try simp only [Act.put, List.setIfInBounds_toArray, List.set_cons_zero, List.set_cons_succ]
            refine' wpTail_take (i := 7) (oi := _) ?hin5025 ?hsn5025 ?hfn5025 ?hrn5025 ?hzn5025 ?hQn5025 (v := _) (Or.inl ⟨?hwn5025, ?hyn5025⟩) (by assumption) ?_
            case hin5025 => (simp only [List.getElem?_toArray, List.getElem?_cons_succ, List.getElem?_cons_zero]; exact rfl)
            case hsn5025 => kernel_rfl
            case hfn5025 => kernel_rfl
            case hrn5025 => kernel_rfl
            case hzn5025 => kernel_rfl
            case hQn5025 => exact fun _ _ _ h => h
            case hwn5025 => rfl
            case hyn5025 => (intro W0 hSw; (try dsimp only at hSw); have u0 : W0.cell? ⟨a, 5, none⟩ = some (.int .i64 fm) := hSw.2.2; go_simp; (try with_reducible rfl))
            try simp only [Act.put, List.setIfInBounds_toArray, List.set_cons_zero, List.set_cons_succ]
            refine' wpTail_one (i := 8) (o := _) (by kernel_rfl) ?ho5026 ?hw5026 (fun K hK => ?_)
            case ho5026 => (simp only [List.getElem?_toArray, List.getElem?_cons_succ, List.getElem?_cons_zero]; exact rfl)
            case hw5026 => rfl
            go_simp
            refine HRC.out.mono ?_
            rintro e w9 ⟨v9, rfl, hown9, hb9⟩
            have hb9 : Below B wr w9 := (show Below B wr wr.drew from (Below.refl _ _).drew).trans hb9
            have hown9 : w9.ownsRow B 3 1 v9 (lettersL i (s.data.toList.take k) ++ (i.args.take (j + 1)).flatMap (fun r => runL r i.m)).length ((lettersL i (s.data.toList.take k) ++ (i.args.take (j + 1)).flatMap (fun r => runL r i.m)).map iI) := by
              rw [HIX.out]
              rw [← HFI.out.2.2.2.2]
              rw [← HFI.out.2.2.2.2] at hown9
              exact hown9
            obtain ⟨l9, hl9⟩ : ∃ l9, l9 = (lettersL i (s.data.toList.take k) ++ (i.args.take (j + 1)).flatMap (fun r => runL r i.m)).length := ⟨_, rfl⟩
            rw [← hl9] at hown9
            have hS9 : (w9.cell? ⟨a, 12, none⟩ = some (.slice (some ⟨b3, o3, none⟩) ma ca) ∧ w9.cell? ⟨b3, o3 + j, none⟩ = some (.int .i64 x) ∧ w9.cell? ⟨a, 5, none⟩ = some (.int .i64 fm)) := ⟨(hb9.cell (p := ⟨a, 12, none⟩) HAB.out).trans hS0.1, (hb9.cell (p := ⟨b3, o3 + j, none⟩) hb3B).trans hS0.2.1, (hb9.cell (p := ⟨a, 5, none⟩) HAB.out).trans hS0.2.2⟩
            have HL9 := hide hl9
            have HB9 := hide (HWR.out.trans hb9)
            have HO9 := hide hown9
            obtain ⟨A9, c9, rfl⟩ := own_formT hown9
            clear hl9 hb9 hown9
            refine hK.out _ _ (fun _ => hS9) ?_
            clear hK K
            try simp only [Act.put, List.setIfInBounds_toArray, List.set_cons_zero, List.set_cons_succ]
            refine' wpTail_one (i := 9) (o := _) (by kernel_rfl) ?ho5027 ?hw5027 (fun K hK => ?_)
            case ho5027 => (simp only [List.getElem?_toArray, List.getElem?_cons_succ, List.getElem?_cons_zero]; exact rfl)
            case hw5027 => rfl
            go_simp
            refine hK.out _ _ (fun _ => hS9) ?_
            clear hK K
            refine wpTail_done (by kernel_rfl) ?_ _
            try simp only [Act.put, List.setIfInBounds_toArray, List.set_cons_zero, List.set_cons_succ]
            clear hHeld hS0 hS9 hb3B
            go_wp2_with fail
            go_roundw
            case rel => exact ⟨j + 1, l9, A9, c9, by have := HJM.out; omega, rfl, by rw [HJN.out], HL9, HO9, HB9⟩
            case measure => rw [HJN.out]; simp [intOf]; have := HJM.out; omega
          · have j1 : ¬ (j : Int) < (ma : Int) := by omega
            have hjt : i.args.take j = i.args := List.take_of_length_le (by rw [← HMA.out.1]; omega)
            have HO10 := hide (show wr.ownsRow B 3 1 (.slice A l c) l ((lettersL i (s.data.toList.take (k + 1))).map iI) by
              have h := HO.out
              rw [hjt] at h
              rw [HLL.out]
              exact h)
            have HL10 := hide (show l = (lettersL i (s.data.toList.take (k + 1))).length by
              have h := HL.out
              rw [hjt] at h
              rw [HLL.out]
              exact h)
            clear hjm hjt hj
            go_wp2_with fail
            go_roundw
            case rel => exact ⟨k + 1, l, A, c, by have := HLT.out; omega, rfl, by rw [HKN.out], HL10, HO10, HWR⟩
            case measure => rw [HKN.out]; simp [intOf]; have := HLT.out; omega
      have n112 : ¬ (bv : Int) = 112 := by omega
      have m112 : ((bv : Int) == 112) = false := by simp; omega
      have HLL := hide (show lettersL i (s.data.toList.take (k + 1)) = lettersL i (s.data.toList.take k) ++ [] by
        rw [HLX.out]
        congr 1
        unfold letL
        rw [if_neg a97]; rw [if_neg a98]; rw [if_neg a100]; rw [if_neg a65]; rw [if_neg a66]; rw [if_neg a68]; rw [if_neg a77]; rw [if_neg a103]; rw [if_neg a115]; rw [if_neg a112])
      have HO10 := hide (show wr.ownsRow B 3 1 (.slice A lk c) lk ((lettersL i (s.data.toList.take (k + 1))).map iI) by rw [HLL.out, List.append_nil]; exact HO.out)
      have HL10 := hide (show lk = (lettersL i (s.data.toList.take (k + 1))).length by rw [HLL.out, List.append_nil]; exact HLK.out)
      go_wp2_with fail
      go_roundw
      case rel => exact ⟨k + 1, lk, A, c, by have := HLT.out; omega, rfl, by rw [HKN.out], HL10, HO10, HWR⟩
      case measure => rw [HKN.out]; simp [intOf]; have := HLT.out; omega
    · have k1 : ¬ (k : Int) < (sl : Int) := by omega
      have HKE := hide (show k = sl by omega)
      clear hlt hk
      go_wp2_with fail
      go_ret
      refine ⟨_, rfl, ?_, HB1.out.trans (HWR.out.mono (Nat.le_trans HB1.out.size (Nat.le_of_eq HBE.out.symm)))⟩
      have hl : s.data.toList.take k = s.data.toList := List.take_of_length_le (by rw [← HSL.out.1, HKE.out]; exact Nat.le_refl _)
      have h1 := HLK.out
      have h2 := own_monoT HO.out (B' := w.heap.size) (by have := HB1.out.size; have := HBE.out; omega)
      rw [hl] at h1 h2
      rw [← h1]
      exact h2
end Go.Proofs.Ytaaadbaakhjkcaa
