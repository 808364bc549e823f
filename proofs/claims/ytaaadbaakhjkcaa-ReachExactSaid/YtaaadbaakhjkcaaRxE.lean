/- The registers that an instruction reads (the reference's Reads); conditions: the instruction is in memory, its operation one of the document's. -/
import Derived.Test.YtaaadbaakhjkcaaRxD
namespace Go.Proofs.Ytaaadbaakhjkcaa
open Go.RowKit Go.WideShapes Go.ChangeShapes
set_option linter.unusedVariables false
set_option linter.unusedSimpArgs false
set_option maxRecDepth 100000

set_option maxHeartbeats 16000000 in
theorem rreads_any (i : Ins) (av rv : Value) (w : World) (h : InsOk w i av rv) (hop : 1 ≤ i.op ∧ i.op ≤ 41) (hn : i.arms.length ≤ 100 ∧ i.args.length ≤ 100) :
    Calls Try.prog 45 #[i.val av rv] w (RowP w (readL i)) := by
  obtain ⟨i0, hi0, hz0, hz1, hz2⟩ := info_parts intInfoT
  obtain ⟨Ar, ca, rfl⟩ := h.rm.form
  obtain ⟨mr, hmr⟩ : ∃ mr, mr = i.arms.length := ⟨_, rfl⟩
  rw [← hmr] at h hn ⊢
  obtain ⟨a, ha⟩ : ∃ a, a = w.heap.size := ⟨_, rfl⟩
  obtain ⟨W1, hW1⟩ : ∃ W1, W1 = w.alloc (.cells (i.arr av (.slice Ar mr ca)) 45) := ⟨_, rfl⟩
  have hb1 : Below w.heap.size w W1 := by rw [hW1]; exact (Below.refl _ _).alloc (Nat.le_refl _) _
  have HBA := hide (show Blk W1 a 45 (i.arr av (.slice Ar mr ca)) by rw [hW1, ha]; exact Blk.new _ _ _)
  obtain ⟨V, hV⟩ : ∃ V, V = i.val av (.slice Ar mr ca) := ⟨_, rfl⟩
  have HVI := hide hV
  obtain ⟨fo, hfo⟩ : ∃ fo, fo = i.op := ⟨_, rfl⟩
  have o0 : W1.cell? ⟨a, 0, none⟩ = some (.int .i64 fo) := by rw [hfo]; exact HBA.out.cell 0
  have HOK := hide (h.below hb1 (Nat.le_refl _))
  have HFO := hide hfo
  have HN := hide (And.intro hmr hn)
  have HOP := hide hop
  have HB1 := hide hb1
  have HW1 := hide hW1
  have HA := hide ha
  obtain ⟨S, hS⟩ : ∃ S, S = (rowR fo).1 := ⟨_, rfl⟩
  have HS := hide hS
  rw [← hV]
  clear h hop hn hmr ha hb1 hW1 hV hfo hS
  go_enter Try.func45, Try.ntmps45
  go_upto_region 1 with (fail)
  rw [HVI.out, ← HW1.out, ← HA.out, ← HVI.out]
  by_cases h37 : fo = 37
  · have b37 : (fo == 37) = true := by simp [h37]
    have HL := hide (show readL i = i.arms.flatMap armRd by unfold readL; rw [if_pos (by rw [← HFO.out]; exact h37)])
    obtain ⟨B, hB⟩ : ∃ B, B = W1.heap.size := ⟨_, rfl⟩
    obtain ⟨W2, hW2⟩ : ∃ W2, W2 = W1.alloc (.cells #[] 3) := ⟨_, rfl⟩
    have HO2 := hide (show W2.ownsRow B 3 1 (.slice (some ⟨B, 0, none⟩) 0 0) 0 (((i.arms.take 0).flatMap armRd).map iI) from ⟨rfl, .inr ⟨B, 0, #[], rfl, Nat.le_refl _, by rw [hW2, hB]; exact Blk.new _ _ _, Nat.le_refl _, by simp only [maxLen]; omega, rfl, rfl⟩⟩)
    have HB2 := hide (show Below B W1 W2 by rw [hW2, hB]; exact (Below.refl _ _).alloc (Nat.le_refl _) _)
    have HB := hide (show B ≤ W1.heap.size from Nat.le_of_eq hB)
    have HAB := hide (show a < B by rw [hB]; exact HBA.out.lt)
    have HBE := hide hB
    have HW2 := hide hW2
    have HC := hide (fun wr (hw : Below B W1 wr) => show wr.cell? ⟨a, 15, none⟩ = some (.slice Ar mr ca) from (HBA.out.below hw HAB.out).cell 15)
    have HPB := hide (fun (k : Nat) => show ((i.arms.take k).flatMap armRd).length ≤ 6553700 by
      have h1 := arms_lenR armRd_len (i.arms.take k)
      have h2 : (i.arms.take k).length * 65537 ≤ 100 * 65537 := Nat.mul_le_mul_right _ (by rw [List.length_take]; have := HN.out; omega)
      omega)
    clear hB hW2
    go_upto_region 6 with (fail)
    rw [← HBE.out, ← HW2.out]
    clear o0
    go_loopw [5, 6] (fun ov kv wr => ∃ (k l : Nat) (A : Option Addr) (c : Nat), k ≤ mr ∧ ov = .slice A l c ∧ kv = .int .i64 (k : Int) ∧ Hid (l = ((i.arms.take k).flatMap armRd).length) ∧ Hid (wr.ownsRow B 3 1 (.slice A l c) l (((i.arms.take k).flatMap armRd).map iI)) ∧ Hid (Below B W1 wr)) (fun _ kv _ => mr - (intOf kv).toNat)
    case atStart => exact ⟨0, 0, _, 0, Nat.zero_le _, rfl, rfl, hide rfl, HO2, HB2⟩
    case round =>
      clear HO2 HB2
      obtain ⟨k, l, A, c, hk, rfl, rfl, HLK, HO, HWR⟩ := hrel
      have c15 := HC.out wr HWR.out
      by_cases hlt : k < mr
      · have k1 : (k : Int) < (mr : Int) := by omega
        have k2 : (0 : Int) ≤ (k : Int) := by omega
        have q5 : IntKind.i64.wrap ((k : Int) + 1) = ((k + 1 : Nat) : Int) := by rw [show (k : Int) + 1 = ((k + 1 : Nat) : Int) by omega]; exact IntWalk.i64_in _ (by have := HN.out; omega)
        obtain ⟨kn, hkn⟩ : ∃ kn, kn = k + 1 := ⟨_, rfl⟩
        rw [← hkn] at q5
        have HKN := hide hkn
        have HLT := hide hlt
        obtain ⟨b3, o3, x, hA3, hl3, hx3, u0, u1, u2, u3, u4, u5⟩ := ArmsAt.at_ HOK.out.rm (i := k) (by rw [← HN.out.1]; exact hlt)
        subst hA3
        have hb3B : b3 < B := by have := HBE.out; omega
        have HNX := hide (show (i.arms.take (k + 1)).flatMap armRd = (i.arms.take k).flatMap armRd ++ armRd x by
          rw [List.take_add_one, hx3, List.flatMap_append]
          simp)
        have v0 : wr.cell? ⟨b3, o3 + k * 6, none⟩ = some (.int .i64 x.k) := (HWR.out.cell (p := ⟨b3, o3 + k * 6, none⟩) hb3B).trans u0
        have v1 : wr.cell? ⟨b3, o3 + k * 6 + 1, none⟩ = some (.int .i64 x.a) := (HWR.out.cell (p := ⟨b3, o3 + k * 6 + 1, none⟩) hb3B).trans u1
        have v2 : wr.cell? ⟨b3, o3 + k * 6 + 2, none⟩ = some (.int .i64 x.b) := (HWR.out.cell (p := ⟨b3, o3 + k * 6 + 2, none⟩) hb3B).trans u2
        have v3 : wr.cell? ⟨b3, o3 + k * 6 + 3, none⟩ = some (.int .i64 x.n) := (HWR.out.cell (p := ⟨b3, o3 + k * 6 + 3, none⟩) hb3B).trans u3
        have v4 : wr.cell? ⟨b3, o3 + k * 6 + 4, none⟩ = some (.int .i64 x.t) := (HWR.out.cell (p := ⟨b3, o3 + k * 6 + 4, none⟩) hb3B).trans u4
        have v5 : wr.cell? ⟨b3, o3 + k * 6 + 5, none⟩ = some (.int .i64 x.to_) := (HWR.out.cell (p := ⟨b3, o3 + k * 6 + 5, none⟩) hb3B).trans u5
        obtain ⟨xk, hxk⟩ : ∃ xk, xk = x.k := ⟨_, rfl⟩
        obtain ⟨xa, hxa⟩ : ∃ xa, xa = x.a := ⟨_, rfl⟩
        obtain ⟨xb, hxb⟩ : ∃ xb, xb = x.b := ⟨_, rfl⟩
        obtain ⟨xn, hxn⟩ : ∃ xn, xn = x.n := ⟨_, rfl⟩
        rw [← hxk] at v0
        rw [← hxa] at v1
        rw [← hxb] at v2
        rw [← hxn] at v3
        have HXX := hide (And.intro hxk (And.intro hxa (And.intro hxb hxn)))
        have HLB := hide (show l ≤ 6553700 by rw [HLK.out]; exact HPB.out k)
        clear hkn hlt hl3 hx3 u0 u1 u2 u3 u4 u5 hxk hxa hxb hxn
        obtain ⟨gx, hgx⟩ : ∃ gx, gx = wr.heap.size := ⟨_, rfl⟩
        obtain ⟨W6, hW6⟩ : ∃ W6, W6 = wr.alloc (.cells #[.int .i64 xk, .int .i64 xa, .int .i64 xb, .int .i64 xn, .int .i64 x.t, .int .i64 x.to_] 62) := ⟨_, rfl⟩
        have hb6 : Below wr.heap.size wr W6 := by rw [hW6]; exact (Below.refl _ _).alloc (Nat.le_refl _) _
        have HBX := hide (show Blk W6 gx 62 #[.int .i64 xk, .int .i64 xa, .int .i64 xb, .int .i64 xn, .int .i64 x.t, .int .i64 x.to_] by rw [hW6, hgx]; exact Blk.new _ _ _)
        have HO6 := hide (own_belowT HO.out hb6)
        have HB6 := hide (HWR.out.trans (hb6.mono (Nat.le_trans HB.out HWR.out.size)))
        have HGX := hide hgx
        have HW6 := hide hW6
        clear hgx hW6 hb6
        go_upto_region 9 with (fail)
        rw [← HGX.out, ← HW6.out]
        clear c15 v0 v1 v2 v3 v4 v5
        have z0 : W6.cell? ⟨gx, 0, none⟩ = some (.int .i64 xk) := HBX.out.cell 0
        have z1 : W6.cell? ⟨gx, 1, none⟩ = some (.int .i64 xa) := HBX.out.cell 1
        have z2 : W6.cell? ⟨gx, 2, none⟩ = some (.int .i64 xb) := HBX.out.cell 2
        have z3 : W6.cell? ⟨gx, 3, none⟩ = some (.int .i64 xn) := HBX.out.cell 3
        by_cases x1 : xk = 1
        · have HAX := hide (show armRd x = [xa] ++ runL xb xn by unfold armRd; rw [if_pos (by rw [← HXX.out.1]; exact .inl x1), if_pos (by rw [← HXX.out.1]; exact x1), HXX.out.2.1, HXX.out.2.2.1, HXX.out.2.2.2])
          have e1 : (xk == 1) = true := by simp [x1]
          obtain ⟨N9W, hN9W⟩ : ∃ W, W = W6.alloc (.cells #[.int .i64 (xa)] 3) := ⟨_, rfl⟩
          have hN9b : Below W6.heap.size W6 N9W := by rw [hN9W]; exact (Below.refl _ _).alloc (Nat.le_refl _) _
          have N9O := hide (own_belowT HO6.out hN9b)
          have N9B := hide ((HB6.out).trans (hN9b.mono (Nat.le_trans HB.out (HB6.out).size)))
          have N9 := hide (show N9W = W6.alloc (.cells #[.int .i64 (xa)] 3) ∧ Blk N9W W6.heap.size 3 #[.int .i64 (xa)] ∧ B ≤ N9W.heap.size from ⟨hN9W, by rw [hN9W]; exact Blk.new _ _ _, Nat.le_trans HB.out N9B.out.size⟩)
          clear hN9W hN9b
          go_upto_region 11 with (first
            | (at_builtin
               rw [← N9.out.1]
               refine wpList_append_any _ rfl (.tmp 41) (.tmp 44) _ rfl B 3 i0 _ 1 8 Try.underlying23 hi0 hz0 hz1 hz2 rfl (by omega) (.slice A l c) l _ rfl N9O.out (W6.heap.size + 1) (some ⟨W6.heap.size, 0, none⟩) 1 1 [.int .i64 (xa)] rfl ?rd ?on ?b1 ?b2 ?sz ?_
               case rd => exact ⟨rfl, fun _ => ⟨_, rfl, Nat.lt_succ_self _, fun q u hu => by rw [Addr.add_lit, Nat.zero_add, N9.out.2.1.cell q]; simpa using hu⟩⟩
               case on => (intro u hu; simp at hu; subst hu; rfl)
               case b1 => (have := HLB.out; simp only [maxLen]; omega)
               case b2 => (have := HLB.out; omega)
               case sz => exact N9.out.2.2
               intro v10 w10 hown10 hg10 hat10
               have HB10 := hide (N9B.out.grown hg10 (Nat.le_trans HB.out N9B.out.size) (fun q hq => (N9O.out.lt q hq).1))
               have HO10 := hide (show w10.ownsRow B 3 1 v10 (l + 1) (((i.arms.take k).flatMap armRd ++ [xa]).map iI) by rw [List.map_append]; exact hown10)
               have HBX10 := hide ((HBX.out.below (show Below W6.heap.size W6 N9W by rw [N9.out.1]; exact (Below.refl _ _).alloc (Nat.le_refl _) _) HBX.out.lt).grown hg10 (fun e => own_blk_ne N9O.out (HBX.out.below (show Below W6.heap.size W6 N9W by rw [N9.out.1]; exact (Below.refl _ _).alloc (Nat.le_refl _) _) HBX.out.lt) (by decide) e.symm))
               obtain ⟨A10, c10, rfl⟩ := own_formT hown10
               clear hown10 hg10 hat10))
          clear z0 z1 z2 z3
          have z0 : w10.cell? ⟨gx, 0, none⟩ = some (.int .i64 xk) := HBX10.out.cell 0
          have z2 : w10.cell? ⟨gx, 2, none⟩ = some (.int .i64 xb) := HBX10.out.cell 2
          have z3 : w10.cell? ⟨gx, 3, none⟩ = some (.int .i64 xn) := HBX10.out.cell 3
          have HLL := hide (show l + 1 = ((i.arms.take k).flatMap armRd ++ [xa]).length by rw [List.length_append, ← HLK.out]; rfl)
          have HRC := hide (rrun_any B (.slice A10 (l + 1) c10) ((i.arms.take k).flatMap armRd ++ [xa]) xb xn w10 (Nat.le_trans HB.out HB10.out.size) (by rw [← HLL.out]; exact HO10.out) (by rw [← HLL.out]; have := HLB.out; omega))
          go_wp2_with fail
          refine HRC.out.mono ?_
          rintro e w9 ⟨v9, rfl, hown9, hb9⟩
          have hown9 : w9.ownsRow B 3 1 v9 ((i.arms.take (k + 1)).flatMap armRd).length (((i.arms.take (k + 1)).flatMap armRd).map iI) := by rw [HNX.out, HAX.out, ← List.append_assoc]; exact hown9
          obtain ⟨l9, hl9⟩ : ∃ l9, l9 = ((i.arms.take (k + 1)).flatMap armRd).length := ⟨_, rfl⟩
          rw [← hl9] at hown9
          have HL9 := hide hl9
          have HO9 := hide hown9
          have HB9 := hide (HB10.out.trans hb9)
          obtain ⟨A9, c9, rfl⟩ := own_formT hown9
          clear hl9 hb9 hown9 z0 z2 z3
          go_wp2_with fail
          go_roundw
          case rel => exact ⟨k + 1, l9, A9, c9, by have := HLT.out; omega, rfl, by rw [HKN.out], HL9, HO9, HB9⟩
          case measure => rw [HKN.out]; simp [intOf]; have := HLT.out; omega
        · have e1 : (xk == 1) = false := by simp [x1]
          by_cases x2 : xk = 2
          · have HAX := hide (show armRd x = [xa] by unfold armRd; rw [if_pos (by rw [← HXX.out.1]; exact .inr x2), if_neg (by rw [← HXX.out.1]; exact x1), HXX.out.2.1]; rfl)
            have e2 : (xk == 2) = true := by simp [x2]
            obtain ⟨N9W, hN9W⟩ : ∃ W, W = W6.alloc (.cells #[.int .i64 (xa)] 3) := ⟨_, rfl⟩
            have hN9b : Below W6.heap.size W6 N9W := by rw [hN9W]; exact (Below.refl _ _).alloc (Nat.le_refl _) _
            have N9O := hide (own_belowT HO6.out hN9b)
            have N9B := hide ((HB6.out).trans (hN9b.mono (Nat.le_trans HB.out (HB6.out).size)))
            have N9 := hide (show N9W = W6.alloc (.cells #[.int .i64 (xa)] 3) ∧ Blk N9W W6.heap.size 3 #[.int .i64 (xa)] ∧ B ≤ N9W.heap.size from ⟨hN9W, by rw [hN9W]; exact Blk.new _ _ _, Nat.le_trans HB.out N9B.out.size⟩)
            clear hN9W hN9b
            go_upto_region 11 with (first
              | (at_builtin
                 rw [← N9.out.1]
                 refine wpList_append_any _ rfl (.tmp 41) (.tmp 44) _ rfl B 3 i0 _ 1 8 Try.underlying23 hi0 hz0 hz1 hz2 rfl (by omega) (.slice A l c) l _ rfl N9O.out (W6.heap.size + 1) (some ⟨W6.heap.size, 0, none⟩) 1 1 [.int .i64 (xa)] rfl ?rd ?on ?b1 ?b2 ?sz ?_
                 case rd => exact ⟨rfl, fun _ => ⟨_, rfl, Nat.lt_succ_self _, fun q u hu => by rw [Addr.add_lit, Nat.zero_add, N9.out.2.1.cell q]; simpa using hu⟩⟩
                 case on => (intro u hu; simp at hu; subst hu; rfl)
                 case b1 => (have := HLB.out; simp only [maxLen]; omega)
                 case b2 => (have := HLB.out; omega)
                 case sz => exact N9.out.2.2
                 intro v10 w10 hown10 hg10 hat10
                 have HB10 := hide (N9B.out.grown hg10 (Nat.le_trans HB.out N9B.out.size) (fun q hq => (N9O.out.lt q hq).1))
                 have HO10 := hide (show w10.ownsRow B 3 1 v10 (l + 1) (((i.arms.take (k + 1)).flatMap armRd).map iI) by rw [HNX.out, HAX.out, List.map_append]; exact hown10)
                 have HBX10 := hide ((HBX.out.below (show Below W6.heap.size W6 N9W by rw [N9.out.1]; exact (Below.refl _ _).alloc (Nat.le_refl _) _) HBX.out.lt).grown hg10 (fun e => own_blk_ne N9O.out (HBX.out.below (show Below W6.heap.size W6 N9W by rw [N9.out.1]; exact (Below.refl _ _).alloc (Nat.le_refl _) _) HBX.out.lt) (by decide) e.symm))
                 obtain ⟨A10, c10, rfl⟩ := own_formT hown10
                 clear hown10 hg10 hat10))
            clear z0 z1 z2 z3
            have z0 : w10.cell? ⟨gx, 0, none⟩ = some (.int .i64 xk) := HBX10.out.cell 0
            have HL10 := hide (show l + 1 = ((i.arms.take (k + 1)).flatMap armRd).length by rw [HNX.out, HAX.out, List.length_append, ← HLK.out]; rfl)
            go_wp2_with fail
            go_roundw
            case rel => exact ⟨k + 1, l + 1, A10, c10, by have := HLT.out; omega, rfl, by rw [HKN.out], HL10, HO10, HB10⟩
            case measure => rw [HKN.out]; simp [intOf]; have := HLT.out; omega
          · have e2 : (xk == 2) = false := by simp [x2]
            have HAX := hide (show armRd x = [] by unfold armRd; rw [if_neg (by rw [← HXX.out.1]; exact fun h => h.elim x1 x2), if_neg (by rw [← HXX.out.1]; exact x1)]; rfl)
            have HL9 := hide (show l = ((i.arms.take (k + 1)).flatMap armRd).length by rw [HNX.out, HAX.out, List.append_nil]; exact HLK.out)
            have HO9 := hide (show W6.ownsRow B 3 1 (.slice A l c) l (((i.arms.take (k + 1)).flatMap armRd).map iI) by rw [HNX.out, HAX.out, List.append_nil]; exact HO6.out)
            go_wp2_with fail
            go_roundw
            case rel => exact ⟨k + 1, l, A, c, by have := HLT.out; omega, rfl, by rw [HKN.out], HL9, HO9, HB6⟩
            case measure => rw [HKN.out]; simp [intOf]; have := HLT.out; omega
      · have k1 : ¬ (k : Int) < (mr : Int) := by omega
        have HKE := hide (show k = mr by omega)
        clear hlt hk
        go_wp2_with fail
        go_ret
        refine ⟨_, rfl, ?_, HB1.out.trans (HWR.out.mono (Nat.le_trans HB1.out.size (Nat.le_of_eq HBE.out.symm)))⟩
        have hl : i.arms.take k = i.arms := List.take_of_length_le (by rw [← HN.out.1, HKE.out]; exact Nat.le_refl _)
        have h1 := HLK.out
        have h2 := own_monoT HO.out (B' := w.heap.size) (by have := HB1.out.size; have := HBE.out; omega)
        rw [hl] at h1 h2
        rw [HL.out, ← h1]
        exact h2
  · have b37 : (fo == 37) = false := by simp [h37]
    have HL := hide (show readL i = lettersL i S.data.toList by unfold readL; rw [if_neg (fun e => h37 (by rw [HFO.out]; exact e)), HS.out, HFO.out])
    have HRO := hide (rrow_any fo (by rw [HFO.out]; exact HOP.out) W1)
    rw [← HS.out] at HRO
    have HLE := hide (letters_any S i av (.slice Ar mr ca) W1 HOK.out (by rw [HS.out]; exact (rowR_size fo).1) HN.out.2.2)
    rw [← (show V = i.val av (.slice Ar mr ca) from HVI.out)] at HLE
    have HVB := hide (show V = .agg (i.arr av (.slice Ar mr ca)) from HVI.out)
    go_wp2_with fail
    refine HRO.out.mono ?_
    rintro e w3 ⟨rfl, rfl⟩
    clear o0
    go_wp2_with (first
      | (refine wpList_load_blk (.tmp 1) HBA.out HVB.out Try.underlying45 rfl ins_size rfl rfl rfl ?_)
      | (refine wp_load_blk (.tmp 1) HBA.out HVB.out Try.underlying45 rfl ins_size rfl rfl ?_))
    refine HLE.out.mono ?_
    rintro e w4 ⟨v4, rfl, hown4, hb4⟩
    go_wp2_with fail
    go_ret
    exact ⟨_, rfl, by rw [HL.out]; exact own_monoT hown4 HB1.out.size, HB1.out.trans (hb4.mono HB1.out.size)⟩
end Go.Proofs.Ytaaadbaakhjkcaa
