/- Where an instruction goes on (the reference's Next); conditions: the instruction is in memory. -/
import Derived.Test.YtaaadbaakhjkcaaRxF
namespace Go.Proofs.Ytaaadbaakhjkcaa
open Go.RowKit Go.WideShapes Go.ChangeShapes
set_option linter.unusedVariables false
set_option linter.unusedSimpArgs false
set_option maxRecDepth 100000

theorem RisP.mono {w w1 w' : World} {Q Q' : Int → Prop} {e : Ending} (hb : Below w.heap.size w w1) (hq : ∀ x, Q x ↔ Q' x) (h : RisP w1 Q e w') : RisP w Q' e w' := by
  obtain ⟨v, L, he, ho, hb2, hm, hl⟩ := h
  exact ⟨v, L, he, own_monoT ho hb.size, hb.trans (hb2.mono hb.size), fun x => (hm x).trans (hq x), hl⟩
theorem RisP.lit {w w1 : World} {Q : Int → Prop} {L : List Int} {cs : Array Value} {n : Nat} (hb : Below w.heap.size w w1) (hn : L.length = n) (hc : cs.toList = L.map iI) (hl : n ≤ 1000) (hm : ∀ x, x ∈ L ↔ Q x) : RisP w Q (.returned (.slice (some ⟨w1.heap.size, 0, none⟩) n n)) (w1.alloc (.cells cs 3)) := by
  subst hn
  have hcs : cs.size = L.length := by rw [← Array.length_toList, hc, List.length_map]
  refine ⟨_, L, rfl, ⟨by rw [List.length_map, Nat.mul_one], .inr ⟨w1.heap.size, L.length, cs, rfl, hb.size, Blk.new _ _ _, Nat.le_refl _, by simp only [maxLen]; omega, by rw [hcs, Nat.mul_one], by rw [Nat.mul_one, hc]; exact List.take_of_length_le (by rw [List.length_map]; exact Nat.le_refl _)⟩⟩, hb.alloc hb.size _, hm, hl⟩
set_option maxHeartbeats 16000000 in
theorem rnext_any (i : Ins) (av rv : Value) (pc : Int) (w : World) (h : InsOk w i av rv) (hn : i.arms.length ≤ 100) :
    Calls Try.prog 47 #[i.val av rv, .int .i64 pc] w (RisP w (fun x => x ∈ dest i pc)) := by
  obtain ⟨i0, hi0, hz0, hz1, hz2⟩ := info_parts intInfoT
  obtain ⟨Ar, ca, rfl⟩ := h.rm.form
  obtain ⟨mr, hmr⟩ : ∃ mr, mr = i.arms.length := ⟨_, rfl⟩
  rw [← hmr] at h hn ⊢
  obtain ⟨a, ha⟩ : ∃ a, a = w.heap.size := ⟨_, rfl⟩
  obtain ⟨W1, hW1⟩ : ∃ W1, W1 = w.alloc (.cells (i.arr av (.slice Ar mr ca)) 45) := ⟨_, rfl⟩
  have hb1 : Below w.heap.size w W1 := by rw [hW1]; exact (Below.refl _ _).alloc (Nat.le_refl _) _
  have HBA := hide (show Blk W1 a 45 (i.arr av (.slice Ar mr ca)) by rw [hW1, ha]; exact Blk.new _ _ _)
  obtain ⟨V, hV⟩ : ∃ V, V = i.val av (.slice Ar mr ca) := ⟨_, rfl⟩
  have HVI := hide hV
  obtain ⟨fo, hfo⟩ : ∃ fo, fo = i.op := ⟨_, rfl⟩
  obtain ⟨ft, hft⟩ : ∃ ft, ft = i.to_ := ⟨_, rfl⟩
  obtain ⟨pw, hpw⟩ : ∃ pw, pw = IntKind.i64.wrap (pc + 1) := ⟨_, rfl⟩
  have q1 : IntKind.i64.wrap (pc + 1) = pw := hpw.symm
  have o0 : W1.cell? ⟨a, 0, none⟩ = some (.int .i64 fo) := by rw [hfo]; exact HBA.out.cell 0
  have o14 : W1.cell? ⟨a, 14, none⟩ = some (.int .i64 ft) := by rw [hft]; exact HBA.out.cell 14
  have HOK := hide (h.below hb1 (Nat.le_refl _))
  have HN := hide (And.intro hmr hn)
  have HB1 := hide hb1
  have HW1 := hide hW1
  have HA := hide ha
  have HD := hide (show dest i pc = (if fo = 19 then [ft] else if fo = 20 then [ft, pw] else if fo = 37 then i.arms.map Arm.to_ else if fo = 23 ∨ fo = 26 then [] else [pw]) by unfold dest; rw [hfo, hft, hpw])
  rw [← hV]
  clear h hn hmr ha hb1 hW1 hV hfo hft hpw
  go_enter Try.func47, Try.ntmps47
  go_upto_region 1 with (fail)
  rw [HVI.out, ← HW1.out, ← HA.out, ← HVI.out]
  by_cases c19 : fo = 19
  · have b19 : (fo == 19) = true := by simp [c19]
    have HF := hide (show RisP w (fun x => x ∈ dest i pc) (.returned (.slice (some ⟨W1.heap.size, 0, none⟩) 1 1)) (W1.alloc (.cells #[.int .i64 ft] 3)) from
      RisP.lit (L := [ft]) HB1.out rfl rfl (by decide) (fun x => by rw [HD.out, if_pos c19]))
    go_wp2_with fail
    go_ret
    exact HF.out
  have b19 : (fo == 19) = false := by simp [c19]
  by_cases c20 : fo = 20
  · have b20 : (fo == 20) = true := by simp [c20]
    have HX := hide (show RisP W1 (fun x => x ∈ [ft, pw]) (.returned (.slice (some ⟨W1.heap.size, 0, none⟩) 2 2)) (W1.alloc (.cells #[.int .i64 ft, .int .i64 pw] 3)) from
      RisP.lit (L := [ft, pw]) (Below.refl _ _) rfl rfl (by decide) (fun x => Iff.rfl))
    obtain ⟨W2, hW2⟩ : ∃ W2, W2 = W1.alloc (.cells #[.int .i64 ft, .int .i64 pw] 3) := ⟨_, rfl⟩
    have HB2 := hide (show Below W1.heap.size W1 W2 by rw [hW2]; exact (Below.refl _ _).alloc (Nat.le_refl _) _)
    have HRI := hide (rising_any (.slice (some ⟨W1.heap.size, 0, none⟩) 2 2) [ft, pw] W2 (by
      obtain ⟨v, L, he, ho, _, _, _⟩ := HX.out
      have : W2.ownsRow W1.heap.size 3 1 (.slice (some ⟨W1.heap.size, 0, none⟩) 2 2) 2 ([ft, pw].map iI) := by
        rw [hW2]
        exact ⟨rfl, .inr ⟨W1.heap.size, 2, _, rfl, Nat.le_refl _, Blk.new _ _ _, Nat.le_refl _, by decide, rfl, rfl⟩⟩
      exact IntsAt.own this) (by simp))
    have HW2 := hide hW2
    have HDX := hide (show dest i pc = [ft, pw] by rw [HD.out, if_neg c19, if_pos c20])
    clear hW2 HX
    go_upto_region 5 with (fail)
    go_wp2_with fail
    rw [← HW2.out]
    refine HRI.out.mono ?_
    rintro e w3 hr
    have HR := hide (RisP.mono (HB1.out.trans (HB2.out.mono HB1.out.size)) (Q' := fun x => x ∈ dest i pc) (fun x => by rw [HDX.out]) hr)
    obtain ⟨v3, L3, rfl, _⟩ := hr
    go_wp2_with fail
    go_ret
    exact HR.out
  have b20 : (fo == 20) = false := by simp [c20]
  by_cases c37 : fo = 37
  · have b37 : (fo == 37) = true := by simp [c37]
    have HDX := hide (show dest i pc = i.arms.map Arm.to_ by rw [HD.out, if_neg c19, if_neg c20, if_pos c37])
    obtain ⟨B, hB⟩ : ∃ B, B = W1.heap.size := ⟨_, rfl⟩
    obtain ⟨W2, hW2⟩ : ∃ W2, W2 = W1.alloc (.cells #[] 3) := ⟨_, rfl⟩
    have HO2 := hide (show W2.ownsRow B 3 1 (.slice (some ⟨B, 0, none⟩) 0 0) 0 (((i.arms.take 0).map Arm.to_).map iI) from ⟨rfl, .inr ⟨B, 0, #[], rfl, Nat.le_refl _, by rw [hW2, hB]; exact Blk.new _ _ _, Nat.le_refl _, by simp only [maxLen]; omega, rfl, rfl⟩⟩)
    have HB2 := hide (show Below B W1 W2 by rw [hW2, hB]; exact (Below.refl _ _).alloc (Nat.le_refl _) _)
    have HB := hide (show B ≤ W1.heap.size from Nat.le_of_eq hB)
    have HAB := hide (show a < B by rw [hB]; exact HBA.out.lt)
    have HBE := hide hB
    have HW2 := hide hW2
    have HC := hide (fun wr (hw : Below B W1 wr) => show wr.cell? ⟨a, 15, none⟩ = some (.slice Ar mr ca) from (HBA.out.below hw HAB.out).cell 15)
    clear hB hW2
    go_upto_region 9 with (fail)
    rw [← HBE.out, ← HW2.out]
    clear o0 o14 q1
    go_loopw [5, 6] (fun ov kv wr => ∃ (k : Nat) (A : Option Addr) (c : Nat), k ≤ mr ∧ ov = .slice A k c ∧ kv = .int .i64 (k : Int) ∧ Hid (wr.ownsRow B 3 1 (.slice A k c) k (((i.arms.take k).map Arm.to_).map iI)) ∧ Hid (Below B W1 wr)) (fun _ kv _ => mr - (intOf kv).toNat)
    case atStart => exact ⟨0, _, 0, Nat.zero_le _, rfl, rfl, HO2, HB2⟩
    case round =>
      clear HO2 HB2
      obtain ⟨k, A, c, hk, rfl, rfl, HO, HWR⟩ := hrel
      have c15 := HC.out wr HWR.out
      by_cases hlt : k < mr
      · have k1 : (k : Int) < (mr : Int) := by omega
        have k2 : (0 : Int) ≤ (k : Int) := by omega
        have q5 : IntKind.i64.wrap ((k : Int) + 1) = ((k + 1 : Nat) : Int) := by rw [show (k : Int) + 1 = ((k + 1 : Nat) : Int) by omega]; exact IntWalk.i64_in _ (by have := HN.out; omega)
        obtain ⟨kn, hkn⟩ : ∃ kn, kn = k + 1 := ⟨_, rfl⟩
        rw [← hkn] at q5
        have HKN := hide hkn
        have HLT := hide hlt
        obtain ⟨b3, o3, x, hA3, hl3, hx3, u0, u1, u2, u3, u4, u5⟩ := ArmsAt.at_ HOK.out.rm (i := k) (by rw [← HN.out.1]; exact hlt)
        subst hA3
        have hb3B : b3 < B := by have := HBE.out; omega
        obtain ⟨xt, hxt⟩ : ∃ xt, xt = x.to_ := ⟨_, rfl⟩
        have HNX := hide (show (i.arms.take (k + 1)).map Arm.to_ = (i.arms.take k).map Arm.to_ ++ [xt] by
          rw [List.take_add_one, hx3, List.map_append, hxt]
          rfl)
        have v5 : wr.cell? ⟨b3, o3 + k * 6 + 5, none⟩ = some (.int .i64 xt) := by rw [hxt]; exact (HWR.out.cell (p := ⟨b3, o3 + k * 6 + 5, none⟩) hb3B).trans u5
        have HLB := hide (show k ≤ 100 by have := HN.out; omega)
        clear hkn hlt hl3 hx3 u0 u1 u2 u3 u4 u5 hxt hk
        obtain ⟨N9W, hN9W⟩ : ∃ W, W = wr.alloc (.cells #[.int .i64 (xt)] 3) := ⟨_, rfl⟩
        have hN9b : Below wr.heap.size wr N9W := by rw [hN9W]; exact (Below.refl _ _).alloc (Nat.le_refl _) _
        have N9O := hide (own_belowT HO.out hN9b)
        have N9B := hide ((HWR.out).trans (hN9b.mono (Nat.le_trans HB.out (HWR.out).size)))
        have N9 := hide (show N9W = wr.alloc (.cells #[.int .i64 (xt)] 3) ∧ Blk N9W wr.heap.size 3 #[.int .i64 (xt)] ∧ B ≤ N9W.heap.size from ⟨hN9W, by rw [hN9W]; exact Blk.new _ _ _, Nat.le_trans HB.out N9B.out.size⟩)
        clear hN9W hN9b
        go_upto_region 10 with (first
          | (at_builtin
             rw [← N9.out.1]
             refine wpList_append_any _ rfl (.tmp 32) (.tmp 39) _ rfl B 3 i0 _ 1 8 Try.underlying23 hi0 hz0 hz1 hz2 rfl (by omega) (.slice A k c) k _ rfl N9O.out (wr.heap.size + 1) (some ⟨wr.heap.size, 0, none⟩) 1 1 [.int .i64 (xt)] rfl ?rd ?on ?b1 ?b2 ?sz ?_
             case rd => exact ⟨rfl, fun _ => ⟨_, rfl, Nat.lt_succ_self _, fun q u hu => by rw [Addr.add_lit, Nat.zero_add, N9.out.2.1.cell q]; simpa using hu⟩⟩
             case on => (intro u hu; simp at hu; subst hu; rfl)
             case b1 => (have := HLB.out; simp only [maxLen]; omega)
             case b2 => (have := HLB.out; omega)
             case sz => exact N9.out.2.2
             intro v10 w10 hown10 hg10 hat10
             have HB10 := hide (N9B.out.grown hg10 (Nat.le_trans HB.out N9B.out.size) (fun q hq => (N9O.out.lt q hq).1))
             have HO10 := hide (show w10.ownsRow B 3 1 v10 (k + 1) (((i.arms.take (k + 1)).map Arm.to_).map iI) by rw [HNX.out, List.map_append]; exact hown10)
             obtain ⟨A10, c10, rfl⟩ := own_formT hown10
             clear hown10 hg10 hat10))
        go_wp2_with fail
        go_roundw
        case rel => exact ⟨k + 1, A10, c10, by have := HLT.out; omega, rfl, by rw [HKN.out], HO10, HB10⟩
        case measure => rw [HKN.out]; simp [intOf]; have := HLT.out; omega
      · have k1 : ¬ (k : Int) < (mr : Int) := by omega
        have HKE := hide (show k = mr by omega)
        have HRI := hide (rising_any (.slice A k c) (i.arms.map Arm.to_) wr (by
          have h2 := HO.out
          rw [List.take_of_length_le (by rw [← HN.out.1, HKE.out]; exact Nat.le_refl _)] at h2
          refine IntsAt.own (B := B) ?_
          rw [List.length_map, ← HN.out.1]
          rw [HKE.out] at h2 ⊢
          exact h2) (by rw [List.length_map, ← HN.out.1]; have := HN.out; omega))
        clear hlt hk
        go_wp2_with fail
        refine HRI.out.mono ?_
        rintro e w3 hr
        have HR := hide (RisP.mono (HB1.out.trans (HWR.out.mono (Nat.le_trans HB1.out.size (Nat.le_of_eq HBE.out.symm)))) (Q' := fun x => x ∈ dest i pc) (fun x => by rw [HDX.out]) hr)
        obtain ⟨v3, L3, rfl, _⟩ := hr
        go_wp2_with fail
        go_ret
        exact HR.out
  have b37 : (fo == 37) = false := by simp [c37]
  have HNIL := hide (fun (hd : dest i pc = []) => show RisP w (fun x => x ∈ dest i pc) (.returned (.slice none 0 0)) W1 from ⟨_, [], rfl, World.ownsRow_nil _ _ _ _, HB1.out, fun x => by rw [hd], by decide⟩)
  have HONE := hide (fun (hd : dest i pc = [pw]) => show RisP w (fun x => x ∈ dest i pc) (.returned (.slice (some ⟨W1.heap.size, 0, none⟩) 1 1)) (W1.alloc (.cells #[.int .i64 pw] 3)) from RisP.lit (L := [pw]) HB1.out rfl rfl (by decide) (fun x => by rw [hd]))
  by_cases c23 : fo = 23
  · have b23 : (fo == 23) = true := by simp [c23]
    have HF := hide (HNIL.out (by rw [HD.out, if_neg c19, if_neg c20, if_neg c37, if_pos (.inl c23)]))
    go_wp2_with fail
    go_ret
    exact HF.out
  have b23 : (fo == 23) = false := by simp [c23]
  by_cases c26 : fo = 26
  · have b26 : (fo == 26) = true := by simp [c26]
    have HF := hide (HNIL.out (by rw [HD.out, if_neg c19, if_neg c20, if_neg c37, if_pos (.inr c26)]))
    go_wp2_with fail
    go_ret
    exact HF.out
  have b26 : (fo == 26) = false := by simp [c26]
  have HF := hide (HONE.out (by rw [HD.out, if_neg c19, if_neg c20, if_neg c37, if_neg (fun h => h.elim c23 c26)]))
  go_wp2_with fail
  go_ret
  exact HF.out
end Go.Proofs.Ytaaadbaakhjkcaa
