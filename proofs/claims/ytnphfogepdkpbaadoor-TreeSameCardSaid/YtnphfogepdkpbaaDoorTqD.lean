/- Of how many nodes a node is made, as the reference counts (lorgnetteref03.count); conditions: the nodes are in memory and few. -/
import Derived.Test.YtnphfogepdkpbaaDoorTqC
namespace Go.Proofs.YtnphfogepdkpbaaDoor
open Go.RowKit Go.WideShapes Go.ChangeShapes
set_option linter.unusedVariables false
set_option linter.unusedSimpArgs false
set_option maxRecDepth 100000

def szC (P : Nat) (L : List Nd) (ks : List Int) : Nat := min P (1 + (((thrI ks).map Int.toNat).flatMap (W L)).length)
theorem szC_snoc (P : Nat) (L : List Nd) (ks : List Int) (k : Int) : szC P L (ks ++ [k]) = if k = 0 then szC P L ks else min P (szC P L ks + min P (W L k.toNat).length) := by
  unfold szC
  rw [thrI_snoc]
  by_cases h : k = 0
  · rw [if_pos h, if_pos h, List.append_nil]
  · rw [if_neg h, if_neg h, List.map_append, List.flatMap_append, List.length_append]
    simp
    omega
theorem szC_le (P : Nat) (L : List Nd) (ks : List Int) : szC P L ks ≤ P := by unfold szC; omega
set_option maxHeartbeats 4000000 in
theorem count_any (av : Value) (L : List Nd) (i : Nat) (w : World) (h : NodesAt w av L) (hL : OkL L) (h1 : 1 ≤ i) (h2 : i ≤ L.length) (hll : L.length ≤ 60) (hk : ∀ n ∈ L, n.kids.length ≤ 20) :
    Calls Tryd.prog 27 #[av, .int .i64 (i : Int)] w (IntP w (min 131072 (W L i).length)) := by
  obtain ⟨i0, hi0, hz0, hz1, hz2⟩ := info_parts intInfoT
  obtain ⟨An, cn, rfl⟩ := h.form
  obtain ⟨mm, hmm⟩ : ∃ mm, mm = L.length := ⟨_, rfl⟩
  rw [← hmm] at h hll h2 ⊢
  have hmk : ∀ W : World, (Instr.makeSlice 32 (.int .i64 ((mm : Int) + 1)) (.int .i64 ((mm : Int) + 1))).run Tryd.prog W = .ok (.slice (some ⟨W.heap.size, 0, none⟩) (mm + 1) (mm + 1)) (W.alloc (.cells (Array.replicate (mm + 1) (.int .i64 0)) 3)) := fun W => by
    have h := run_make_rowN (P := Tryd.prog) 32 3 i0 _ Tryd.underlying32 hi0 hz0 .i64 .i64 (mm + 1) (mm + 1) (Nat.le_refl _) (by rw [hz2]; omega) (by omega) W
    rw [hz1] at h
    have e1 : madeCells (Value.int .i64 0).cells ((mm + 1) * 1) = Array.replicate (mm + 1) (.int .i64 0) := by
      rw [Nat.mul_one]
      apply Array.ext
      · simp [madeCells]
      · intro j a b
        simp [madeCells, Value.cells, Nat.mod_one]
    rw [e1] at h
    exact h
  obtain ⟨g, hg⟩ : ∃ g, g = w.heap.size := ⟨_, rfl⟩
  have HM0 : Hid (Mi w (w.alloc (.cells (Array.replicate (mm + 1) (.int .i64 0)) 3)) g mm (fun _ => 0)) := hide (by
    rw [hg]
    exact ⟨⟨Array.replicate (mm + 1) (.int .i64 0), Blk.new w _ _, by rw [Array.size_replicate], fun j hj => by rw [Array.getElem?_replicate, if_pos (by omega)]; rfl⟩, (Below.refl _ _).alloc (Nat.le_refl _) _, Nat.le_refl _⟩)
  have HN := hide h
  have HOK := hide hL
  have HK := hide hk
  have HI := hide (And.intro h1 (And.intro h2 (And.intro hll hmm)))
  have q0 : IntKind.i64.wrap ((mm : Int) + 1) = (mm : Int) + 1 := IntWalk.i64_in _ (by omega)
  have HG := hide hg
  clear h hL h1 h2 hg hk hll hmm
  go_enter Tryd.func27, Tryd.ntmps27
  go_wp2_with fail
  rw [← HG.out]
  obtain ⟨W1, hW1⟩ : ∃ W1, W1 = w.alloc (.cells (Array.replicate (mm + 1) (.int .i64 0)) 3) := ⟨_, rfl⟩
  rw [← hW1] at HM0 ⊢
  clear hW1 q0 hmk
  go_loopw [6] (fun kk wr => ∃ (k : Nat) (f : Nat → Nat), 1 ≤ k ∧ k ≤ i + 1 ∧ kk = .int .i64 k ∧ Hid (Mi w wr g mm f) ∧ Hid (f 0 = 0 ∧ ∀ j, 1 ≤ j → j < k → f j = min 131072 (W L j).length)) (fun kk _ => i + 1 - (intOf kk).toNat)
  case atStart => exact ⟨1, _, Nat.le_refl _, by omega, rfl, HM0, hide ⟨rfl, fun j a b => by omega⟩⟩
  case round =>
    obtain ⟨k, f, hk1, hk2, rfl, HM, HF⟩ := hrel
    by_cases hki : k ≤ i
    · have j1 : (k : Int) < (mm : Int) + 1 := by have := HI.out; omega
      have j2 : (k : Int) ≤ (i : Int) := by omega
      have q3 : IntKind.i64.wrap ((k : Int) + 1) = (k : Int) + 1 := IntWalk.i64_in _ (by have := HI.out; omega)
      have hat := HM.out.at_ (j := k) (by have := HI.out; omega)
      have u1 := hat.1
      have u2 := hat.2
      have HM1 := hide (HM.out.set_ (c := k) 1 (by have := HI.out; omega))
      have e1 : ((1 : Nat) : Int) = 1 := rfl
      rw [e1] at HM1
      have HKK := hide (And.intro hk1 hki)
      obtain ⟨W2, hW2⟩ : ∃ W2, W2 = wr.setCell ⟨g, k, none⟩ (.int .i64 1) := ⟨_, rfl⟩
      rw [← hW2] at HM1
      have HW2 := hide hW2
      obtain ⟨b, of, n, kv, rfl, hbl, hn, x0, x1, x2, x3, x4, x5, xk⟩ := HN.out.at_ (k := k - 1) (by have := HI.out; omega)
      obtain ⟨Ak, ck, rfl⟩ := xk.form
      obtain ⟨k1, hk1e⟩ : ∃ k1, k1 = k - 1 := ⟨_, rfl⟩
      rw [← hk1e] at x5
      have q2 : IntKind.i64.wrap ((k : Int) - 1) = (k1 : Int) := by rw [show (k : Int) - 1 = (k1 : Int) by omega]; exact IntWalk.i64_in _ (by have := HI.out; omega)
      obtain ⟨m, hm⟩ : ∃ m, m = n.kids.length := ⟨_, rfl⟩
      rw [← hm] at x5 xk
      have j3 : (k1 : Int) < (mm : Int) := by have := HI.out; omega
      have j4 : (0 : Int) ≤ (k1 : Int) := by omega
      have HKD : Hid (∀ V : World, Below w.heap.size w V → V.cell? ⟨b, of + k1 * 6 + 5, none⟩ = some (.slice Ak m ck)) := hide (fun V hV => (hV.cell (p := ⟨b, of + k1 * 6 + 5, none⟩) hbl).trans x5)
      have HXK := hide xk
      have HMM := hide (And.intro hm (HK.out n (List.mem_of_getElem? hn)))
      have HNN := hide hn
      have HSZ : Hid (setF f k 1 k = szC 131072 L (n.kids.take 0)) := hide (by unfold setF; rw [if_pos rfl]; simp [szC, thrI])
      have HFO : Hid (∀ j, j ≠ k → setF f k 1 j = f j) := hide (fun j hj => if_neg hj)
      clear hat e1 hm hn hk1e hW2 x0 x1 x2 x3 x4 x5 xk hbl
      go_upto_region 6 with (fail)
      rw [← HW2.out]
      go_wp2_with fail
      go_loopw [7] (fun jj wr2 => ∃ (j : Nat) (f' : Nat → Nat), j ≤ m ∧ jj = .int .i64 j ∧ Hid (Mi w wr2 g mm f') ∧ Hid (f' k = szC 131072 L (n.kids.take j)) ∧ Hid (∀ q, q ≠ k → f' q = f q)) (fun jj _ => m - (intOf jj).toNat)
      case atStart => exact ⟨0, _, Nat.zero_le _, rfl, HM1, HSZ, HFO⟩
      case round =>
        obtain ⟨j, f', hj, rfl, HM2, HQ, HO⟩ := hrel
        have y5 := HKD.out wr HM2.out.be
        by_cases hlt2 : j < m
        · obtain ⟨b3, of3, x, rfl, _, hx, hcell⟩ := (HXK.out.below HM2.out.be (Nat.le_refl _)).at_ (k := j) (by rw [← HMM.out.1]; exact hlt2)
          have hgx := (goodN_iff.1 (HOK.out _ _ HNN.out)).2 x (List.mem_of_getElem? hx)
          obtain ⟨z, rfl⟩ : ∃ z : Nat, x = (z : Int) := ⟨x.toNat, by omega⟩
          have hzk : z < k := by have := HKK.out; omega
          have j5 : (z : Int) < (mm : Int) + 1 := by have := HI.out; have := HKK.out; omega
          have j6 : (0 : Int) ≤ (z : Int) := by omega
          have c1 := (HM2.out.at_ (j := k) (by have := HI.out; have := HKK.out; omega)).1
          have c2 := (HM2.out.at_ (j := k) (by have := HI.out; have := HKK.out; omega)).2
          have c3 := (HM2.out.at_ (j := z) (by have := HI.out; have := HKK.out; omega)).1
          obtain ⟨s, hs⟩ : ∃ s, s = f' k := ⟨_, rfl⟩
          obtain ⟨t, htt⟩ : ∃ t, t = f' z := ⟨_, rfl⟩
          rw [← hs] at c1
          rw [← htt] at c3
          obtain ⟨s2, hs2⟩ : ∃ s2, s2 = min 131072 (s + t) := ⟨_, rfl⟩
          have hsl : s ≤ 131072 := by rw [hs, HQ.out]; exact szC_le _ _ _
          have hnx : s2 = szC 131072 L (n.kids.take (j + 1)) := by
            rw [take_snoc hx, szC_snoc, ← HQ.out, ← hs, hs2, htt, HO.out z (by omega)]
            by_cases h0 : z = 0
            · subst h0
              rw [HF.out.1, if_pos (show ((0 : Nat) : Int) = 0 from rfl)]
              omega
            · rw [if_neg (by omega), HF.out.2 z (by omega) hzk]
              rfl
          have htl : t ≤ 131072 := by
            rw [htt, HO.out z (by omega)]
            by_cases h0 : z = 0
            · subst h0
              rw [HF.out.1]
              omega
            · rw [HF.out.2 z (by omega) hzk]
              omega
          have q4 : IntKind.i64.wrap ((s : Int) + (t : Int)) = (s : Int) + (t : Int) := IntWalk.i64_in _ (by omega)
          have q5 : IntKind.i64.wrap ((j : Int) + 1) = (j : Int) + 1 := IntWalk.i64_in _ (by have := HMM.out; omega)
          have HMIN := hide (show min ((s : Int) + (t : Int)) 131072 = (s2 : Int) by rw [hs2]; omega)
          have HMN := hide ((HM2.out.set_ (c := k) s2 (by have := HI.out; have := HKK.out; omega)).drew)
          have HSN : Hid (setF f' k s2 k = szC 131072 L (n.kids.take (j + 1))) := hide (by unfold setF; rw [if_pos rfl]; exact hnx)
          have HON : Hid (∀ q, q ≠ k → setF f' k s2 q = f q) := hide (fun q hq => (if_neg hq).trans (HO.out q hq))
          clear hx hgx hzk hs htt hs2 hsl hnx htl
          go_wp2_with fail
          go_still_tail 21, (by kernel_rfl)
          rw [HMIN.out]
          go_wp2_with fail
          go_roundw
          case rel => exact ⟨j + 1, _, by omega, by simp, HMN, HSN, HON⟩
          case measure => simp [intOf]; omega
        · have HF2 : Hid (f' 0 = 0 ∧ ∀ q, 1 ≤ q → q < k + 1 → f' q = min 131072 (W L q).length) := hide (by
            refine ⟨by rw [HO.out 0 (by have := HKK.out; omega)]; exact HF.out.1, fun q a b => ?_⟩
            by_cases e : q = k
            · subst e
              have h := HQ.out
              rw [List.take_of_length_le (by have := HMM.out.1; omega)] at h
              have hthr : thr L q = (thrI n.kids).map Int.toNat := by unfold thr kid; rw [HNN.out]
              rw [h, W_unf HOK.out a (by have := HI.out; have := HKK.out; omega), hthr]
              unfold szC
              rw [List.length_cons, Nat.add_comm]
            · rw [HO.out q e]
              exact HF.out.2 q a (by omega))
          go_wp2_with fail
          go_roundw
          case rel => exact ⟨k + 1, f', by omega, by have := HKK.out; omega, by simp, HM2, HF2⟩
          case measure => have := HKK.out; simp [intOf]; omega
    · have hke : k = i + 1 := by omega
      subst hke
      have u1 := (HM.out.at_ (j := i) (by have := HI.out; omega)).1
      rw [HF.out.2 i HI.out.1 (by omega)] at u1
      have j1 : ¬ ((i : Int) + 1 ≤ (i : Int)) := by omega
      have j2 : (i : Int) < (mm : Int) + 1 := by have := HI.out; omega
      obtain ⟨r, hr⟩ : ∃ r, r = min 131072 (W L i).length := ⟨_, rfl⟩
      rw [← hr] at u1
      have HRR := hide hr
      clear hr
      go_wp2_with fail
      go_ret
      exact ⟨by rw [← HRR.out]; rfl, HM.out.be⟩
end Go.Proofs.YtnphfogepdkpbaaDoor
