/- swapped of package tree; conditions: the tree is in memory. -/
import Derived.Test.YtnphfogepdkpbaaDoorTrN
import Derived.Test.YtnphfogepdkpbaaDoorTrR
namespace Go.Proofs.YtnphfogepdkpbaaDoor
open Go.RowKit Go.WideShapes Go.ChangeShapes
set_option linter.unusedVariables false
set_option linter.unusedSimpArgs false
set_option maxRecDepth 100000

/-- Numbers in block g, up to i. -/
structure Mi (w W : World) (g i : Nat) (f : Nat → Nat) : Prop where
  ex : ∃ cs : Array Value, Blk W g 3 cs ∧ cs.size = i + 1 ∧ ∀ j, j ≤ i → cs[j]? = some (.int .i64 (f j : Nat))
  be : Below w.heap.size w W
  gB : w.heap.size ≤ g
def setF (f : Nat → Nat) (c v : Nat) : Nat → Nat := fun j => if j = c then v else f j
theorem Mi.set_ {w W : World} {g i c : Nat} {f : Nat → Nat} (h : Mi w W g i f) (v : Nat) (hc : c ≤ i) : Mi w (W.setCell ⟨g, c, none⟩ (.int .i64 (v : Nat))) g i (setF f c v) := by
  obtain ⟨⟨cs, h1, h2, h3⟩, h4, h5⟩ := h
  refine ⟨⟨_, h1.set_ c _, by simpa using h2, fun j hj => ?_⟩, h4.setCell (p := ⟨g, c, none⟩) h5 _, h5⟩
  unfold setF
  by_cases e : j = c
  · subst e
    rw [if_pos rfl, Array.getElem?_setIfInBounds_self_of_lt (by omega)]
  · rw [if_neg e, Array.getElem?_setIfInBounds_ne (by omega)]
    exact h3 j hj
theorem Mi.drew {w W : World} {g i : Nat} {f : Nat → Nat} (h : Mi w W g i f) : Mi w W.drew g i f := ⟨h.ex, h.be.drew, h.gB⟩
theorem Mi.at_ {w W : World} {g i : Nat} {f : Nat → Nat} (h : Mi w W g i f) {j : Nat} (hj : j ≤ i) : W.cell? ⟨g, j, none⟩ = some (.int .i64 (f j : Nat)) ∧ W.frozen? ⟨g, j, none⟩ = false := by
  obtain ⟨⟨cs, h1, h2, h3⟩, _⟩ := h
  exact ⟨(h1.cell j).trans (h3 j hj), h1.frozen j⟩
def szW (L : List Nd) (y : Nat) (ks : List Nat) : Nat := min 65537 (1 + (ks.flatMap (Wx L y)).length)
theorem szW_snoc (L : List Nd) (y : Nat) (ks : List Nat) (k : Nat) : szW L y (ks ++ [k]) = min 65537 (szW L y ks + min 65537 (Wx L y k).length) := by
  unfold szW
  rw [List.flatMap_append, List.length_append]
  simp
  omega
theorem szW_le (L : List Nd) (y : Nat) (ks : List Nat) : szW L y ks ≤ 65537 := by unfold szW; omega
/-- The parts that are there, of a node, in a later world. -/
theorem TR.there {w W : World} {tb : Nat} {L : List Nd} {k : Nat} {n : Nd} (h : TR w tb L) (hn : L[k]? = some n) (hb : Below w.heap.size w W) : ∃ blk off c A ck, W.cell? ⟨tb, 0, none⟩ = some (.slice (some ⟨blk, off, none⟩) L.length c) ∧ W.cell? ⟨blk, off + k * 9 + 6, none⟩ = some (.slice A (thrI n.kids).length ck) ∧ IntsAt w (.slice A (thrI n.kids).length ck) (thrI n.kids) := by
  obtain ⟨blk, off, c, kv, tv, ht, hlt, h0, h2, h3, h4, h5, h6, h7, h8, h9, hki, hti⟩ := h.at_ hn
  obtain ⟨A, ck, rfl⟩ := hti.form
  exact ⟨blk, off, c, A, ck, (hb.cell (p := ⟨tb, 0, none⟩) h.lt).trans ht, (hb.cell (p := ⟨blk, off + k * 9 + 6, none⟩) hlt).trans h7, hti⟩
def IntP (w : World) (r : Nat) (e : Ending) (w' : World) : Prop := e = .returned (.int .i64 (r : Int)) ∧ Below w.heap.size w w'
set_option maxHeartbeats 4000000 in
theorem swapped_any (tb : Nat) (L : List Nd) (i y : Nat) (w : World) (h : TR w tb L) (hkb : KB L) (h1 : 1 ≤ i) (h2 : i ≤ L.length) : Calls Tryd.prog 30 #[.pointer (some ⟨tb, 0, none⟩), .int .i64 (i : Int), .int .i64 (y : Int)] w (IntP w (min 65537 (Wx L y i).length)) := by
  obtain ⟨i0, hi0, hz0, hz1, hz2⟩ := info_parts intInfoT
  have hle : i ≤ 65536 := Nat.le_trans h2 h.le
  have hmk : ∀ W : World, (Instr.makeSlice 32 (.int .i64 ((i : Int) + 1)) (.int .i64 ((i : Int) + 1))).run Tryd.prog W = .ok (.slice (some ⟨W.heap.size, 0, none⟩) (i + 1) (i + 1)) (W.alloc (.cells (Array.replicate (i + 1) (.int .i64 0)) 3)) := fun W => by
    have h := run_make_rowN (P := Tryd.prog) 32 3 i0 _ Tryd.underlying32 hi0 hz0 .i64 .i64 (i + 1) (i + 1) (Nat.le_refl _) (by rw [hz2]; omega) (by omega) W
    rw [hz1] at h
    have e1 : madeCells (Value.int .i64 0).cells ((i + 1) * 1) = Array.replicate (i + 1) (.int .i64 0) := by
      rw [Nat.mul_one]
      apply Array.ext
      · simp [madeCells]
      · intro j a b
        simp [madeCells, Value.cells, Nat.mod_one]
    rw [e1] at h
    exact h
  obtain ⟨g, hg⟩ : ∃ g, g = w.heap.size := ⟨_, rfl⟩
  have HM0 : Hid (Mi w (w.alloc (.cells (Array.replicate (i + 1) (.int .i64 0)) 3)) g i (fun _ => 0)) := hide (by
    rw [hg]
    exact ⟨⟨Array.replicate (i + 1) (.int .i64 0), Blk.new w _ _, by rw [Array.size_replicate], fun j hj => by rw [Array.getElem?_replicate, if_pos (by omega)]; rfl⟩, (Below.refl _ _).alloc (Nat.le_refl _) _, Nat.le_refl _⟩)
  have HTR := hide h
  have HKB := hide hkb
  have HI := hide (And.intro h1 (And.intro h2 hle))
  have q0 : IntKind.i64.wrap ((i : Int) + 1) = (i : Int) + 1 := IntWalk.i64_in _ (by omega)
  have HG := hide hg
  clear h h1 h2 hg hkb
  go_enter Tryd.func30, Tryd.ntmps30
  go_wp2_with fail
  rw [← HG.out]
  obtain ⟨W1, hW1⟩ : ∃ W1, W1 = w.alloc (.cells (Array.replicate (i + 1) (.int .i64 0)) 3) := ⟨_, rfl⟩
  rw [← hW1] at HM0 ⊢
  clear hW1 q0 hmk
  go_loopw [8] (fun kk wr => ∃ (k : Nat) (f : Nat → Nat), 1 ≤ k ∧ k ≤ i + 1 ∧ kk = .int .i64 k ∧ Hid (Mi w wr g i f) ∧ Hid (∀ j, 1 ≤ j → j < k → f j = min 65537 (Wx L y j).length)) (fun kk _ => i + 1 - (intOf kk).toNat)
  case atStart => exact ⟨1, _, Nat.le_refl _, by omega, rfl, HM0, hide (fun j a b => by omega)⟩
  case round =>
    obtain ⟨k, f, hk1, hk2, rfl, HM, HF⟩ := hrel
    by_cases hki : k ≤ i
    · have j1 : (k : Int) < (i : Int) + 1 := by omega
      have j2 : (k : Int) ≤ (i : Int) := by omega
      have q3 : IntKind.i64.wrap ((k : Int) + 1) = (k : Int) + 1 := IntWalk.i64_in _ (by omega)
      have hat := HM.out.at_ hki
      have u1 := hat.1
      have u2 := hat.2
      have HM1 := hide (HM.out.set_ 1 hki)
      have e1 : ((1 : Nat) : Int) = 1 := rfl
      rw [e1] at HM1
      have HK := hide (And.intro hk1 hki)
      obtain ⟨W2, hW2⟩ : ∃ W2, W2 = wr.setCell ⟨g, k, none⟩ (.int .i64 1) := ⟨_, rfl⟩
      rw [← hW2] at HM1
      have HW2 := hide hW2
      by_cases hky : k = y
      · obtain rfl : k = y := hky
        have i5 : ((k : Int) == (k : Int)) = true := by simp
        have HF2 : Hid (∀ j, 1 ≤ j → j < k + 1 → setF f k 1 j = min 65537 (Wx L k j).length) := hide (fun j a b => by
          unfold setF
          by_cases e : j = k
          · subst e
            rw [if_pos rfl, Wx_unf HTR.out.ok a (by have := HI.out.2.1; omega), if_pos rfl]
            rfl
          · rw [if_neg e]
            exact HF.out j a (by omega))
        clear hat e1 hW2
        go_wp2_with fail
        rw [← HW2.out]
        go_roundw
        case rel => exact ⟨k + 1, _, by omega, by omega, by simp, HM1, HF2⟩
        case measure => simp [intOf]; omega
      · have i5 : ((k : Int) == (y : Int)) = false := by rw [beq_eq_false_iff_ne]; omega
        have i6 : ¬ (k : Int) = (y : Int) := by omega
        obtain ⟨n, hn⟩ : ∃ n, L[k - 1]? = some n := ⟨_, List.getElem?_eq_getElem (by have := HI.out.2.1; omega)⟩
        have hthr : thr L k = (thrI n.kids).map Int.toNat := by unfold thr kid; rw [hn]
        obtain ⟨blk, off, c, Ak, ck, ht, h7, hti⟩ := HTR.out.there hn HM1.out.be
        obtain ⟨k1, hk1e⟩ : ∃ k1, k1 = k - 1 := ⟨_, rfl⟩
        rw [← hk1e] at h7
        have q2 : IntKind.i64.wrap ((k : Int) - 1) = (k1 : Int) := by rw [show (k : Int) - 1 = (k1 : Int) by omega]; exact IntWalk.i64_in _ (by omega)
        obtain ⟨m, hm⟩ : ∃ m, m = (thrI n.kids).length := ⟨_, rfl⟩
        obtain ⟨mm, hmm⟩ : ∃ mm, mm = L.length := ⟨_, rfl⟩
        rw [← hm] at h7 hti
        rw [← hmm] at ht
        have j3 : (k1 : Int) < (mm : Int) := by have := HI.out.2.1; omega
        have j4 : (0 : Int) ≤ (k1 : Int) := by omega
        have HT0 := hide hti
        have HMM := hide (And.intro hm hmm)
        have HTH := hide hthr
        have HN := hide hn
        have HKY := hide hky
        have HSZ : Hid (setF f k 1 k = szW L y (((thrI n.kids).take 0).map Int.toNat)) := hide (by unfold setF; rw [if_pos rfl]; simp [szW])
        have HFO : Hid (∀ j, j ≠ k → setF f k 1 j = f j) := hide (fun j hj => if_neg hj)
        clear hat e1 hm hmm hthr hn hti hk1e hky hW2
        go_upto_region 7 with (fail)
        rw [← HW2.out]
        go_wp2_with fail
        go_loopw [35] (fun jj wr2 => ∃ (j : Nat) (f' : Nat → Nat), j ≤ m ∧ jj = .int .i64 j ∧ Hid (Mi w wr2 g i f') ∧ Hid (f' k = szW L y (((thrI n.kids).take j).map Int.toNat)) ∧ Hid (∀ q, q ≠ k → f' q = f q)) (fun jj _ => m - (intOf jj).toNat)
        case atStart => exact ⟨0, _, Nat.zero_le _, rfl, HM1, HSZ, HFO⟩
        case round =>
          obtain ⟨j, f', hj, rfl, HM2, HQ, HO⟩ := hrel
          by_cases hlt2 : j < m
          · obtain ⟨b, of, x, rfl, _, hx, hcell⟩ := (HT0.out.below HM2.out.be (Nat.le_refl _)).at_ (k := j) (by rw [← HMM.out.1]; exact hlt2)
            have hcy : x.toNat ∈ thr L k := by rw [HTH.out]; exact List.mem_map.2 ⟨x, List.mem_of_getElem? hx, rfl⟩
            have hcl := thr_lt HTR.out.ok HK.out.1 hcy
            obtain ⟨z, rfl⟩ : ∃ z : Nat, x = (z : Int) := ⟨x.toNat, by omega⟩
            simp at hcl
            have j5 : (z : Int) < (i : Int) + 1 := by have := HK.out; omega
            have j6 : (0 : Int) ≤ (z : Int) := by omega
            have fz : f' z = min 65537 (Wx L y z).length := by rw [HO.out z (by omega)]; exact HF.out z hcl.1 hcl.2
            have c1 := (HM2.out.at_ HK.out.2).1
            have c2 := (HM2.out.at_ HK.out.2).2
            have c3 := (HM2.out.at_ (j := z) (by have := HK.out; omega)).1
            obtain ⟨s, hs⟩ : ∃ s, s = f' k := ⟨_, rfl⟩
            obtain ⟨t, htt⟩ : ∃ t, t = f' z := ⟨_, rfl⟩
            rw [← hs] at c1
            rw [← htt] at c3
            have q4 : IntKind.i64.wrap ((s : Int) + (t : Int)) = (s : Int) + (t : Int) := IntWalk.i64_in _ (by have h1 := HQ.out; have h2 := szW_le L y (((thrI n.kids).take j).map Int.toNat); omega)
            have q5 : IntKind.i64.wrap ((j : Int) + 1) = (j : Int) + 1 := IntWalk.i64_in _ (by
              have h1 := HMM.out.1
              have h2 := List.length_filter_le (fun k : Int => !(k == 0)) n.kids
              have h3 := HKB.out n (List.mem_of_getElem? HN.out)
              unfold thrI at h1
              omega)
            obtain ⟨s2, hs2⟩ : ∃ s2, s2 = min 65537 (s + t) := ⟨_, rfl⟩
            have HMIN := hide (show (if (s : Int) + (t : Int) < 65537 then (s : Int) + (t : Int) else 65537) = (s2 : Int) by rw [hs2]; split <;> omega)
            have HMN := hide ((HM2.out.set_ s2 HK.out.2).drew)
            have HSN : Hid (setF f' k s2 k = szW L y (((thrI n.kids).take (j + 1)).map Int.toNat)) := hide (by
              have e1 : ((thrI n.kids).take (j + 1)).map Int.toNat = ((thrI n.kids).take j).map Int.toNat ++ [z] := by
                rw [List.take_add_one, hx]
                simp
              unfold setF
              rw [if_pos rfl, e1, szW_snoc, ← HQ.out, ← fz, hs2, hs, htt])
            have HON : Hid (∀ q, q ≠ k → setF f' k s2 q = f q) := hide (fun q hq => (if_neg hq).trans (HO.out q hq))
            clear hx hcy hcl fz hs htt hs2
            go_wp2_with fail
            go_still_tail 13, (by kernel_rfl)
            rw [HMIN.out]
            go_wp2_with fail
            go_roundw
            case rel => exact ⟨j + 1, _, by omega, by simp, HMN, HSN, HON⟩
            case measure => simp [intOf]; omega
          · have HF2 : Hid (∀ q, 1 ≤ q → q < k + 1 → f' q = min 65537 (Wx L y q).length) := hide (fun q a b => by
              by_cases e : q = k
              · subst e
                have h := HQ.out
                rw [List.take_of_length_le (by have := HMM.out.1; omega), ← HTH.out] at h
                rw [h, Wx_unf HTR.out.ok a (by have := HI.out.2.1; have := HK.out; omega), if_neg HKY.out]
                unfold szW
                rw [List.length_cons, Nat.add_comm]
              · rw [HO.out q e]
                exact HF.out q a (by omega))
            go_wp2_with fail
            go_roundw
            case rel => exact ⟨k + 1, f', by omega, by have := HK.out; omega, by simp, HM2, HF2⟩
            case measure => have := HK.out; simp [intOf]; omega
    · have hke : k = i + 1 := by omega
      subst hke
      have u1 := (HM.out.at_ (Nat.le_refl i)).1
      rw [HF.out i HI.out.1 (by omega)] at u1
      have j1 : ¬ ((i : Int) + 1 ≤ (i : Int)) := by omega
      obtain ⟨r, hr⟩ : ∃ r, r = min 65537 (Wx L y i).length := ⟨_, rfl⟩
      rw [← hr] at u1
      have HRR := hide hr
      clear hr
      go_wp2_with fail
      go_ret
      exact ⟨by rw [← HRR.out]; rfl, HM.out.be⟩
end Go.Proofs.YtnphfogepdkpbaaDoor
