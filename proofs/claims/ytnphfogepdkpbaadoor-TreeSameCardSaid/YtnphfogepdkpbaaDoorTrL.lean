/- Marks of what a node is made of (below of package tree); conditions: the tree is in memory. -/
import Derived.Test.YtnphfogepdkpbaaDoorTrK
namespace Go.Proofs.YtnphfogepdkpbaaDoor
open Go.RowKit Go.WideShapes Go.ChangeShapes
set_option linter.unusedVariables false
set_option linter.unusedSimpArgs false
set_option maxRecDepth 100000

theorem boolInfoT : (Tryd.prog.info? 4).map (fun i => (i.zero, i.size, i.bytes)) = some (some (.bool false), 1, 1) := by kernel_rfl
/-- Marks in block g, up to i. -/
structure Mk (w W : World) (g i : Nat) (M : Nat → Bool) : Prop where
  ex : ∃ cs : Array Value, Blk W g 4 cs ∧ cs.size = i + 1 ∧ ∀ j, j ≤ i → cs[j]? = some (.bool (M j))
  be : Below w.heap.size w W
  gB : w.heap.size ≤ g
def setM (M : Nat → Bool) (c : Nat) : Nat → Bool := fun j => if j = c then true else M j
theorem Mk.set_ {w W : World} {g i c : Nat} {M : Nat → Bool} (h : Mk w W g i M) (hc : c ≤ i) : Mk w (W.setCell ⟨g, c, none⟩ (.bool true)) g i (setM M c) := by
  obtain ⟨⟨cs, h1, h2, h3⟩, h4, h5⟩ := h
  refine ⟨⟨_, h1.set_ c _, by simpa using h2, fun j hj => ?_⟩, h4.setCell (p := ⟨g, c, none⟩) h5 _, h5⟩
  unfold setM
  by_cases e : j = c
  · subst e
    rw [if_pos rfl, Array.getElem?_setIfInBounds_self_of_lt (by omega)]
  · rw [if_neg e, Array.getElem?_setIfInBounds_ne (by omega)]
    exact h3 j hj
theorem Mk.at_ {w W : World} {g i : Nat} {M : Nat → Bool} (h : Mk w W g i M) {j : Nat} (hj : j ≤ i) : W.cell? ⟨g, j, none⟩ = some (.bool (M j)) ∧ W.frozen? ⟨g, j, none⟩ = false := by
  obtain ⟨⟨cs, h1, h2, h3⟩, _⟩ := h
  exact ⟨(h1.cell j).trans (h3 j hj), h1.frozen j⟩
/-- Marks that take in the parts of what is marked beyond k. -/
def Cl (L : List Nd) (i k : Nat) (M : Nat → Bool) : Prop := M i = true ∧ ∀ m, k < m → m ≤ i → M m = true → ∀ c ∈ thr L m, M c = true
theorem cl_in {L : List Nd} (hL : OkL L) {i k : Nat} {M M' : Nat → Bool} (hi : i ≤ L.length) (hk1 : 1 ≤ k) (hki : k ≤ i) (h : Cl L i k M) (hM : ∀ j, M' j = true ↔ M j = true ∨ j ∈ thr L k) : Cl L i (k - 1) M' := by
  refine ⟨(hM i).2 (.inl h.1), fun m hm hmi hMm c hc => ?_⟩
  rcases Nat.lt_or_ge k m with h1 | h1
  · rcases (hM m).1 hMm with h2 | h2
    · exact (hM c).2 (.inl (h.2 m h1 hmi h2 c hc))
    · have := thr_lt hL hk1 h2
      omega
  · have : m = k := by omega
    subst this
    exact (hM c).2 (.inr hc)
theorem cl_out {L : List Nd} {i k : Nat} {M : Nat → Bool} (hk1 : 1 ≤ k) (h : Cl L i k M) (hM : M k = false) : Cl L i (k - 1) M := by
  refine ⟨h.1, fun m hm hmi hMm c hc => ?_⟩
  rcases Nat.lt_or_ge k m with h1 | h1
  · exact h.2 m h1 hmi hMm c hc
  · have : m = k := by omega
    subst this
    rw [hM] at hMm
    cases hMm
def BelowP (w : World) (L : List Nd) (i : Nat) (e : Ending) (w' : World) : Prop := ∃ g M, e = .returned (.slice (some ⟨g, 0, none⟩) (i + 1) (i + 1)) ∧ Mk w w' g i M ∧ Cl L i 0 M
set_option maxHeartbeats 4000000 in
theorem below_any (tb : Nat) (L : List Nd) (i : Nat) (w : World) (h : TR w tb L) (hkb : KB L) (h1 : 1 ≤ i) (h2 : i ≤ L.length) : Calls Tryd.prog 38 #[.pointer (some ⟨tb, 0, none⟩), .int .i64 (i : Int)] w (BelowP w L i) := by
  obtain ⟨i0, hi0, hz0, hz1, hz2⟩ := info_parts boolInfoT
  have hle : i ≤ 65536 := Nat.le_trans h2 h.le
  have hmk : ∀ W : World, (Instr.makeSlice 72 (.int .i64 ((i : Int) + 1)) (.int .i64 ((i : Int) + 1))).run Tryd.prog W = .ok (.slice (some ⟨W.heap.size, 0, none⟩) (i + 1) (i + 1)) (W.alloc (.cells (Array.replicate (i + 1) (.bool false)) 4)) := fun W => by
    have h := run_make_rowN (P := Tryd.prog) 72 4 i0 _ Tryd.underlying72 hi0 hz0 .i64 .i64 (i + 1) (i + 1) (Nat.le_refl _) (by rw [hz2]; omega) (by omega) W
    rw [hz1] at h
    have e1 : madeCells (Value.bool false).cells ((i + 1) * 1) = Array.replicate (i + 1) (.bool false) := by
      rw [Nat.mul_one]
      apply Array.ext
      · simp [madeCells]
      · intro j a b
        simp [madeCells, Value.cells, Nat.mod_one]
    rw [e1] at h
    exact h
  obtain ⟨g, hg⟩ : ∃ g, g = w.heap.size := ⟨_, rfl⟩
  have hM0 : Mk w (w.alloc (.cells (Array.replicate (i + 1) (.bool false)) 4)) g i (fun _ => false) := by
    rw [hg]
    refine ⟨⟨Array.replicate (i + 1) (.bool false), Blk.new w _ _, by rw [Array.size_replicate], fun j hj => by rw [Array.getElem?_replicate, if_pos (by omega)]⟩, (Below.refl _ _).alloc (Nat.le_refl _) _, Nat.le_refl _⟩
  have HM1 : Hid (Mk w (w.alloc (.cells ((Array.replicate (i + 1) (.bool false)).setIfInBounds i (.bool true)) 4)) g i (setM (fun _ => false) i)) := hide (by
    rw [hg]
    refine ⟨⟨_, Blk.new w _ _, by rw [Array.size_setIfInBounds, Array.size_replicate], fun j hj => ?_⟩, (Below.refl _ _).alloc (Nat.le_refl _) _, Nat.le_refl _⟩
    unfold setM
    by_cases e : j = i
    · subst e
      rw [if_pos rfl, Array.getElem?_setIfInBounds_self_of_lt (by rw [Array.size_replicate]; omega)]
    · rw [if_neg e, Array.getElem?_setIfInBounds_ne (by omega), Array.getElem?_replicate, if_pos (by omega)])
  have hat := hM0.at_ (Nat.le_refl i)
  have a1 := hat.1
  have a2 := hat.2
  have HCL0 : Hid (Cl L i i (setM (fun _ => false) i)) := hide ⟨by simp [setM], fun m hm hmi => by omega⟩
  have HTR := hide h
  have HKB := hide hkb
  have HI := hide (And.intro h1 (And.intro h2 hle))
  have HMK := hmk
  have q0 : IntKind.i64.wrap ((i : Int) + 1) = (i : Int) + 1 := IntWalk.i64_in _ (by omega)
  have HG := hide hg
  rw [hg] at a1 a2
  clear hmk hat hM0 h h1 h2 hg hkb
  go_enter Tryd.func38, Tryd.ntmps38
  go_wp2_with fail
  rw [← HG.out]
  obtain ⟨W1, hW1⟩ : ∃ W1, W1 = w.alloc (.cells ((Array.replicate (i + 1) (.bool false)).setIfInBounds i (.bool true)) 4) := ⟨_, rfl⟩
  rw [← hW1] at HM1 ⊢
  clear hW1 a1 a2 q0 HMK
  go_loopw [6] (fun k wr => ∃ (kk : Nat) (M : Nat → Bool), kk ≤ i ∧ k = .int .i64 kk ∧ Hid (Mk w wr g i M) ∧ Hid (Cl L i kk M)) (fun k _ => (intOf k).toNat)
  case atStart => exact ⟨i, _, Nat.le_refl _, rfl, HM1, HCL0⟩
  case round =>
    obtain ⟨k, M, hk, rfl, HM, HC⟩ := hrel
    by_cases hk0 : 1 ≤ k
    · have i1 : (0 : Int) < (k : Int) := by omega
      have i2 : (k : Int) < (i : Int) + 1 := by omega
      have q1 : IntKind.i64.wrap ((k : Int) - 1) = (k : Int) - 1 := IntWalk.i64_in _ (by omega)
      have hat := (HM.out.at_ hk).1
      cases hMk : M k with
      | false =>
        rw [hMk] at hat
        have HC2 := hide (cl_out hk0 HC.out hMk)
        have HK := hide (And.intro hk hk0)
        clear hMk hk hk0
        go_wp2_with fail
        go_roundw
        case rel => exact ⟨k - 1, M, by have := HK.out; omega, by have := HK.out; simp; omega, HM, HC2⟩
        case measure => have := HK.out; simp [intOf]; omega
      | true =>
        rw [hMk] at hat
        obtain ⟨n, hn⟩ : ∃ n, L[k - 1]? = some n := ⟨_, List.getElem?_eq_getElem (by have := HI.out.2.1; omega)⟩
        obtain ⟨blk, off, c, kv, tv, ht, hlt, h0, h2, h3, h4, h5, h6, h7, h8, h9, hki, hti⟩ := (HTR.out.below HM.out.be (Nat.le_refl _)).at_ hn
        obtain ⟨Ak, ck, rfl⟩ := hti.form
        have hthr : thr L k = (thrI n.kids).map Int.toNat := by unfold thr kid; rw [hn]
        have hti0 : IntsAt w (.slice Ak (thrI n.kids).length ck) (thrI n.kids) := by
          obtain ⟨blk', off', c', kv', tv', ht', hlt', _, _, _, _, _, _, h8', _, _, _, hti'⟩ := HTR.out.at_ hn
          have e1 := (HM.out.be.cell (p := ⟨tb, 0, none⟩) HTR.out.lt).trans ht'
          rw [ht] at e1
          injection e1 with e1
          injection e1 with e1 _ _
          injection e1 with e1
          injection e1 with e1 e2
          subst e1 e2
          have e2 := (HM.out.be.cell (p := ⟨blk, off + (k - 1) * 9 + 6, none⟩) hlt').trans h8'
          rw [h7] at e2
          injection e2 with e2
          rw [e2]
          exact hti'
        obtain ⟨k1, hk1⟩ : ∃ k1, k1 = k - 1 := ⟨_, rfl⟩
        rw [← hk1] at h7
        have q2 : IntKind.i64.wrap ((k : Int) - 1) = (k1 : Int) := by rw [q1]; omega
        obtain ⟨m, hm⟩ : ∃ m, m = (thrI n.kids).length := ⟨_, rfl⟩
        obtain ⟨mm, hmm⟩ : ∃ mm, mm = L.length := ⟨_, rfl⟩
        rw [← hm] at h7 hti0
        rw [← hmm] at ht
        have j1 : (k1 : Int) < (mm : Int) := by have := HI.out.2.1; omega
        have j2 : (0 : Int) ≤ (k1 : Int) := by omega
        have HT0 := hide hti0
        have HK := hide (And.intro hk (And.intro hk0 hk1))
        have HMM := hide (And.intro hm hmm)
        have HTH := hide hthr
        have HN := hide hn
        clear q1 hMk hk hk0 hk1 hm hmm hthr hn hti0 h0 h2 h3 h4 h5 h6 h8 h9 hki hti
        go_wp2_with fail
        go_loopw [34] (fun jj wr2 => ∃ (j : Nat) (M' : Nat → Bool), j ≤ m ∧ jj = .int .i64 j ∧ Hid (Mk w wr2 g i M') ∧ Hid (∀ q, M' q = true ↔ M q = true ∨ q ∈ ((thrI n.kids).take j).map Int.toNat)) (fun jj _ => m - (intOf jj).toNat)
        case atStart => exact ⟨0, M, Nat.zero_le _, rfl, HM, hide (fun q => by simp)⟩
        case round =>
          obtain ⟨j, M', hj, rfl, HM2, HQ⟩ := hrel
          by_cases hlt2 : j < m
          · obtain ⟨b, of, x, rfl, _, hx, hcell⟩ := (HT0.out.below HM2.out.be (Nat.le_refl _)).at_ (k := j) (by rw [← HMM.out.1]; exact hlt2)
            obtain ⟨y, rfl, hy⟩ : ∃ y : Nat, x = (y : Int) ∧ y ≤ i := by
              have h1 := (goodN_iff.1 (HTR.out.ok _ _ HN.out)).2 x (List.mem_filter.1 (List.mem_of_getElem? hx)).1
              have := HK.out
              exact ⟨x.toNat, by omega, by omega⟩
            have i3 : (y : Int) < (i : Int) + 1 := by omega
            have hat2 := HM2.out.at_ hy
            have u1 := hat2.1
            have u2 := hat2.2
            have HMN := hide (HM2.out.set_ hy)
            have HX := hide hx
            have q3 : IntKind.i64.wrap ((j : Int) + 1) = (j : Int) + 1 := IntWalk.i64_in _ (by
              have h1 := HMM.out.1
              have h2 := List.length_filter_le (fun k : Int => !(k == 0)) n.kids
              have h3 := HKB.out n (List.mem_of_getElem? HN.out)
              unfold thrI at h1
              omega)
            clear hat2 hx hy
            go_wp2_with fail
            go_roundw
            case rel =>
              refine ⟨j + 1, _, by omega, by simp, HMN, hide (fun q => ?_)⟩
              rw [List.take_add_one, HX.out]
              simp only [Option.toList_some, List.map_append, List.map_cons, List.map_nil, List.mem_append, List.mem_singleton, setM, Int.toNat_natCast]
              have := HQ.out q
              by_cases e : q = y
              · simp [e]
              · rw [if_neg e, this]
                simp [e]
            case measure => simp [intOf]; omega
          · have HC2 := hide (cl_in HTR.out.ok HI.out.2.1 HK.out.2.1 HK.out.1 HC.out (M' := M') (fun q => by
              have h := HQ.out q
              rw [List.take_of_length_le (by have := HMM.out.1; omega)] at h
              rw [h, HTH.out]))
            go_wp2_with fail
            go_roundw
            case rel => exact ⟨k - 1, M', by have := HK.out; omega, by have := HK.out; simp; omega, HM2, HC2⟩
            case measure => have := HK.out; simp [intOf]; omega
    · have hk00 : k = 0 := by omega
      subst hk00
      go_wp2_with fail
      go_ret
      exact ⟨g, M, rfl, HM.out, HC.out⟩
end Go.Proofs.YtnphfogepdkpbaaDoor
