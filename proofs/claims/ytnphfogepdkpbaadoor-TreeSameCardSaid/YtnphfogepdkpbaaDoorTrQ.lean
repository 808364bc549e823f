/- Same of package tree; conditions: both trees are in memory, the library's table. -/
import Derived.Test.YtnphfogepdkpbaaDoorTrP
import Derived.Deep.QuietTactic
import Derived.BigQuiet
namespace Go.Proofs.YtnphfogepdkpbaaDoor
open Go.RowKit Go.WideShapes Go.ChangeShapes
set_option linter.unusedVariables false
set_option linter.unusedSimpArgs false
set_option maxRecDepth 100000

def sameB (L : List Nd) (i : Int) (M : List Nd) (k : Int) : Bool := if hasB L i = true ∧ hasB M k = true then decide (S L i.toNat = S M k.toNat) else hasB L i == hasB M k
theorem S_length {L : List Nd} (h : OkL L) (i : Nat) : (S L i).length = (W L i).length := by rw [S_map h i i (Nat.le_refl _), List.length_map]
def BoolP (w : World) (b : Bool) (e : Ending) (w' : World) : Prop := e = .returned (.bool b) ∧ Below w.heap.size w w'
set_option maxHeartbeats 8000000 in
theorem same_any (tb : Nat) (L : List Nd) (i : Int) (ub : Nat) (M : List Nd) (k : Int) (w : World) (h : TR w tb L) (h' : TR w ub M) (hkb : KB L) (hkb' : KB M) (htx : TX L) (htx' : TX M) (hpw : powT w) :
    Calls Tryd.prog 18 #[.pointer (some ⟨tb, 0, none⟩), .int .i64 i, .pointer (some ⟨ub, 0, none⟩), .int .i64 k] w (BoolP w (sameB L i M k)) := by
  have H1 := hide (has_any tb L i w h)
  have H2 := hide (has_any ub M k w h')
  cases hb1 : hasB L i with
  | false =>
    rw [hb1] at H1
    cases hb2 : hasB M k with
    | false =>
      rw [hb2] at H2
      rw [show sameB L i M k = true by unfold sameB; rw [hb1, hb2]; simp]
      clear hb1 hb2 h h' hkb hkb' htx htx' hpw
      go_enter Tryd.func18, Tryd.ntmps18
      go_wp2_with fail
      refine H1.out.mono ?_
      rintro e w' ⟨rfl, rfl⟩
      go_wp2_with fail
      refine H1.out.mono ?_
      rintro e w' ⟨rfl, rfl⟩
      go_wp2_with fail
      refine H2.out.mono ?_
      rintro e w' ⟨rfl, rfl⟩
      go_wp2_with fail
      go_ret
      exact ⟨rfl, Below.refl _ _⟩
    | true =>
      rw [hb2] at H2
      rw [show sameB L i M k = false by unfold sameB; rw [hb1, hb2]; simp]
      clear hb1 hb2 h h' hkb hkb' htx htx' hpw
      go_enter Tryd.func18, Tryd.ntmps18
      go_wp2_with fail
      refine H1.out.mono ?_
      rintro e w' ⟨rfl, rfl⟩
      go_wp2_with fail
      refine H1.out.mono ?_
      rintro e w' ⟨rfl, rfl⟩
      go_wp2_with fail
      refine H2.out.mono ?_
      rintro e w' ⟨rfl, rfl⟩
      go_wp2_with fail
      go_ret
      exact ⟨rfl, Below.refl _ _⟩
  | true =>
    rw [hb1] at H1
    cases hb2 : hasB M k with
    | false =>
      rw [hb2] at H2
      rw [show sameB L i M k = false by unfold sameB; rw [hb1, hb2]; simp]
      clear hb1 hb2 h h' hkb hkb' htx htx' hpw
      go_enter Tryd.func18, Tryd.ntmps18
      go_wp2_with fail
      refine H1.out.mono ?_
      rintro e w' ⟨rfl, rfl⟩
      go_wp2_with fail
      refine H2.out.mono ?_
      rintro e w' ⟨rfl, rfl⟩
      go_wp2_with fail
      refine H1.out.mono ?_
      rintro e w' ⟨rfl, rfl⟩
      go_wp2_with fail
      refine H2.out.mono ?_
      rintro e w' ⟨rfl, rfl⟩
      go_wp2_with fail
      go_ret
      exact ⟨rfl, Below.refl _ _⟩
    | true =>
      rw [hb2] at H2
      obtain ⟨a, n, rfl, ha, hn⟩ := hasB_true hb1
      obtain ⟨b, p, rfl, hb, hp⟩ := hasB_true hb2
      have hsm : sameB L ((a + 1 : Nat) : Int) M ((b + 1 : Nat) : Int) = decide (S L (a + 1) = S M (b + 1)) := by
        unfold sameB
        rw [hb1, hb2]
        simp
      obtain ⟨blk, off, c, kv, tv, t0, _, _, _, _, _, _, _, _, t7, t8, _, _⟩ := h.at_ hn
      obtain ⟨blk', off', c', kv', tv', u0, _, _, _, _, _, _, _, _, u7, u8, _, _⟩ := h'.at_ hp
      have q1 : IntKind.i64.wrap (((a + 1 : Nat) : Int) - 1) = (a : Int) := by rw [show ((a + 1 : Nat) : Int) - 1 = (a : Int) by omega]; exact IntWalk.i64_in _ (by have := h.le; omega)
      have q2 : IntKind.i64.wrap (((b + 1 : Nat) : Int) - 1) = (b : Int) := by rw [show ((b + 1 : Nat) : Int) - 1 = (b : Int) by omega]; exact IntWalk.i64_in _ (by have := h'.le; omega)
      have HSH := hide (fun (mb : Nat) (tbl : List (ByteArray × Nat)) (sig : Nat → List Lab) (V : World) => shape_any tb L (a + 1) mb tbl sig w V h hkb htx (by omega) (by omega))
      have HSH' := hide (fun (mb : Nat) (tbl : List (ByteArray × Nat)) (sig : Nat → List Lab) (V : World) => shape_any ub M (b + 1) mb tbl sig w V h' hkb' htx' (by omega) (by omega))
      have hdd : S L (a + 1) = S M (b + 1) → D L (a + 1) = D M (b + 1) := S_depth h.ok h'.ok (by omega) (by omega) (by omega) (by omega)
      have hww : S L (a + 1) = S M (b + 1) → min 65537 (W L (a + 1)).length = min 65537 (W M (b + 1)).length := fun e => by rw [← S_length h.ok, ← S_length h'.ok, e]
      obtain ⟨s1, hs1⟩ : ∃ s, s = min 65537 (W L (a + 1)).length := ⟨_, rfl⟩
      obtain ⟨s2, hs2⟩ : ∃ s, s = min 65537 (W M (b + 1)).length := ⟨_, rfl⟩
      obtain ⟨d1, hd1⟩ : ∃ s, s = D L (a + 1) := ⟨_, rfl⟩
      obtain ⟨d2, hd2⟩ : ∃ s, s = D M (b + 1) := ⟨_, rfl⟩
      rw [← hs1] at t7 hww
      rw [← hs2] at u7 hww
      rw [← hd1] at t8 hdd
      rw [← hd2] at u8 hdd
      have hal := h.le
      have hbl := h'.le
      obtain ⟨ia, hia⟩ : ∃ x : Int, x = ((a + 1 : Nat) : Int) := ⟨_, rfl⟩
      obtain ⟨ib, hib⟩ : ∃ x : Int, x = ((b + 1 : Nat) : Int) := ⟨_, rfl⟩
      have e1 : ((a + 1 : Nat) : Int) = ia := hia.symm
      have e2 : ((b + 1 : Nat) : Int) = ib := hib.symm
      have HEA := hide e1
      have HEB := hide e2
      obtain ⟨ans, hans⟩ : ∃ x, x = decide (S L (a + 1) = S M (b + 1)) := ⟨_, rfl⟩
      rw [hsm, ← hans]
      rw [← hia] at q1 H1 ⊢
      rw [← hib] at q2 H2 ⊢
      obtain ⟨m1, hm1⟩ : ∃ m, m = L.length := ⟨_, rfl⟩
      obtain ⟨m2, hm2⟩ : ∃ m, m = M.length := ⟨_, rfl⟩
      rw [← hm1] at t0
      rw [← hm2] at u0
      have j1 : (a : Int) < (m1 : Int) := by omega
      have j2 : (0 : Int) ≤ (a : Int) := by omega
      have j3 : (b : Int) < (m2 : Int) := by omega
      have j4 : (0 : Int) ≤ (b : Int) := by omega
      have HANS := hide hans
      have HWW := hide hww
      have HDD := hide hdd
      have HPW := hide hpw
      have HLE := hide (And.intro hal hbl)
      have HAB := hide (And.intro ha hb)
      have HMM := hide (And.intro hm1 hm2)
      clear hb1 hb2 h h' hkb hkb' htx htx' hpw hn hp hs1 hs2 hd1 hd2 hm1 hm2 hia hib e1 e2 hans hsm hww hdd hal hbl ha hb
      by_cases g1 : s1 = s2
      · by_cases g2 : d1 = d2
        · subst g1 g2
          have i1 : ((s1 : Int) != (s1 : Int)) = false := by simp
          have i2 : ((d1 : Int) != (d1 : Int)) = false := by simp
          go_enter Tryd.func18, Tryd.ntmps18
          go_wp2_with fail
          refine H1.out.mono ?_
          rintro e w' ⟨rfl, rfl⟩
          go_wp2_with fail
          refine H2.out.mono ?_
          rintro e w' ⟨rfl, rfl⟩
          go_wp2_with fail
          have hmm := @run_makeMap Tryd.prog
          have HX := hide (fun q => HSH.out w.heap.size [] (fun _ => []) ((w.drewN q).alloc (.map #[] 0)) ((below_drewL (Below.refl _ _) q).alloc (Nat.le_refl _) _) ⟨by simp, by simp, #[], 0, World.alloc_heap_new (w.drewN q) _, rfl⟩ (Nat.le_refl _) ⟨fun j p hp => by simp at hp, fun j p hp => by simp at hp, fun a b h1 h2 => by simp at h2; omega⟩ (by simp) HPW.out)
          clear HSH
          go_quiet (fail)
          go_wp2_with fail
          rw [← HEA.out]
          refine (HX.out _).mono ?_
          rintro e w3 ⟨r1, t1, sig1, rfl, hb3, hm3, ht3, hr1, hr2, hr3, _, _, hr5⟩
          have HY := hide (HSH'.out w.heap.size t1 sig1 w3 hb3 hm3 (Nat.le_refl _) ht3 (by have := HLE.out; have := HAB.out; simp at hr5; omega) HPW.out)
          have HR := hide (And.intro hr1 (And.intro hr2 hr3))
          clear hb3 hm3 ht3 hr1 hr2 hr3 hr5 hmm
          go_wp2_with fail
          rw [← HEB.out]
          refine HY.out.mono ?_
          rintro e w4 ⟨r2, t2, sig2, rfl, hb4, hm4, ht4, hq1, hq2, hq3, hq4, hq5, _⟩
          have HF := hide (show BoolP w ans (.returned (.bool ((r1 : Int) == (r2 : Int)))) w4 from by
            refine ⟨?_, hb4⟩
            have e1 := hq4 r1 HR.out.2.1
            rw [HR.out.2.2] at e1
            rw [HANS.out]
            congr 2
            rw [Bool.eq_iff_iff, beq_iff_eq, decide_eq_true_eq]
            constructor
            · intro h
              have h : r1 = r2 := by omega
              rw [← e1, ← hq3, h]
            · intro h
              have h := ht4.t3 r1 r2 HR.out.1 (by have := HR.out.2.1; omega) hq1 hq2 (by rw [e1, hq3, h])
              rw [h])
          clear hb4 hm4 ht4 hq1 hq2 hq3 hq4 hq5
          go_wp2_with fail
          go_ret
          exact HF.out
        · have HN := hide (show ans = false by rw [HANS.out]; exact decide_eq_false (fun e => g2 (HDD.out e)))
          subst g1
          have i1 : ((s1 : Int) != (s1 : Int)) = false := by simp
          have i2 : ((d1 : Int) != (d2 : Int)) = true := by rw [bne_iff_ne]; omega
          have g2' : ¬ (d1 : Int) = (d2 : Int) := by omega
          go_enter Tryd.func18, Tryd.ntmps18
          go_wp2_with fail
          refine H1.out.mono ?_
          rintro e w' ⟨rfl, rfl⟩
          go_wp2_with fail
          refine H2.out.mono ?_
          rintro e w' ⟨rfl, rfl⟩
          go_wp2_with fail
          go_quiet (fail)
          go_wp2_with fail
          go_ret
          exact ⟨by have h := HN.out; subst h; rfl, below_drewL (Below.refl _ _) _⟩
      · have HN := hide (show ans = false by rw [HANS.out]; exact decide_eq_false (fun e => g1 (HWW.out e)))
        have i1 : ((s1 : Int) != (s2 : Int)) = true := by rw [bne_iff_ne]; omega
        have g1' : ¬ (s1 : Int) = (s2 : Int) := by omega
        go_enter Tryd.func18, Tryd.ntmps18
        go_wp2_with fail
        refine H1.out.mono ?_
        rintro e w' ⟨rfl, rfl⟩
        go_wp2_with fail
        refine H2.out.mono ?_
        rintro e w' ⟨rfl, rfl⟩
        go_wp2_with fail
        go_quiet (fail)
        go_wp2_with fail
        go_ret
        exact ⟨by have h := HN.out; subst h; rfl, below_drewL (Below.refl _ _) _⟩
end Go.Proofs.YtnphfogepdkpbaaDoor
