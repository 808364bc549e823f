/- Nodes that are made the same way, as the reference holds them against one another (lorgnetteref03.Same); conditions: the nodes are in memory and few. -/
import Derived.Test.YtnphfogepdkpbaaDoorTqF
import Derived.BigQuiet
namespace Go.Proofs.YtnphfogepdkpbaaDoor
open Go.RowKit Go.WideShapes Go.ChangeShapes
set_option linter.unusedVariables false
set_option linter.unusedSimpArgs false
set_option maxRecDepth 100000

theorem lab_at {L : List Nd} {z : Nat} {n : Nd} (h : L[z - 1]? = some n) : lab L z = labN n := by unfold lab; rw [h]
theorem labN_iff {n m : Nd} (h : n.kids.length = m.kids.length) : labN n = labN m ↔ (n.kind = m.kind ∧ n.text = m.text ∧ ∀ (q : Nat) (x y : Int), n.kids[q]? = some x → m.kids[q]? = some y → (x = 0 ↔ y = 0)) := by
  unfold labN
  constructor
  · intro e
    injection e with h1 h2
    injection h2 with h2 h3
    refine ⟨h1, h2, fun q x y hx hy => ?_⟩
    have := congrArg (fun l => l[q]?) h3
    simp only [List.getElem?_map, hx, hy, Option.map_some, Option.some.injEq] at this
    by_cases a : x = 0 <;> by_cases b : y = 0 <;> simp_all
  · rintro ⟨h1, h2, h3⟩
    have : n.kids.map (fun k => !(k == 0)) = m.kids.map fun k => !(k == 0) := by
      apply List.ext_getElem
      · simp [h]
      · intro q a b
        simp only [List.length_map] at a b
        have := h3 q _ _ (List.getElem?_eq_getElem a) (List.getElem?_eq_getElem b)
        simp only [List.getElem_map]
        congr 1
        rw [Bool.eq_iff_iff, beq_iff_eq, beq_iff_eq]
        exact this
    rw [h1, h2, this]
theorem labN_len {n m : Nd} (h : labN n = labN m) : n.kids.length = m.kids.length := by
  unfold labN at h
  injection h with _ h2
  injection h2 with _ h3
  have := congrArg List.length h3
  simpa using this
theorem walk_pos {L : List Nd} {i : Nat} (hw : walkOf L (i : Int) ≠ []) : walkOf L (i : Int) = W L i ∧ (W L i).length ≤ 65536 := by
  unfold walkOf at hw ⊢
  by_cases hc : hasB L (i : Int) = true ∧ (W L (i : Int).toNat).length ≤ 65536
  · rw [if_pos hc]
    exact ⟨rfl, hc.2⟩
  · rw [if_neg hc] at hw
    exact absurd rfl hw
theorem walk_zero (L : List Nd) : walkOf L ((0 : Nat) : Int) = [] := by
  unfold walkOf hasB
  simp
theorem hasB_nat {L : List Nd} {x : Nat} (h : x ≤ L.length) : hasB L (x : Int) = decide (0 < x) := by
  unfold hasB
  by_cases h0 : 0 < x
  · rw [decide_eq_true h0]; exact decide_eq_true (by omega)
  · rw [decide_eq_false h0]; exact decide_eq_false (by omega)
theorem same_len {L M : List Nd} {x y : Nat} (hL : OkL L) (hM : OkL M) (hx : x ≤ L.length) (hy : y ≤ M.length) (hwx : 0 < x → walkOf L (x : Int) ≠ []) (hwy : 0 < y → walkOf M (y : Int) ≠ []) (hne : (walkOf L (x : Int)).length ≠ (walkOf M (y : Int)).length) : sameB L (x : Int) M (y : Int) = false := by
  unfold sameB
  rw [hasB_nat hx, hasB_nat hy]
  by_cases h1 : 0 < x
  · by_cases h2 : 0 < y
    · rw [if_pos ⟨decide_eq_true h1, decide_eq_true h2⟩]
      refine decide_eq_false fun e => hne ?_
      rw [(walk_pos (hwx h1)).1, (walk_pos (hwy h2)).1, ← S_length hL, ← S_length hM]
      exact congrArg List.length e
    · rw [if_neg (by simp [h2])]
      simp [h1, h2]
  · by_cases h2 : 0 < y
    · rw [if_neg (by simp [h1])]
      simp [h1, h2]
    · exfalso
      have e1 : x = 0 := by omega
      have e2 : y = 0 := by omega
      subst e1 e2
      rw [walk_zero, walk_zero] at hne
      exact hne rfl
theorem same_pos {L M : List Nd} {x y : Nat} (hL : OkL L) (hM : OkL M) (hx : x ≤ L.length) (hy : y ≤ M.length) (h1 : 0 < x) (h2 : 0 < y) : sameB L (x : Int) M (y : Int) = decide ((W L x).map (lab L) = (W M y).map (lab M)) := by
  unfold sameB
  rw [hasB_nat hx, hasB_nat hy, if_pos ⟨decide_eq_true h1, decide_eq_true h2⟩]
  show decide (S L x = S M y) = _
  rw [S_map hL x x (Nat.le_refl _), S_map hM y y (Nat.le_refl _)]

set_option maxHeartbeats 8000000 in
theorem refsame_any (av bv : Value) (L M : List Nd) (x y : Nat) (w : World) (h : NodesAt w av L) (h' : NodesAt w bv M) (hL : OkL L) (hM : OkL M) (hll : L.length ≤ 60) (hml : M.length ≤ 60) (hkl : ∀ n ∈ L, n.kids.length ≤ 20) (hkm : ∀ n ∈ M, n.kids.length ≤ 20)
    (hx : x ≤ L.length) (hy : y ≤ M.length) (hwx : 0 < x → walkOf L (x : Int) ≠ []) (hwy : 0 < y → walkOf M (y : Int) ≠ []) :
    Calls Tryd.prog 19 #[av, .int .i64 (x : Int), bv, .int .i64 (y : Int)] w (BoolP w (sameB L (x : Int) M (y : Int))) := by
  have HNL := hide h
  have HNM := hide h'
  have HC := hide (And.intro hL (And.intro hM (And.intro hll (And.intro hml (And.intro hkl hkm)))))
  have HX := hide (And.intro hx (And.intro hy (And.intro hwx hwy)))
  have HRA := hide (refwalk_any av L (x : Int) w h hL hll hkl)
  obtain ⟨An, cn, rfl⟩ := h.form
  obtain ⟨Bn, dn, rfl⟩ := h'.form
  obtain ⟨ml, hml2⟩ : ∃ ml, ml = L.length := ⟨_, rfl⟩
  obtain ⟨mm, hmm2⟩ : ∃ mm, mm = M.length := ⟨_, rfl⟩
  rw [← hml2] at HNL HRA ⊢
  rw [← hmm2] at HNM ⊢
  have HLM := hide (And.intro hml2 hmm2)
  by_cases hle : (walkOf L (x : Int)).length = (walkOf M (y : Int)).length
  · by_cases hx0 : 0 < x
    · have hy0 : 0 < y := by
        rcases Nat.eq_zero_or_pos y with e | e
        · subst e
          rw [walk_zero] at hle
          exact absurd (List.eq_nil_of_length_eq_zero hle) (hwx hx0)
        · exact e
      obtain ⟨ex, lx⟩ := walk_pos (hwx hx0)
      obtain ⟨ey, ly⟩ := walk_pos (hwy hy0)
      have hsp := same_pos hL hM hx hy hx0 hy0
      obtain ⟨n, hn⟩ : ∃ n, n = (walkOf L (x : Int)).length := ⟨_, rfl⟩
      have hn2 : (walkOf M (y : Int)).length = n := by rw [hn, hle]
      have HS := hide hsp
      have HE := hide (And.intro ex (And.intro ey (And.intro lx (And.intro ly (And.intro hn hn2)))))
      have i1 : ¬ (x : Int) < 1 := by omega
      have i2 : ¬ (ml : Int) < (x : Int) := by omega
      have i3 : ¬ (y : Int) < 1 := by omega
      have i4 : ¬ (mm : Int) < (y : Int) := by omega
      have i5 : ((n : Int) == (n : Int)) = true := by simp
      have iB : (!(decide ((x : Int) < 1) || decide (ml < x)) == (decide ((y : Int) < 1) || decide (mm < y))) = false := by rw [decide_eq_false (show ¬ (x : Int) < 1 by omega), decide_eq_false (show ¬ (y : Int) < 1 by omega), decide_eq_false (show ¬ ml < x by omega), decide_eq_false (show ¬ mm < y by omega)]; rfl
      clear hle hx0 hy0 ex lx ey ly hsp h h' hL hM hll hml hkl hkm hx hy hwx hwy hml2 hmm2
      go_enter Tryd.func19, Tryd.ntmps19
      go_wp2_with fail
      refine HRA.out.mono ?_
      rintro e wa ⟨va, rfl, howna, hba⟩
      have HRB := hide (refwalk_any _ M (y : Int) wa (HNM.out.below hba (Nat.le_refl _)) HC.out.2.1 HC.out.2.2.2.1 HC.out.2.2.2.2.2)
      have hIa : IntsAt wa va ((walkOf L (x : Int)).map fun k : Nat => (k : Int)) := by
        refine IntsAt.own (B := w.heap.size) ?_
        rw [List.map_map, List.length_map]
        exact howna
      obtain ⟨Aa, ca, rfl⟩ := own_formT howna
      have HIA := hide hIa
      have HBA := hide hba
      clear howna hba hIa
      go_wp2_with fail
      refine HRB.out.mono ?_
      rintro e wb ⟨vb, rfl, hownb, hbb⟩
      have HBB := hide (HBA.out.trans (hbb.mono HBA.out.size))
      have hIb : IntsAt wb vb ((walkOf M (y : Int)).map fun k : Nat => (k : Int)) := by
        refine IntsAt.own (B := wa.heap.size) ?_
        rw [List.map_map, List.length_map]
        exact hownb
      obtain ⟨Ab, cb, rfl⟩ := own_formT hownb
      have HIB := hide hIb
      have HIA2 := hide (HIA.out.below hbb (Nat.le_refl _))
      clear hownb hbb hIb
      rw [← HE.out.2.2.2.2.1, HE.out.2.2.2.2.2]
      clear hn hn2
      go_wp2_with fail
      clear i1 i2 i3 i4 i5 iB
      have HWA : Hid (IntsAt wb (.slice Aa n ca) ((W L x).map fun k : Nat => (k : Int))) := hide (by have h := HIA2.out; rw [HE.out.1] at h; have e := HE.out.2.2.2.2.1; rw [HE.out.1] at e; rw [e, ← HE.out.1]; rw [HE.out.1]; exact h)
      have HWB : Hid (IntsAt wb (.slice Ab n cb) ((W M y).map fun k : Nat => (k : Int))) := hide (by have h := HIB.out; rw [HE.out.2.1] at h; have e := HE.out.2.2.2.2.2; rw [HE.out.2.1] at e; rw [← e]; exact h)
      have HNN : Hid ((W L x).length = n ∧ (W M y).length = n ∧ n ≤ 65536) := hide (by
        have e1 := HE.out.2.2.2.2.1
        have e2 := HE.out.2.2.2.2.2
        have e3 := HE.out.2.2.1
        rw [HE.out.1] at e1
        rw [HE.out.2.1] at e2
        omega)
      have HLL2 := hide (HNL.out.below HBB.out (Nat.le_refl _))
      have HMM2 := hide (HNM.out.below HBB.out (Nat.le_refl _))
      clear HIA HIA2 HIB HRA HRB HBA
      go_loopw [11] (fun jj wr => ∃ j : Nat, j ≤ n ∧ jj = .int .i64 j ∧ Hid (Below wb.heap.size wb wr) ∧ Hid (∀ q, q < j → ((W L x).map (lab L))[q]? = ((W M y).map (lab M))[q]?)) (fun jj _ => n - (intOf jj).toNat)
      case atStart => exact ⟨0, Nat.zero_le _, rfl, hide (Below.refl _ _), hide (fun q hq => by omega)⟩
      case round =>
        obtain ⟨j, hj, rfl, HWR, HQ⟩ := hrel
        by_cases hlt : j < n
        · have j1 : (j : Int) < (n : Int) := by omega
          have q5 : IntKind.i64.wrap ((j : Int) + 1) = (j : Int) + 1 := IntWalk.i64_in _ (by have := HNN.out; omega)
          obtain ⟨b1, o1, a1, rfl, _, ha1, c1⟩ := (HWA.out.below HWR.out (Nat.le_refl _)).at_ (k := j) (by rw [List.length_map, HNN.out.1]; exact hlt)
          obtain ⟨b2, o2, a2, rfl, _, ha2, c2⟩ := (HWB.out.below HWR.out (Nat.le_refl _)).at_ (k := j) (by rw [List.length_map, HNN.out.2.1]; exact hlt)
          rw [List.getElem?_map] at ha1 ha2
          obtain ⟨z1, hz1, rfl⟩ := Option.map_eq_some_iff.1 ha1
          obtain ⟨z2, hz2, rfl⟩ := Option.map_eq_some_iff.1 ha2
          have r1 := W_range HC.out.1 x x z1 (Nat.le_refl _) (List.mem_of_getElem? hz1)
          have r2 := W_range HC.out.2.1 y y z2 (Nat.le_refl _) (List.mem_of_getElem? hz2)
          obtain ⟨y1, hy1⟩ : ∃ y1, y1 = z1 - 1 := ⟨_, rfl⟩
          obtain ⟨y2, hy2⟩ : ∃ y2, y2 = z2 - 1 := ⟨_, rfl⟩
          have q1 : IntKind.i64.wrap ((z1 : Int) - 1) = (y1 : Int) := by rw [show (z1 : Int) - 1 = (y1 : Int) by omega]; exact IntWalk.i64_in _ (by have := HC.out.2.2.1; omega)
          have q2 : IntKind.i64.wrap ((z2 : Int) - 1) = (y2 : Int) := by rw [show (z2 : Int) - 1 = (y2 : Int) by omega]; exact IntWalk.i64_in _ (by have := HC.out.2.2.2.1; omega)
          have j2 : (y1 : Int) < (ml : Int) := by have := HLM.out; omega
          have j3 : (0 : Int) ≤ (y1 : Int) := by omega
          have j4 : (y2 : Int) < (mm : Int) := by have := HLM.out; omega
          have j5 : (0 : Int) ≤ (y2 : Int) := by omega
          obtain ⟨b3, o3, n1, k1, rfl, hb3, hn1, x0, x1, x2, x3, x4, x5, xk⟩ := (HLL2.out.below HWR.out (Nat.le_refl _)).at_ (k := y1) (by omega)
          obtain ⟨b4, o4, n2, k2, rfl, hb4, hn2, u0, u1, u2, u3, u4, u5, uk⟩ := (HMM2.out.below HWR.out (Nat.le_refl _)).at_ (k := y2) (by omega)
          obtain ⟨Ak, ck, rfl⟩ := xk.form
          obtain ⟨Al, cl, rfl⟩ := uk.form
          have e1 : ((W L x).map (lab L))[j]? = some (labN n1) := by rw [List.getElem?_map, hz1, Option.map_some, lab_at (by rw [← hy1]; exact hn1)]
          have e2 : ((W M y).map (lab M))[j]? = some (labN n2) := by rw [List.getElem?_map, hz2, Option.map_some, lab_at (by rw [← hy2]; exact hn2)]
          have HFA : Hid (labN n1 ≠ labN n2 → sameB L (x : Int) M (y : Int) = false) := hide (fun hne => by
            rw [HS.out]
            refine decide_eq_false fun e => hne ?_
            rw [e, e2] at e1
            injection e1 with e1
            exact e1.symm)
          have HTR : Hid (labN n1 = labN n2 → ∀ q, q < j + 1 → ((W L x).map (lab L))[q]? = ((W M y).map (lab M))[q]?) := hide (fun he q hq => by
            rcases Nat.lt_or_ge q j with h1 | h1
            · exact HQ.out q h1
            · obtain rfl : q = j := by omega
              rw [e1, e2, he])
          have HK1 := hide (And.intro (HC.out.2.2.2.2.1 n1 (List.mem_of_getElem? hn1)) (HC.out.2.2.2.2.2 n2 (List.mem_of_getElem? hn2)))
          obtain ⟨l1, hl1⟩ : ∃ l1, l1 = n1.kids.length := ⟨_, rfl⟩
          obtain ⟨l2, hl2⟩ : ∃ l2, l2 = n2.kids.length := ⟨_, rfl⟩
          obtain ⟨t1, ht1⟩ : ∃ t1, t1 = n1.text := ⟨_, rfl⟩
          obtain ⟨t2, ht2⟩ : ∃ t2, t2 = n2.text := ⟨_, rfl⟩
          obtain ⟨i1, hi1⟩ : ∃ i1, i1 = n1.kind := ⟨_, rfl⟩
          obtain ⟨i2, hi2⟩ : ∃ i2, i2 = n2.kind := ⟨_, rfl⟩
          rw [← hl1] at x5 xk
          rw [← hl2] at u5 uk
          rw [← ht1] at x4
          rw [← ht2] at u4
          rw [← hi1] at x0
          rw [← hi2] at u0
          obtain ⟨g, hg⟩ : ∃ g, g = wr.heap.size := ⟨_, rfl⟩
          have hg2 : wb.heap.size ≤ g := by rw [hg]; exact HWR.out.size
          obtain ⟨W2, hW2⟩ : ∃ W2, W2 = (wr.alloc (.cells #[.int .i64 i1, .int .i64 n1.f, .int .i64 n1.l, .int .i64 n1.c, .string t1, .slice Ak l1 ck] 34)).alloc (.cells #[.int .i64 i2, .int .i64 n2.f, .int .i64 n2.l, .int .i64 n2.c, .string t2, .slice Al l2 cl] 34) := ⟨_, rfl⟩
          have hb2' : Below wr.heap.size wr W2 := by rw [hW2]; exact ((Below.refl _ _).alloc (Nat.le_refl _) _).alloc (by simp) _
          have hba : Blk W2 g 34 #[.int .i64 i1, .int .i64 n1.f, .int .i64 n1.l, .int .i64 n1.c, .string t1, .slice Ak l1 ck] := by rw [hW2, hg]; exact (Blk.new _ _ _).alloc _
          have hbb2 : Blk W2 (g + 1) 34 #[.int .i64 i2, .int .i64 n2.f, .int .i64 n2.l, .int .i64 n2.c, .string t2, .slice Al l2 cl] := by
            have h := Blk.new (wr.alloc (.cells #[.int .i64 i1, .int .i64 n1.f, .int .i64 n1.l, .int .i64 n1.c, .string t1, .slice Ak l1 ck] 34)) 34 #[.int .i64 i2, .int .i64 n2.f, .int .i64 n2.l, .int .i64 n2.c, .string t2, .slice Al l2 cl]
            rw [← hW2] at h
            rw [hg]
            simpa using h
          have HX2 := hide (xk.below hb2' (Nat.le_refl _))
          have HU2 := hide (uk.below hb2' (Nat.le_refl _))
          have HB2 := hide (HWR.out.trans (hb2'.mono HWR.out.size))
          have HNM2 := hide (And.intro hl1 (And.intro hl2 (And.intro ht1 (And.intro ht2 (And.intro hi1 hi2)))))
          have HW2 := hide hW2
          have HG := hide hg
          have HBA2 := hide hba
          have HBB2 := hide hbb2
          have HIT : Hid (l1 = l2 → i1 = i2 → t1 = t2 → (∀ (q : Nat) (x y : Int), n1.kids[q]? = some x → n2.kids[q]? = some y → (x = 0 ↔ y = 0)) → labN n1 = labN n2) := hide (fun a b c d => (labN_iff (by rw [← hl1, ← hl2, a])).2 ⟨by rw [← hi1, ← hi2, b], by rw [← ht1, ← ht2, c], d⟩)
          have HIF : Hid (labN n1 = labN n2 → l1 = l2 ∧ i1 = i2 ∧ t1 = t2 ∧ (∀ (q : Nat) (x y : Int), n1.kids[q]? = some x → n2.kids[q]? = some y → (x = 0 ↔ y = 0))) := hide (fun a => by
            have hl := labN_len a
            have hh := (labN_iff hl).1 a
            exact ⟨by rw [hl1, hl2, hl], by rw [hi1, hi2, hh.1], by rw [ht1, ht2, hh.2.1], hh.2.2⟩)
          clear ha1 ha2 hz1 hz2 r1 r2 hy1 hy2 hn1 xk hn2 uk e1 e2 hl1 hl2 ht1 ht2 hi1 hi2 hW2 hg hg2 hb2' hba hbb2
          go_upto_region 10 with (fail)
          rw [← HG.out, ← HW2.out]
          have z0 : W2.cell? ⟨g, 0, none⟩ = some (.int .i64 i1) := HBA2.out.cell 0
          have z4 : W2.cell? ⟨g, 4, none⟩ = some (.string t1) := HBA2.out.cell 4
          have z5 : W2.cell? ⟨g, 5, none⟩ = some (.slice Ak l1 ck) := HBA2.out.cell 5
          have v0 : W2.cell? ⟨g + 1, 0, none⟩ = some (.int .i64 i2) := HBB2.out.cell 0
          have v4 : W2.cell? ⟨g + 1, 4, none⟩ = some (.string t2) := HBB2.out.cell 4
          have v5 : W2.cell? ⟨g + 1, 5, none⟩ = some (.slice Al l2 cl) := HBB2.out.cell 5
          clear hb3 hb4 x0 x1 x2 x3 x4 x5 u0 u1 u2 u3 u4 u5 c1 c2 q1 q2 j1 j2 j3 j4 j5
          by_cases hki : i1 = i2
          · subst hki
            by_cases hte : t1 = t2
            · subst hte
              by_cases hle : l1 = l2
              · subst hle
                go_wp2_with fail
                go_loopw [14] (fun jj wr2 => ∃ k q : Nat, k ≤ l1 ∧ jj = .int .i64 k ∧ wr2 = W2.drewN q ∧ Hid (∀ (p : Nat) (x y : Int), p < k → n1.kids[p]? = some x → n2.kids[p]? = some y → (x = 0 ↔ y = 0))) (fun jj _ => l1 - (intOf jj).toNat)
                case atStart => exact ⟨0, 0, by omega, rfl, rfl, hide (fun p x y hp => by omega)⟩
                case round =>
                  obtain ⟨k, q, hk, rfl, rfl, HP⟩ := hrel
                  by_cases hlt2 : k < l1
                  · have j6 : (k : Int) < (l1 : Int) := by omega
                    obtain ⟨b5, o5, s1, rfl, _, hs1, d1⟩ := HX2.out.at_ (k := k) (by have := HNM2.out.1; omega)
                    obtain ⟨b6, o6, s2, rfl, _, hs2, d2⟩ := HU2.out.at_ (k := k) (by have := HNM2.out.2.1; omega)
                    have q6 : IntKind.i64.wrap ((k : Int) + 1) = (k : Int) + 1 := IntWalk.i64_in _ (by have := HK1.out; have := HNM2.out; omega)
                    have HS12 := hide (And.intro hs1 hs2)
                    clear hs1 hs2
                    have HNQ : Hid ((s1 = 0 ↔ s2 = 0) → ∀ (p : Nat) (x y : Int), p < k + 1 → n1.kids[p]? = some x → n2.kids[p]? = some y → (x = 0 ↔ y = 0)) := hide (fun hh p x y hp h1 h2 => by
                      rcases Nat.lt_or_ge p k with h3 | h3
                      · exact HP.out p x y h3 h1 h2
                      · obtain rfl : p = k := by omega
                        rw [HS12.out.1] at h1
                        rw [HS12.out.2] at h2
                        injection h1 with h1
                        injection h2 with h2
                        rw [← h1, ← h2]
                        exact hh)
                    have HBD : Hid (¬ (s1 = 0 ↔ s2 = 0) → sameB L (x : Int) M (y : Int) = false) := hide (fun hh => HFA.out (fun e => hh ((HIF.out e).2.2.2 k s1 s2 HS12.out.1 HS12.out.2)))
                    by_cases h1 : s1 = 0
                    · by_cases h2 : s2 = 0
                      · have HN3 := hide (HNQ.out (by simp [h1, h2]))
                        subst h1 h2
                        go_wp2_with fail
                        go_quiet (fail)
                        go_wp2_with fail
                        go_roundw
                        case rel => exact ⟨k + 1, _, by omega, by simp, by first | rfl | exact World.drewN_drewN _ _ _, HN3⟩
                        case measure => simp [intOf]; omega
                      · have HN3 := hide (HBD.out (by simp [h1, h2]))
                        subst h1
                        have k2 : (s2 == 0) = false := by rw [beq_eq_false_iff_ne]; exact h2
                        go_wp2_with fail
                        go_quiet (fail)
                        go_wp2_with fail
                        go_ret
                        exact ⟨by rw [HN3.out]; rfl, below_drewL (below_drewL (HBB.out.trans (HB2.out.mono HBB.out.size)) _) _⟩
                    · have k1 : (s1 == 0) = false := by rw [beq_eq_false_iff_ne]; exact h1
                      by_cases h2 : s2 = 0
                      · have HN3 := hide (HBD.out (by simp [h1, h2]))
                        subst h2
                        go_wp2_with fail
                        go_quiet (fail)
                        go_wp2_with fail
                        go_ret
                        exact ⟨by rw [HN3.out]; rfl, below_drewL (below_drewL (HBB.out.trans (HB2.out.mono HBB.out.size)) _) _⟩
                      · have HN3 := hide (HNQ.out (by simp [h1, h2]))
                        have k2 : (s2 == 0) = false := by rw [beq_eq_false_iff_ne]; exact h2
                        go_wp2_with fail
                        go_quiet (fail)
                        go_wp2_with fail
                        go_roundw
                        case rel => exact ⟨k + 1, _, by omega, by simp, by first | rfl | exact World.drewN_drewN _ _ _, HN3⟩
                        case measure => simp [intOf]; omega
                  · have hkm : k = l1 := by omega
                    have HN4 := hide (HTR.out (HIT.out (by first | rfl | trivial) (by first | rfl | trivial) (by first | rfl | trivial) (fun p x y h1 h2 => HP.out p x y (by rw [hkm, HNM2.out.1]; exact (List.getElem?_eq_some_iff.1 h1).1) h1 h2)))
                    subst hkm
                    go_wp2_with fail
                    go_roundw
                    case rel => exact ⟨j + 1, by omega, by simp, hide (below_drewL HB2.out _), HN4⟩
                    case measure => simp [intOf]; omega
              · have HN3 := hide (HFA.out (fun e => hle (HIF.out e).1))
                have k1 : ¬ (l1 : Int) = (l2 : Int) := by omega
                go_wp2_with fail
                go_ret
                exact ⟨by rw [HN3.out]; rfl, HBB.out.trans (HB2.out.mono HBB.out.size)⟩
            · have HN3 := hide (HFA.out (fun e => hte (HIF.out e).2.2.1))
              have k1 : (t1.toList == t2.toList) = false := by rw [ByteArray.toList_eq, ByteArray.toList_eq]; exact beq_false_of_ne (fun e => hte (by cases t1; cases t2; exact congrArg ByteArray.mk (Array.toList_inj.1 e)))
              go_wp2_with fail
              go_ret
              exact ⟨by rw [HN3.out]; rfl, HBB.out.trans (HB2.out.mono HBB.out.size)⟩
          · have HN3 := hide (HFA.out (fun e => hki (HIF.out e).2.1))
            have k1 : (i1 == i2) = false := by rw [beq_eq_false_iff_ne]; exact hki
            go_wp2_with fail
            go_ret
            exact ⟨by rw [HN3.out]; rfl, HBB.out.trans (HB2.out.mono HBB.out.size)⟩
        · have hjn : j = n := by omega
          have HFIN : Hid (sameB L (x : Int) M (y : Int) = true) := hide (by
            rw [HS.out]
            refine decide_eq_true (List.ext_getElem? fun q => ?_)
            rcases Nat.lt_or_ge q j with h1 | h1
            · exact HQ.out q h1
            · rw [List.getElem?_eq_none (by rw [List.length_map, HNN.out.1]; omega), List.getElem?_eq_none (by rw [List.length_map, HNN.out.2.1]; omega)])
          subst hjn
          go_wp2_with fail
          go_ret
          exact ⟨by rw [HFIN.out]; rfl, HBB.out.trans (HWR.out.mono HBB.out.size)⟩
    · have hy0 : ¬ 0 < y := fun hy0 => by
        obtain rfl : x = 0 := by omega
        rw [walk_zero] at hle
        exact hwy hy0 (List.eq_nil_of_length_eq_zero hle.symm)
      have ex : walkOf L (x : Int) = [] := by rw [show x = 0 by omega]; exact walk_zero L
      have ey : walkOf M (y : Int) = [] := by rw [show y = 0 by omega]; exact walk_zero M
      have HS : Hid (sameB L (x : Int) M (y : Int) = true) := hide (by unfold sameB; rw [hasB_nat hx, hasB_nat hy, decide_eq_false hx0, decide_eq_false hy0]; simp)
      obtain ⟨n, hn⟩ : ∃ n, n = (walkOf L (x : Int)).length := ⟨_, rfl⟩
      have hn2 : (walkOf M (y : Int)).length = n := by rw [hn, hle]
      have j0 : ¬ (0 : Int) < (n : Int) := by rw [hn, ex]; simp
      have i1 : (x : Int) < 1 := by omega
      have i3 : (y : Int) < 1 := by omega
      have i5 : ((n : Int) == (n : Int)) = true := by simp
      have iB : (!(decide ((x : Int) < 1) || decide (ml < x)) == (decide ((y : Int) < 1) || decide (mm < y))) = false := by rw [decide_eq_true (show (x : Int) < 1 by omega), decide_eq_true (show (y : Int) < 1 by omega), decide_eq_false (show ¬ ml < x by omega), decide_eq_false (show ¬ mm < y by omega)]; rfl
      have HE := hide (And.intro hn hn2)
      clear hle hx0 hy0 h h' hL hM hll hml hkl hkm hx hy hwx hwy hml2 hmm2 ex ey hn hn2
      go_enter Tryd.func19, Tryd.ntmps19
      go_wp2_with fail
      refine HRA.out.mono ?_
      rintro e wa ⟨va, rfl, howna, hba⟩
      have HRB := hide (refwalk_any _ M (y : Int) wa (HNM.out.below hba (Nat.le_refl _)) HC.out.2.1 HC.out.2.2.2.1 HC.out.2.2.2.2.2)
      have hIa : IntsAt wa va ((walkOf L (x : Int)).map fun k : Nat => (k : Int)) := by
        refine IntsAt.own (B := w.heap.size) ?_
        rw [List.map_map, List.length_map]
        exact howna
      obtain ⟨Aa, ca, rfl⟩ := own_formT howna
      have HIA := hide hIa
      have HBA := hide hba
      clear howna hba hIa
      go_wp2_with fail
      refine HRB.out.mono ?_
      rintro e wb ⟨vb, rfl, hownb, hbb⟩
      have HBB := hide (HBA.out.trans (hbb.mono HBA.out.size))
      have hIb : IntsAt wb vb ((walkOf M (y : Int)).map fun k : Nat => (k : Int)) := by
        refine IntsAt.own (B := wa.heap.size) ?_
        rw [List.map_map, List.length_map]
        exact hownb
      obtain ⟨Ab, cb, rfl⟩ := own_formT hownb
      have HIB := hide hIb
      have HIA2 := hide (HIA.out.below hbb (Nat.le_refl _))
      clear hownb hbb hIb
      rw [← HE.out.1, HE.out.2]
      go_wp2_with fail
      go_loopw [11] (fun jj wr => jj = .int .i64 0 ∧ wr = wb) (fun _ _ => 0)
      case atStart => exact ⟨rfl, rfl⟩
      case round =>
        obtain ⟨rfl, rfl⟩ := hrel
        go_wp2_with fail
        go_ret
        exact ⟨by rw [HS.out]; rfl, HBB.out⟩
  · have HS := hide (same_len hL hM hx hy hwx hwy hle)
    obtain ⟨n1, hn1⟩ : ∃ n1, n1 = (walkOf L (x : Int)).length := ⟨_, rfl⟩
    obtain ⟨n2, hn2⟩ : ∃ n2, n2 = (walkOf M (y : Int)).length := ⟨_, rfl⟩
    have i1 : ¬ (n1 : Int) = (n2 : Int) := by omega
    have HN1 := hide hn1
    have HN2 := hide hn2
    clear hle h h' hL hM hll hml hkl hkm hx hy hwx hwy hml2 hmm2 hn1 hn2
    go_enter Tryd.func19, Tryd.ntmps19
    go_wp2_with fail
    refine HRA.out.mono ?_
    rintro e wa ⟨va, rfl, howna, hba⟩
    have HRB := hide (refwalk_any _ M (y : Int) wa (HNM.out.below hba (Nat.le_refl _)) HC.out.2.1 HC.out.2.2.2.1 HC.out.2.2.2.2.2)
    have hIa : IntsAt wa va ((walkOf L (x : Int)).map fun k : Nat => (k : Int)) := by
      refine IntsAt.own (B := w.heap.size) ?_
      rw [List.map_map, List.length_map]
      exact howna
    obtain ⟨Aa, ca, rfl⟩ := own_formT howna
    have HIA := hide hIa
    have HBA := hide hba
    clear howna hba hIa
    go_wp2_with fail
    refine HRB.out.mono ?_
    rintro e wb ⟨vb, rfl, hownb, hbb⟩
    have HBB := hide (HBA.out.trans (hbb.mono HBA.out.size))
    have hIb : IntsAt wb vb ((walkOf M (y : Int)).map fun k : Nat => (k : Int)) := by
      refine IntsAt.own (B := wa.heap.size) ?_
      rw [List.map_map, List.length_map]
      exact hownb
    obtain ⟨Ab, cb, rfl⟩ := own_formT hownb
    have HIB := hide hIb
    have HIA2 := hide (HIA.out.below hbb (Nat.le_refl _))
    clear hownb hbb hIb
    rw [← HN1.out, ← HN2.out]
    go_wp2_with fail
    go_ret
    exact ⟨by rw [HS.out]; rfl, HBB.out⟩
end Go.Proofs.YtnphfogepdkpbaaDoor
