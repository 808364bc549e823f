/- The statement ScanGaps, as a walk; conditions: the library's variable. -/
import Derived.Test.YtkhfciinbdhbpaaGpG
import Derived.Test.YtkhfciinbdhbpaaSnO
import Derived.Test.YtkhfciinbdhbpaaSnY
import Derived.Deep.RegionHeld3
namespace Go.Proofs.Ytkhfciinbdhbpaa
open Go.RowKit Go.WideShapes Go.ChangeShapes
set_option linter.unusedVariables false
set_option linter.unusedSimpArgs false
set_option maxRecDepth 100000

theorem gp_note1 (l : Bs) : Gp [32, 47, 42, 32, 120, 32, 42, 47] l := ⟨⟨_, _, rfl, .inl rfl⟩, by decide, fun p o =>
  (keys_gap p o (show piece (32 :: ([47, 42, 32, 120, 32, 42, 47] ++ l)) = .gap 1 false from rfl)).trans
    (keys_gap p o (show piece (47 :: ([42, 32, 120, 32, 42, 47] ++ l)) = .gap 7 false from rfl))⟩
/-- The gaps of ScanGaps. -/
def isGap (G : Bs) : Prop := G.length ≤ 8 ∧ ∀ l, Gp G l
theorem keys_ok {l : Bs} {p : Nat × Nat} {o : Bool} {ts : List Tk} (h : keys (lexS l p o) = some (ts.map key)) : ∃ us, lexS l p o = .ok us ∧ ts.map key = us.map key := by
  cases hr : lexS l p o with
  | error q => rw [hr] at h; cases h
  | ok us => rw [hr] at h; injection h with h; exact ⟨us, rfl, h.symm⟩
/-- Ahead of each round of the loop that seeks the token's line. -/
structure GapRel (W : World) (l : Bs) (j T k L : Nat) (wr : World) : Prop where
  kj : k ≤ j
  hL : L = (adv (1, 1) (l.take k)).1
  le : L ≤ T
  at1 : L = T → adv (1, 1) (l.take k) = (T, 1)
  w : W = wr
theorem adv_mono {l : Bs} {k j : Nat} (h : k ≤ j) : (adv (1, 1) (l.take k)).1 ≤ (adv (1, 1) (l.take j)).1 := by
  have e : l.take j = l.take k ++ (l.drop k).take (j - k) := by
    rw [← List.take_add]
    congr 1
    omega
  rw [e, adv_append, adv_line ((l.drop k).take (j - k)) _]
  exact Nat.le_add_right _ _
theorem GapRel.lt {W wr : World} {l : Bs} {j T k L : Nat} (h : GapRel W l j T k L wr) (hT : (adv (1, 1) (l.take j)).1 = T) (hlt : L < T) : k < j := by
  rcases Nat.lt_or_ge k j with h1 | h1
  · exact h1
  · have := h.kj
    obtain rfl : k = j := by omega
    rw [h.hL] at hlt
    omega
theorem GapRel.start {W : World} {l : Bs} {j T : Nat} (hT : (adv (1, 1) (l.take j)).1 = T) : GapRel W l j T 0 1 W :=
  ⟨Nat.zero_le _, rfl, by have := adv_mono (l := l) (Nat.zero_le j); rw [hT] at this; exact this, fun e => by rw [← e]; rfl, rfl⟩
theorem GapRel.next {W wr : World} {l : Bs} {j T k L : Nat} (h : GapRel W l j T k L wr) (hj : j ≤ l.length) (hT : (adv (1, 1) (l.take j)).1 = T) (hlt : L < T) {b : UInt8} (hb : l[k]? = some b) :
    GapRel W l j T (k + 1) (if b = 10 then L + 1 else L) wr := by
  have hk := h.lt hT hlt
  have e : adv (1, 1) (l.take (k + 1)) = adv1 (adv (1, 1) (l.take k)) b := by
    obtain ⟨h1, h2⟩ := List.getElem?_eq_some_iff.1 hb
    exact take_adv _ _ _ b (l.drop (k + 1)) (by rw [List.drop_eq_getElem_cons h1, h2])
  have hm := adv_mono (l := l) (show k + 1 ≤ j by omega)
  have hL := h.hL
  by_cases h10 : b = 10
  · rw [if_pos h10]
    have e2 : adv1 (adv (1, 1) (l.take k)) b = (L + 1, 1) := by unfold adv1; rw [if_pos h10, ← hL]
    rw [e2] at e
    exact ⟨hk, by rw [e], by rw [e, hT] at hm; exact hm, fun e3 => by rw [e, e3], h.w⟩
  · rw [if_neg h10]
    have e2 : (adv1 (adv (1, 1) (l.take k)) b).1 = L := by unfold adv1; rw [if_neg h10, ← hL]
    exact ⟨hk, by rw [e, e2], h.le, fun e3 => by omega, h.w⟩

set_option maxHeartbeats 8000000 in
theorem gaps_walk (s : ByteArray) (hs : s.size ≤ maxLen) (at' how : Int) (w : World) (m : Int) (hm : w.cell? ⟨0, 0, none⟩ = some (.int .i64 m)) :
    Calls Try.prog 6 #[.string s, .int .i64 at', .int .i64 how] w fun e w' => e = .returned (.bool true) ∧ Below w.heap.size w w' := by
  have HAW := hide (awake02 w m hm)
  have HM := hide (And.intro hm (World.block_lt_of_cell? w _ hm))
  clear hm
  go_enter Try.func6, Try.ntmps6
  go_wp2_with fail
  refine HAW.out.mono ?_
  rintro e w1 ⟨rfl, hb1⟩
  have HB1 := hide hb1
  clear hb1
  by_cases hlong : 2048 < s.size
  · have i1 : (2048 : Int) < (s.size : Int) := by omega
    go_wp2_with fail
    go_ret
    exact ⟨rfl, HB1.out⟩
  have i1 : ¬ (2048 : Int) < (s.size : Int) := by omega
  have ht := tokens_any 0 s (by omega) w1 m ((HB1.out.cell (p := ⟨0, 0, none⟩) HM.out.2).trans HM.out.1)
  cases hr : lexS s.data.toList (1, 1) false with
  | error p =>
    rw [hr] at ht
    have HT := hide ht
    clear ht hr
    go_wp2_with fail
    refine HT.out.mono ?_
    rintro e w2 ⟨rfl, hb2⟩
    have HB2 := hide (HB1.out.trans (hb2.mono HB1.out.size))
    clear hb2
    go_wp2_with fail
    go_ret
    exact ⟨by simp, HB2.out.alloc HB2.out.size _⟩
  | ok ts =>
    rw [hr] at ht
    have hst := lex_stand _ _ _ _ _ (Nat.le_refl _) hr
    have hlen := lex_len _ _ _ _ _ (Nat.le_refl _) hr
    have hpos : 0 < ts.length := by
      obtain ⟨r, q, e⟩ := hst.2.2
      rw [e]
      simp
    have HINS := hide (ins _ _ _ _ _ (Nat.le_refl _) hr)
    have HT := hide ht
    have HLEN := hide (And.intro hpos hlen)
    clear ht hr hst hlen hpos
    go_wp2_with fail
    refine HT.out.mono ?_
    rintro e w2 ⟨v, rfl, hown, hb2⟩
    obtain ⟨g, cap, rfl, hg, hgl, hcap, hcm, hcl⟩ := own_at hown HLEN.out.1
    have HTR := hide (TR.of hown)
    have HB2 := hide (HB1.out.trans (hb2.mono HB1.out.size))
    have HG := hide hgl
    have HCL := hide hcl
    obtain ⟨n, hn⟩ : ∃ n, n = ts.length := ⟨_, rfl⟩
    rw [← hn] at HTR ⊢
    have hn2 : 0 < ts.length ∧ n = ts.length ∧ n ≤ 5000 := ⟨HLEN.out.1, hn, by have := HLEN.out.2; rw [← Lib.size_eq] at this; omega⟩
    have HN := hide hn2
    obtain ⟨fb, hfb⟩ : ∃ n, n = w2.heap.size := ⟨_, rfl⟩
    obtain ⟨W2, hW2⟩ : ∃ W, W = w2.alloc (.cells (faultA 0 0 0 0) 28) := ⟨_, rfl⟩
    have HF2 := hide (show Blk W2 fb 28 (faultA 0 0 0 0) from by rw [hW2, hfb]; exact Blk.new _ _ _)
    have HBW := hide (show Below w2.heap.size w2 W2 from by rw [hW2]; exact (Below.refl _ _).alloc (Nat.le_refl _) _)
    have HW2 := hide hW2
    have HFB := hide hfb
    clear hb2 hown hg hgl hcap hcm hcl hn hn2 hW2 hfb
    have hnz : ((n : Int) == 0) = false := beq_false_of_ne (by have := HN.out; omega)
    have hnz2 : ¬ (n : Int) = 0 := by have := HN.out; omega
    go_upto_region 8 with (fail)
    rw [← HW2.out, ← HFB.out]
    obtain ⟨x, hx⟩ : ∃ x : Nat, IntKind.u64.wrap at' = (x : Int) := ⟨(IntKind.u64.wrap at').toNat, (Int.toNat_of_nonneg (by rw [IntKind.wrap_u64]; omega)).symm⟩
    obtain ⟨d, hd⟩ : ∃ d : Nat, d = x % n := ⟨_, rfl⟩
    have hdn : d < n := by rw [hd]; exact Nat.mod_lt _ (by have := HN.out; omega)
    have hx2 : (x : Int).tmod (n : Int) = (d : Int) := by rw [hd, Int.ofNat_tmod]
    have q1 : IntKind.u64.wrap (n : Int) = (n : Int) := IntWalk.u64_in _ (by have := HN.out; omega)
    have q2 : IntKind.u64.wrap (d : Int) = (d : Int) := IntWalk.u64_in _ (by have := HN.out; omega)
    have q3 : IntKind.i64.wrap (d : Int) = (d : Int) := IntWalk.i64_in _ (by have := HN.out; omega)
    have i2 : (d : Int) < (n : Int) := by omega
    have hnz3 : ((n : Int) == 0) = false := beq_false_of_ne (by have := HN.out; omega)
    obtain ⟨t, ht⟩ : ∃ t, ts[d]? = some t := ⟨_, List.getElem?_eq_getElem (by have := HN.out; omega)⟩
    have HTK := hide ht
    have cc : ∀ c u, (t.cells 0)[c]? = some u → W2.cell? ⟨g, d * 5 + c, none⟩ = some u := fun c u hu => (HBW.out.cell (p := ⟨g, d * 5 + c, none⟩) HG.out).trans (HCL.out _ _ (tk_at 0 ht hu))
    have d0 := cc 0 _ rfl
    have d1 := cc 1 _ rfl
    have d2 := cc 2 _ rfl
    have d3 := cc 3 _ rfl
    have d4 := cc 4 _ rfl
    simp only [Nat.add_zero] at d0
    obtain ⟨T, hT⟩ : ∃ p, p = t.p.1 := ⟨_, rfl⟩
    obtain ⟨C, hC⟩ : ∃ p, p = t.p.2 := ⟨_, rfl⟩
    obtain ⟨tk, htk⟩ : ∃ x, x = t.k := ⟨_, rfl⟩
    obtain ⟨X, hX⟩ : ∃ x : ByteArray, x = ⟨t.t.toArray⟩ := ⟨_, rfl⟩
    rw [← hT] at d3
    rw [← hC] at d4
    rw [← htk] at d0
    rw [← hX] at d1
    have HD := hide (And.intro hT hC)
    clear ht cc hT hC htk hX hd
    go_upto_region 9 with (fail)
    obtain ⟨tb, htb⟩ : ∃ n, n = W2.heap.size := ⟨_, rfl⟩
    obtain ⟨W3, hW3⟩ : ∃ W, W = W2.alloc (.cells #[.int .i64 tk, .string X, .int .i64 0, .int .i64 (T : Int), .int .i64 (C : Int)] 41) := ⟨_, rfl⟩
    have HT3 := hide (show Blk W3 tb 41 #[.int .i64 tk, .string X, .int .i64 0, .int .i64 (T : Int), .int .i64 (C : Int)] from by rw [hW3, htb]; exact Blk.new _ _ _)
    have HF3 := hide (show Blk W3 fb 28 (faultA 0 0 0 0) from by rw [hW3]; exact HF2.out.alloc _)
    have HBW3 := hide (show Below w2.heap.size w2 W3 from by rw [hW3]; exact HBW.out.alloc HBW.out.size _)
    have HW3 := hide hW3
    have HTB := hide htb
    clear hW3 htb d0 d1 d2 d3 d4 hx hx2 q1 q2 q3 i2 hnz hnz2 hnz3
    rw [← HW3.out, ← HTB.out]
    obtain ⟨j, hj, hjp, hjn⟩ := HINS.out.1 t (List.mem_of_getElem? HTK.out)
    have hjT : (adv (1, 1) (s.data.toList.take j)).1 = T := by rw [← hjp]; exact HD.out.1.symm
    have hjC : (adv (1, 1) (s.data.toList.take j)).2 = C := by rw [← hjp]; exact HD.out.2.symm
    have hjs : j ≤ s.size := by rw [Lib.size_eq]; exact hj
    have hTs : T ≤ 5000 := by rw [← hjT, adv_line]; have := List.count_le_length (a := (10 : UInt8)) (l := s.data.toList.take j); rw [List.length_take] at this; simp only; omega
    have HJ := hide (show j ≤ s.data.toList.length ∧ (adv (1, 1) (s.data.toList.take j)).1 = T ∧ (adv (1, 1) (s.data.toList.take j)).2 = C ∧ j ≤ s.size ∧ T ≤ 5000 from ⟨hj, hjT, hjC, hjs, hTs⟩)
    have HJN := hide hjn
    have HST := hide (GapRel.start (W := W3) hjT)
    clear hj hjp hjn hjT hjC hjs hTs
    have x3 : W3.cell? ⟨tb, 3, none⟩ = some (.int .i64 (T : Int)) := HT3.out.cell 3
    have x4 : W3.cell? ⟨tb, 4, none⟩ = some (.int .i64 (C : Int)) := HT3.out.cell 4
    go_wp2_with fail
    go_loopw [10, 11] (fun kv lv wr => ∃ k L : Nat, kv = .int .i64 (k : Int) ∧ lv = .int .i64 (L : Int) ∧ GapRel W3 s.data.toList j T k L wr) (fun kv _ _ => (((s.size : Int) - intOf kv).toNat))
    case atStart => exact ⟨0, 1, rfl, rfl, HST.out⟩
    case round =>
      obtain ⟨k, L, rfl, rfl, hg⟩ := hrel
      obtain rfl := hg.w
      have hkj := hg.kj
      have hLT := hg.le
      by_cases hlt : L < T
      · have hk := hg.lt HJ.out.2.1 hlt
        have j1 : (L : Int) < (T : Int) := by omega
        have hks : k < s.size := by have := HJ.out; omega
        have j2 : (k : Int) < (s.size : Int) := by omega
        have q1 : IntKind.i64.wrap ((k : Int) + 1) = (k : Int) + 1 := IntWalk.i64_in _ (by omega)
        have q2 : IntKind.i64.wrap ((L : Int) + 1) = (L : Int) + 1 := IntWalk.i64_in _ (by have := HJ.out; omega)
        have hnx := hg.next HJ.out.1 HJ.out.2.1 hlt (b := s[k]'hks) (List.getElem?_eq_some_iff.2 ⟨by rw [← Lib.size_eq]; exact hks, rfl⟩)
        by_cases h10 : s[k]'hks = 10
        · have h10i : ((s[k]'hks).toNat : Int) = 10 := by rw [h10]; rfl
          rw [if_pos h10] at hnx
          have HNX := hide hnx
          have HLT := hide (And.intro hk hks)
          clear hnx h10 hg hkj hLT hk
          go_wp2_with fail
          go_roundw
          case rel => exact ⟨k + 1, L + 1, by simp, by simp, HNX.out⟩
          case measure => simp [intOf]; omega
        · have h10i : ¬ ((s[k]'hks).toNat : Int) = 10 := fun e => h10 (u8_int (n := 10) (by omega) e)
          rw [if_neg h10] at hnx
          have HNX := hide hnx
          have HLT := hide (And.intro hk hks)
          clear hnx h10 hg hkj hLT hk
          go_wp2_with fail
          go_roundw
          case rel => exact ⟨k + 1, L, by simp, rfl, HNX.out⟩
          case measure => simp [intOf]; omega
      · have hLe : L = T := by omega
        have hpl := place_at hkj HJ.out.1 (hg.at1 hLe) HJ.out.2.1
        rw [HJ.out.2.2.1] at hpl
        have j1 : ¬ (L : Int) < (T : Int) := by omega
        have hks : k ≤ s.size := by have := HJ.out; omega
        have hjs : j ≤ s.size := HJ.out.2.2.2.1
        have hjj : (k : Int) + (C : Int) - 1 = (j : Int) := by omega
        have q1 : IntKind.i64.wrap ((k : Int) + (C : Int)) = (k : Int) + (C : Int) := IntWalk.i64_in _ (by omega)
        have q2 : IntKind.i64.wrap ((k : Int) + (C : Int) - 1) = (j : Int) := by rw [IntWalk.i64_in _ (by omega)]; exact hjj
        have j3 : ¬ (s.size : Int) < (j : Int) := by omega
        clear hpl hg hLe hjj hkj hLT
        go_upto_region 18 with (fail)
        go_cut [12] (fun s12 wx => ∃ G : Bs, s12 = .string ⟨G.toArray⟩ ∧ isGap G ∧ W3 = wx)
        case first =>
          obtain ⟨y, hy⟩ : ∃ x : Nat, IntKind.u64.wrap how = (x : Int) := ⟨(IntKind.u64.wrap how).toNat, (Int.toNat_of_nonneg (by rw [IntKind.wrap_u64]; omega)).symm⟩
          have hy2 : (y : Int).tmod 4 = ((y % 4 : Nat) : Int) := by rw [show (4 : Int) = ((4 : Nat) : Int) from rfl, Int.ofNat_tmod]
          have hy4 : y % 4 = 0 ∨ y % 4 = 1 ∨ y % 4 = 2 ∨ y % 4 = 3 := by omega
          have hz0 : ∀ W, (Instr.index 43 (.agg #[.string ⟨#[32]⟩, .string ⟨#[9]⟩, .string ⟨#[32, 47, 42, 32, 120, 32, 42, 47]⟩, .string ⟨#[32, 47, 42, 42, 47, 32]⟩]) (.int .u64 ((0 : Nat) : Int))).run Try.prog W = .ok (.string ⟨#[32]⟩) W := fun W => by kernel_rfl
          have hz1 : ∀ W, (Instr.index 43 (.agg #[.string ⟨#[32]⟩, .string ⟨#[9]⟩, .string ⟨#[32, 47, 42, 32, 120, 32, 42, 47]⟩, .string ⟨#[32, 47, 42, 42, 47, 32]⟩]) (.int .u64 ((1 : Nat) : Int))).run Try.prog W = .ok (.string ⟨#[9]⟩) W := fun W => by kernel_rfl
          have hz2 : ∀ W, (Instr.index 43 (.agg #[.string ⟨#[32]⟩, .string ⟨#[9]⟩, .string ⟨#[32, 47, 42, 32, 120, 32, 42, 47]⟩, .string ⟨#[32, 47, 42, 42, 47, 32]⟩]) (.int .u64 ((2 : Nat) : Int))).run Try.prog W = .ok (.string ⟨#[32, 47, 42, 32, 120, 32, 42, 47]⟩) W := fun W => by kernel_rfl
          have hz3 : ∀ W, (Instr.index 43 (.agg #[.string ⟨#[32]⟩, .string ⟨#[9]⟩, .string ⟨#[32, 47, 42, 32, 120, 32, 42, 47]⟩, .string ⟨#[32, 47, 42, 42, 47, 32]⟩]) (.int .u64 ((3 : Nat) : Int))).run Try.prog W = .ok (.string ⟨#[32, 47, 42, 42, 47, 32]⟩) W := fun W => by kernel_rfl
          obtain ⟨ez0, hz0'⟩ : ∃ z : Int, z = ((0 : Nat) : Int) := ⟨_, rfl⟩
          obtain ⟨ez1, hz1'⟩ : ∃ z : Int, z = ((1 : Nat) : Int) := ⟨_, rfl⟩
          obtain ⟨ez2, hz2'⟩ : ∃ z : Int, z = ((2 : Nat) : Int) := ⟨_, rfl⟩
          obtain ⟨ez3, hz3'⟩ : ∃ z : Int, z = ((3 : Nat) : Int) := ⟨_, rfl⟩
          rw [← hz0'] at hz0
          rw [← hz1'] at hz1
          rw [← hz2'] at hz2
          rw [← hz3'] at hz3
          have HE := hide (show ez0 = 0 ∧ ez1 = 1 ∧ ez2 = 2 ∧ ez3 = 3 from ⟨hz0', hz1', hz2', hz3'⟩)
          rcases hy4 with h4 | h4 | h4 | h4
          · rw [h4, ← hz0'] at hy2
            clear h4 hz0' hz1' hz2' hz3' hz1 hz2 hz3
            go_wp2_with fail
            go_meet
            exact ⟨[32], rfl, ⟨by decide, gp_blank⟩, rfl⟩
          · rw [h4, ← hz1'] at hy2
            clear h4 hz0' hz1' hz2' hz3' hz0 hz2 hz3
            go_wp2_with fail
            go_meet
            exact ⟨[9], rfl, ⟨by decide, gp_tab⟩, rfl⟩
          · rw [h4, ← hz2'] at hy2
            clear h4 hz0' hz1' hz2' hz3' hz0 hz1 hz3
            go_wp2_with fail
            go_meet
            exact ⟨[32, 47, 42, 32, 120, 32, 42, 47], rfl, ⟨by decide, gp_note1⟩, rfl⟩
          · rw [h4, ← hz3'] at hy2
            clear h4 hz0' hz1' hz2' hz3' hz0 hz1 hz2
            go_wp2_with fail
            go_meet
            exact ⟨[32, 47, 42, 42, 47, 32], rfl, ⟨by decide, gp_bare⟩, rfl⟩
        case rest =>
        obtain ⟨G, rfl, hgap, rfl⟩ := hcut
        obtain ⟨us, hus, huk⟩ := keys_ok (HJN.out G (hgap.2 _) (1, 1))
        have hul := lex_len _ _ _ _ _ (Nat.le_refl _) hus
        obtain ⟨E1, hE1⟩ : ∃ E : ByteArray, E = s.extract 0 j := ⟨_, rfl⟩
        obtain ⟨E2, hE2⟩ : ∃ E : ByteArray, E = s.extract j s.size := ⟨_, rfl⟩
        obtain ⟨GB, hGB⟩ : ∃ E : ByteArray, E = ⟨G.toArray⟩ := ⟨_, rfl⟩
        have hsz : (E1 ++ GB ++ E2).data.toList = s.data.toList.take j ++ (G ++ s.data.toList.drop j) := by
          rw [hE1, hE2, hGB]
          simp
          exact List.take_of_length_le (by rw [List.length_drop, ← Lib.size_eq]; omega)
        have g1 : E1.size = j := by rw [hE1]; simp; omega
        have g2 : E2.size = s.size - j := by rw [hE2]; simp
        have g3 : GB.size ≤ 8 := by rw [hGB, ba_size]; exact hgap.1
        have hsl1 : ∀ W : World, (Instr.slice 9 (.string s) none (some (.int .i64 (j : Int))) none).run Try.prog W = .ok (.string E1) W := fun W => by
          have h := run_slice_string_h (P := Try.prog) W 9 s Try.underlying9 .i64 (j : Int) (by omega) (by omega)
          rw [Int.toNat_natCast, ← hE1] at h
          exact h
        have hsl2 : ∀ W : World, (Instr.slice 9 (.string s) (some (.int .i64 (j : Int))) none none).run Try.prog W = .ok (.string E2) W := fun W => by
          have h := run_slice_string_l (P := Try.prog) W 9 s Try.underlying9 .i64 (j : Int) (by omega) (by omega)
          rw [Int.toNat_natCast, ← hE2] at h
          exact h
        have g4 : (E1 ++ GB).size = E1.size + GB.size := ByteArray.size_append
        have hcat1 : ∀ W : World, (Op.stringOp .add E1 GB).run Try.prog W = .ok (.string (E1 ++ GB)) W := fun W => run_string_add_sum W _ _ (by omega)
        have hcat2 : ∀ W : World, (Op.stringOp .add (E1 ++ GB) E2).run Try.prog W = .ok (.string (E1 ++ GB ++ E2)) W := fun W => run_string_add_sum W _ _ (by omega)
        have g5 : (E1 ++ GB ++ E2).size = (E1 ++ GB).size + E2.size := ByteArray.size_append
        have hm3 : ∀ W, Below w2.heap.size w2 W → W.cell? ⟨0, 0, none⟩ = some (.int .i64 m) := fun W h => ((HB2.out.trans (h.mono HB2.out.size)).cell (p := ⟨0, 0, none⟩) HM.out.2).trans HM.out.1
        have hct : ∀ W, Below w2.heap.size w2 W → Calls Try.prog 9 #[.int .i64 0, .string (E1 ++ GB ++ E2)] W fun e w' => ∃ v, e = .returned (.tuple #[v, .agg (faultA 0 0 0 0)]) ∧ w'.ownsRow W.heap.size 41 5 v us.length (us.flatMap (Tk.cells 0)) ∧ Below W.heap.size W w' := fun W h => by
          have h2 := tokens_any 0 (E1 ++ GB ++ E2) (by omega) W m (hm3 W h)
          rw [hsz, hus] at h2
          exact h2
        have HM3 := hide hm3
        have HCT := hide hct
        have HGP := hide (And.intro hgap.1 huk)
        have HUL := hide (show us.length ≤ 5000 from by rw [← hsz, ← Lib.size_eq] at hul; omega)
        have HE3 := hide (show Below w2.heap.size w2 W3 from HBW3.out)
        rw [← hGB]
        clear hgap huk hul hus g1 g2 g3 g4 g5 hm3 hct hE1 hE2 hGB hsz
        go_upto_region 19 with (fail)
        go_cut [13, 14] (fun s13 s14 wx => ∃ g2 : Nat, s14 = .pointer (some ⟨g2, 0, none⟩) ∧ w2.heap.size ≤ g2 ∧ TR wx s13 0 us ∧ Blk wx g2 28 (faultA 0 0 0 0) ∧ Below w2.heap.size w2 wx ∧ Below W3.heap.size W3 wx)
        case first =>
          have HF4 := hide (show Blk (W3.alloc (.cells #[.int .i64 0, .int .i64 0, .int .i64 0, .int .i64 0] 28)).drew W3.heap.size 28 (faultA 0 0 0 0) from (Blk.new _ _ _).drew)
          go_region_held3 (fun _ => True) (first | trivial) (first
            | (go_at_call 9; (with_reducible refine (HCT.out _ HE3.out.drew).mono ?_); rintro e wa ⟨va, rfl, howna, hba⟩)
            | (go_at_call 9; (with_reducible refine (HCT.out _ (HE3.out.alloc HE3.out.size _).drew).mono ?_); rintro e wb ⟨vb, rfl, hownb, hbb⟩; have hfb := (HF4.out).below hbb HF4.out.lt; have c0 := hfb.cell 0; have c1 := hfb.cell 1; have c2 := hfb.cell 2; have c3 := hfb.cell 3; have z0 := hfb.frozen 0; have z1 := hfb.frozen 1; have z2 := hfb.frozen 2; have z3 := hfb.frozen 3; simp at c0 c1 c2 c3))
          · go_wp2_with fail
            go_meet
            exact ⟨wa.heap.size, rfl, Nat.le_trans HE3.out.size hba.size, (TR.of howna).below ((Below.refl _ _).alloc (Nat.le_refl _) _) (Nat.le_refl _), Blk.new _ _ _,
              (HE3.out.trans ((Below.refl _ _).drew.trans (hba.mono HE3.out.size))).alloc (Nat.le_trans HE3.out.size hba.size) _, ((Below.refl W3.heap.size W3).drew.trans hba).alloc hba.size _⟩
          · go_wp2_with fail
            go_meet
            have hbw : Below W3.heap.size W3 wb := (((Below.refl W3.heap.size W3).alloc (Nat.le_refl _) _).drew).trans (hbb.mono (by simp))
            exact ⟨W3.heap.size, rfl, HE3.out.size, TR.of (own_faultT hownb hfb (by decide) _ _ _ _), set_fault hfb _ _ _ _, below_fault (HE3.out.trans (hbw.mono HE3.out.size)) HE3.out.size _ _ _ _, below_fault hbw (Nat.le_refl _) _ _ _ _⟩
        case rest =>
        obtain ⟨g2, rfl, hg2, htr2, hf2, hbe2, hbe3⟩ := hcut
        have HG2 := hide hg2
        have HTR2 := hide htr2
        have HFB2 := hide hf2
        have HBE2 := hide hbe2
        have HBE3 := hide hbe3
        clear hg2 htr2 hf2 hbe2 hbe3
        obtain ⟨vs, hvs, hvk⟩ := keys_ok (HINS.out.2 _ (by rw [List.drop_length]; exact gp_behind) (1, 1))
        rw [List.drop_length, List.take_length, List.append_nil] at hvs
        have hvl := lex_len _ _ _ _ _ (Nat.le_refl _) hvs
        obtain ⟨BB, hBB⟩ : ∃ B : ByteArray, B = ⟨#[32, 47, 47, 32, 98, 101, 104, 105, 110, 100]⟩ := ⟨_, rfl⟩
        have hBz : BB.size = 10 := by rw [hBB]; rfl
        have hsz2 : (s ++ BB).data.toList = s.data.toList ++ [32, 47, 47, 32, 98, 101, 104, 105, 110, 100] := by rw [hBB]; simp
        have g6 : (s ++ BB).size = s.size + BB.size := ByteArray.size_append
        have hcat3 : ∀ W : World, (Op.stringOp .add s BB).run Try.prog W = .ok (.string (s ++ BB)) W := fun W => run_string_add_sum W _ _ (by omega)
        have hct2 : Calls Try.prog 9 #[.int .i64 0, .string (s ++ BB)] wc fun e w' => ∃ v, e = .returned (.tuple #[v, .agg (faultA 0 0 0 0)]) ∧ w'.ownsRow wc.heap.size 41 5 v vs.length (vs.flatMap (Tk.cells 0)) ∧ Below wc.heap.size wc w' := by
          have h2 := tokens_any 0 (s ++ BB) (by omega) wc m (HM3.out wc HBE2.out)
          rw [hsz2, hvs] at h2
          exact h2
        have HCT2 := hide hct2
        have HVL := hide (show vs.length ≤ 5000 from by rw [← hsz2, ← Lib.size_eq] at hvl; omega)
        have HVK := hide hvk
        clear hvs hvk hvl hsz2 g6 hct2 hBz
        rw [hBB] at HCT2 hcat3
        clear hBB
        go_wp2_with fail
        refine HCT2.out.mono ?_
        rintro e w5 ⟨v5, rfl, hown5, hb5⟩
        obtain ⟨hb, hhb⟩ : ∃ n, n = w5.heap.size := ⟨_, rfl⟩
        obtain ⟨W5, hW5⟩ : ∃ W, W = w5.alloc (.cells (faultA 0 0 0 0) 28) := ⟨_, rfl⟩
        have hbx5 : Below w5.heap.size w5 W5 := by rw [hW5]; exact (Below.refl _ _).alloc (Nat.le_refl _) _
        have HF5 := hide (show Blk W5 hb 28 (faultA 0 0 0 0) from by rw [hW5, hhb]; exact Blk.new _ _ _)
        have hb5' : Below wc.heap.size wc W5 := hb5.trans (hbx5.mono hb5.size)
        have HFG := hide (HFB2.out.below hb5' HFB2.out.lt)
        have HB5 := hide (HBE2.out.trans (hb5'.mono HBE2.out.size))
        have HTR5 := hide ((TR.of hown5).below hbx5 (Nat.le_refl _))
        have HTR25 := hide (HTR2.out.below hb5' (Nat.le_refl _))
        have HTR05 := hide (HTR.out.below HB5.out (Nat.le_refl _))
        have HS1 := hide (same_np HTR05.out HTR25.out (agree_keys HGP.out.2) (by have := HN.out; omega))
        have HS2 := hide (fun q : Nat => same_np (HTR05.out.below (below_drewNT (Below.refl _ _) q) (Nat.le_refl _)) (HTR5.out.below (below_drewNT (Below.refl _ _) q) (Nat.le_refl _)) (agree_keys HVK.out) (by have := HN.out; omega))
        have HW5 := hide hW5
        have HHB := hide hhb
        have HBN := hide (HB2.out.trans (HB5.out.mono HB2.out.size))
        clear hbx5 hb5 hb5' hown5 hW5 hhb
        have c0 := HF5.out.cell 0
        have c1 := HF5.out.cell 1
        have c2 := HF5.out.cell 2
        have c3 := HF5.out.cell 3
        have d0 := HFG.out.cell 0
        have d1 := HFG.out.cell 1
        have d2 := HFG.out.cell 2
        have d3 := HFG.out.cell 3
        simp at c0 c1 c2 c3 d0 d1 d2 d3
        go_upto_region 21 with (fail)
        rw [← HW5.out, ← HHB.out]
        go_wp2_with fail
        refine HS1.out.mono ?_
        rintro e w6 ⟨rfl, q6, rfl⟩
        go_wp2_with fail
        refine (HS2.out q6).mono ?_
        rintro e w7 ⟨rfl, q7, rfl⟩
        go_wp2_with fail
        go_ret
        exact ⟨rfl, below_drewNT HBN.out (q6 + q7)⟩
end Go.Proofs.Ytkhfciinbdhbpaa
