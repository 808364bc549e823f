/- Package wide: Parse, the walk; conditions: none. -/
import Derived.Test.YtgleldpdelhhhaaDoorWide9
namespace Go.Proofs.YtgleldpdelhhhaaDoor
open Go.RowKit Go.WideShapes Go.ChangeShapes Go.Shelf
set_option linter.unusedVariables false
set_option maxRecDepth 100000

theorem parse_empty (w : World) : Calls Tryd.prog 37 #[.string ⟨#[]⟩] w fun e w' => e = .returned (.tuple #[wv 0 0, .int .i64 17]) ∧ Below w.heap.size w w' := by
  go_enter Tryd.func37, Tryd.ntmps37
  go_wp2_with fail
  exact ret_wt (v := .int .i64 17) rfl rfl rfl rfl (Blk.new _ _ _) ⟨rfl, (Below.refl _ _).alloc (Nat.le_refl _) _⟩
theorem some_str {s : ByteArray} (h1 : 0 < s.size) : s.toList.isEmpty = false := by
  rw [Lib.toList_data]
  cases h : s.data.toList with
  | nil => have := Lib.size_eq s; rw [h, List.length_nil] at this; omega
  | cons _ _ => rfl
theorem parse_zero (s : ByteArray) (h1 : 1 < s.size) (h0 : (s[0]'(by omega)).toNat = 48) (w : World) : Calls Tryd.prog 37 #[.string s] w fun e w' => e = .returned (.tuple #[wv 0 0, .int .i64 17]) ∧ Below w.heap.size w w' := by
  have g2 : 0 < s.size := by omega
  have g1 := some_str g2
  go_enter Tryd.func37, Tryd.ntmps37
  go_wp2_with fail
  exact ret_wt (v := .int .i64 17) rfl rfl rfl rfl (Blk.new _ _ _) ⟨rfl, (Below.refl _ _).alloc (Nat.le_refl _) _⟩
theorem parse_bad (s : ByteArray) (hs : s.size ≤ maxLen) (h1 : 0 < s.size) (h3 : (Lib.trimS s.data.toList tenS.data.toList) ≠ []) (w : World) : Calls Tryd.prog 37 #[.string s] w fun e w' => e = .returned (.tuple #[wv 0 0, .int .i64 17]) ∧ Below w.heap.size w w' := by
  have g1 := some_str h1
  obtain ⟨tr, htr⟩ : ∃ tr : ByteArray, tr = ⟨(Lib.trimS s.data.toList tenS.data.toList).toArray⟩ := ⟨_, rfl⟩
  have HT := hide (fun W => trim_any s hs W)
  rw [← htr] at HT
  have hne : tr.toList.isEmpty = false := by
    rw [htr, Lib.toList_data]
    cases h : Lib.trimS s.data.toList tenS.data.toList with
    | nil => exact absurd h h3
    | cons _ _ => rfl
  clear h3 htr
  go_enter Tryd.func37, Tryd.ntmps37
  go_wp2_with (go_at_call 58; (with_reducible refine (HT.out _).mono ?_); rintro e w1 ⟨rfl, hb1⟩; obtain ⟨d0, d1, f0, f1⟩ := two_cells ((Blk.new w _ _).below hb1 (by simp)); have HB := hide hb1; clear hb1)
  · exact ret_wt (v := .int .i64 17) rfl rfl rfl rfl (Blk.new _ _ _) ⟨rfl, (Below.refl _ _).alloc (Nat.le_refl _) _⟩
  all_goals
    have hbk := (Blk.new w 24 #[.int .u64 0, .int .u64 0]).below HB.out (by simp)
    have hlow := ((Below.refl w.heap.size w).alloc (Nat.le_refl _) _).trans (HB.out.mono (by simp))
    exact ret_wt (v := .int .i64 17) rfl rfl rfl rfl (set_two hbk _ _) ⟨rfl, below_set2 hlow (Nat.le_refl _) _ _⟩

def tk (s : ByteArray) (k : Nat) : Int := (valL (s.data.toList.take k) : Nat)
theorem tk_step (s : ByteArray) (k : Nat) (hk : k < s.size) (hd : 48 ≤ (s[k]'hk).toNat) : tk s (k + 1) = tk s k * 10 + (((s[k]'hk).toNat : Int) - 48) := by
  unfold tk
  have e : s.data.toList.take (k + 1) = s.data.toList.take k ++ [s[k]'hk] := by
    rw [List.take_succ_eq_append_getElem (by simpa using hk)]; rfl
  rw [e, valL_snoc]
  omega
theorem tk_zero (s : ByteArray) : tk s 0 = 0 := by unfold tk; rw [List.take_zero]; rfl
theorem tk_nonneg (s : ByteArray) (k : Nat) : 0 ≤ tk s k := by unfold tk; omega
theorem tk_le (s : ByteArray) (k : Nat) : tk s k ≤ (valL s.data.toList : Nat) := by
  unfold tk
  have h := valL_mono (s.data.toList.take k) (s.data.toList.drop k)
  rw [List.take_append_drop] at h
  omega
theorem WB.two {w W : World} {gs : List (Nat × Int × Int)} (h : Hid (WB w gs W)) : ∃ g, g = W.heap.size ∧ Hid (WB w ((g + 1, 0, 0) :: (g, 0, 10) :: gs) ((W.alloc (.cells #[.int .u64 0, .int .u64 10] 24)).alloc (.cells #[.int .u64 0, .int .u64 0] 24))) := by
  refine ⟨_, rfl, ?_⟩
  have h2 := WB.addz (x := 0) (y := 0) (WB.addz (x := 0) (y := 10) h)
  rw [size_alloc1] at h2
  exact h2
def ParseRel (w : World) (s : ByteArray) (n g : Nat) (i : Value) (wr : World) : Prop :=
  ∃ k : Nat, k ≤ s.size ∧ i = .int .i64 k ∧ tk s k < 170141183460469231731687303715884105728 ∧ Hid (WB w [(g + 1, hiW (tk s k), loW (tk s k)), (g, 0, 10), (n, 0, 0)] wr)
def parseN (v : Int) : Value := if v < 170141183460469231731687303715884105728 then .tuple #[wv (hiW v) (loW v), .int .i64 0] else .tuple #[wv 0 0, .int .i64 10]

set_option maxHeartbeats 4000000 in
theorem parse_good (s : ByteArray) (hs : s.size ≤ maxLen) (h1 : 0 < s.size) (h2 : 1 < s.size → ¬ (s[0]'h1).toNat = 48) (h3 : ∀ (k : Nat) (hk : k < s.size), 48 ≤ (s[k]'hk).toNat ∧ (s[k]'hk).toNat ≤ 57) (w : World) :
    Calls Tryd.prog 37 #[.string s] w fun e w' => e = .returned (parseN (valL s.data.toList : Nat)) ∧ Below w.heap.size w w' := by
  have HTR := hide (show ∀ W, Calls Tryd.prog 58 #[.string s, .string tenS] W fun e w' => e = .returned (.string ⟨#[]⟩) ∧ Below W.heap.size W w' from fun W => by
    have h := trim_any s hs W
    rw [trimS_nil (fun x hx => by
      rw [ten_has]
      obtain ⟨k, hk, rfl⟩ := List.getElem_of_mem hx
      have hk2 : k < s.size := by simpa using hk
      have := h3 k hk2
      unfold digB
      rw [Bool.and_eq_true, decide_eq_true_eq, decide_eq_true_eq]
      exact this)] at h
    exact h)
  have HM := hide (show WB w [(w.heap.size, 0, 0)] (w.alloc (.cells #[.int .u64 0, .int .u64 0] 24)) from ⟨fun p hp => by rw [List.mem_singleton.1 hp]; exact Blk.new _ _ _, (Below.refl _ _).alloc (Nat.le_refl _) _, fun p hp => by rw [List.mem_singleton.1 hp]; exact Nat.le_refl _, by simp⟩)
  have HD := hide h3
  have HV := hide (show tk s s.size = (valL s.data.toList : Nat) by unfold tk; rw [List.take_of_length_le (by simp)])
  have HLE := hide (tk_le s)
  obtain ⟨V, hV⟩ : ∃ V : Int, V = (valL s.data.toList : Nat) := ⟨_, rfl⟩
  rw [← hV] at HV HLE ⊢
  have hz : s.size ≤ 9223372036854775807 := by unfold maxLen at hs; omega
  have g1 := some_str h1
  obtain ⟨n, hn⟩ : ∃ n, n = w.heap.size := ⟨_, rfl⟩
  rw [← hn] at HM
  have HN := hide hn
  clear hn h3 hs hV
  go_enter Tryd.func37, Tryd.ntmps37
  go_upto_region 1 with (fail)
  rw [← HN.out]
  obtain ⟨W0, hW0⟩ : ∃ W : World, W = (w.alloc (.cells #[.int .u64 0, .int .u64 0] 24)) := ⟨_, rfl⟩
  rw [← hW0] at HM ⊢
  clear hW0
  go_cut [28] (fun s28 wx => s28 = .bool false ∧ Hid (WB w [(n, 0, 0)] wx))
  case first =>
    by_cases hs1 : 1 < s.size
    · have h48 := h2 hs1
      have h48' : (((s[0]'h1).toNat : Int) == 48) = false := by rw [beq_eq_false_iff_ne]; omega
      clear h2
      go_wp2_with (go_at_call 58; (with_reducible refine (HTR.out _).mono ?_); rintro e w1 ⟨rfl, hb1⟩; have hm1 := WB.next hb1 HM; clear hb1)
      all_goals (go_meet; exact ⟨rfl, by assumption⟩)
    · clear h2
      go_wp2_with (go_at_call 58; (with_reducible refine (HTR.out _).mono ?_); rintro e w1 ⟨rfl, hb1⟩; have hm1 := WB.next hb1 HM; clear hb1)
      all_goals (go_meet; exact ⟨rfl, by assumption⟩)
  case rest =>
  obtain ⟨rfl, HM1⟩ := hcut
  clear HM HTR h2
  obtain ⟨g, hg, HM2⟩ := WB.two HM1
  have HG := hide hg
  clear hg
  go_wp2_with fail
  rw [← HG.out]
  go_loopw [33] (fun i wr => ParseRel w s n g i wr) (fun i _ => s.size - (intOf i).toNat)
  case atStart => exact ⟨0, by omega, rfl, (by rw [tk_zero]; decide), (by rw [tk_zero]; exact HM2)⟩
  case round =>
    obtain ⟨k, hk, rfl, hv, HP⟩ := hrel
    have HVV := hide hv
    obtain ⟨v, hvv⟩ : ∃ v, v = tk s k := ⟨_, rfl⟩
    have hv0 : 0 ≤ v := by rw [hvv]; exact tk_nonneg s k
    have HVE := hide hvv
    rw [← hvv] at HP
    have HV0 := hide (And.intro hv0 (show v < 170141183460469231731687303715884105728 by rw [hvv]; exact hv))
    clear hv hvv hv0
    by_cases hlt : k < s.size
    · have hd := HD.out k hlt
      have hts := tk_step s k hlt hd.1
      rw [← HVE.out] at hts
      obtain ⟨c, hc⟩ : ∃ c : Int, c = ((s[k]'hlt).toNat : Int) := ⟨_, rfl⟩
      rw [← hc] at hts
      have HTS := hide hts
      have HC := hide (show 48 ≤ c ∧ c ≤ 57 by omega)
      have HCE := hide hc
      have vb : Big v := ⟨HV0.out.1, by have := HV0.out.2; omega⟩
      have tb : Big 10 := ⟨by decide, by decide⟩
      have HTI := hide (fun W => times_any v 10 vb tb W)
      rw [show hiW 10 = 0 from rfl, show loW 10 = 10 from rfl] at HTI
      have HIS := hide (fun h => times_is vb tb h)
      have pw := timesP_word v 10
      have qw := timesQ_word v 10
      have HB := hide (show timesB v 10 = decide (v * 10 < 340282366920938463463374607431768211456) from rfl)
      obtain ⟨p, hp⟩ : ∃ x, x = timesP v 10 := ⟨_, rfl⟩
      obtain ⟨q, hq⟩ : ∃ x, x = timesQ v 10 := ⟨_, rfl⟩
      obtain ⟨ft, hft⟩ : ∃ x, x = timesB v 10 := ⟨_, rfl⟩
      rw [← hp, ← hq, ← hft] at HTI
      rw [← hp, ← hq] at HIS
      rw [← hft] at HB
      rw [← hp] at pw
      rw [← hq] at qw
      obtain ⟨vh, hvh⟩ : ∃ x, x = hiW v := ⟨_, rfl⟩
      obtain ⟨vl, hvl⟩ : ∃ x, x = loW v := ⟨_, rfl⟩
      rw [← hvh, ← hvl] at HTI HP
      have a1 := fun W => add64_0 q (c - 48) qw.1 (by have := HC.out; omega) W
      obtain ⟨l1, hl1⟩ : ∃ x, x = (q + (c - 48)) % 18446744073709551616 := ⟨_, rfl⟩
      obtain ⟨k1, hk1⟩ : ∃ x, x = (q + (c - 48)) / 18446744073709551616 := ⟨_, rfl⟩
      rw [← hl1, ← hk1] at a1
      have k01 : 0 ≤ k1 ∧ k1 ≤ 1 := by have := HC.out; unfold Word at qw; omega
      have a2 := fun W => add64 p 0 k1 pw.1 (Int.le_refl 0) k01.1 k01.2 W
      obtain ⟨h2, hh2⟩ : ∃ x, x = (p + 0 + k1) % 18446744073709551616 := ⟨_, rfl⟩
      obtain ⟨k2, hk2⟩ : ∃ x, x = (p + 0 + k1) / 18446744073709551616 := ⟨_, rfl⟩
      rw [← hh2, ← hk2] at a2
      have k02 : k2 = 0 ∨ k2 = 1 := by unfold Word at pw; omega
      have HBL := hide (fun W => below_any h2 l1 (by unfold Word; omega) W)
      have HW := hide (And.intro hl1 (And.intro hk1 (And.intro hh2 hk2)))
      have HPW := hide (And.intro pw qw)
      have HK := hide k02
      obtain ⟨b0, b1, b2, b3⟩ := WB.head HP
      obtain ⟨c0, c1, _, _⟩ := WB.head2 HP
      clear hd hts hc vb tb pw qw hp hq hft hvh hvl hl1 hk1 k01 hh2 hk2 k02
      go_wp2_with fail
      refine (HTI.out _).mono ?_
      rintro e wa ⟨rfl, hba⟩
      have hma := WB.next hba HP
      have hm7 := WB.addz (x := p) (y := q) hma
      obtain ⟨ga, hga⟩ : ∃ g, g = wa.heap.size := ⟨_, rfl⟩
      rw [← hga] at hm7
      have HGA := hide hga
      clear hga hba hma b0 b1 b2 b3 c0 c1
      go_wp2_with fail
      rw [← HGA.out]
      obtain ⟨W7, hW7⟩ : ∃ W : World, W = wa.alloc (.cells #[.int .u64 p, .int .u64 q] 24) := ⟨_, rfl⟩
      rw [← hW7] at hm7 ⊢
      clear hW7
      obtain ⟨m0, m1, m2, m3⟩ := WB.head hm7
      have hS9 : W7.drew.cell? ⟨ga, 1, none⟩ = some (.int .u64 q) := m1
      have ec := HCE.out.symm
      have e8 : IntKind.u8.wrap (c - 48) = c - 48 := by rw [IntKind.wrap_u8]; have := HC.out; omega
      have e9 : IntKind.u64.wrap (c - 48) = c - 48 := by rw [IntKind.wrap_u64]; have := HC.out; omega
      refine wp_region_tail 99 (fun w' => w'.cell? ⟨ga, 1, none⟩ = some (.int .u64 q)) (by kernel_rfl) hS9 (fun hHeld => ?_)
      try simp only [Act.put, List.setIfInBounds_toArray, List.set_cons_zero, List.set_cons_succ]
      refine' wpTail_take (i := 0) (oi := _) ?hi ?hs ?hf ?hr ?hz ?hQ (v := _) (Or.inl ⟨?hw, ?hy⟩) (hS9) ?_
      case hi => (simp only [List.getElem?_toArray, List.getElem?_cons_zero]; exact rfl)
      case hs => kernel_rfl
      case hf => kernel_rfl
      case hr => kernel_rfl
      case hz => kernel_rfl
      case hQ => exact fun _ _ _ h => h
      case hw => rfl
      case hy => (intro w hSw; (try dsimp only at hSw); go_simp; (try with_reducible rfl))
      try simp only [Act.put, List.setIfInBounds_toArray, List.set_cons_zero, List.set_cons_succ]
      refine' wpTail_take (i := 1) (oi := _) ?hi ?hs ?hf ?hr ?hz ?hQ (v := _) (Or.inl ⟨?hw, ?hy⟩) (hS9) ?_
      case hi => (simp only [List.getElem?_toArray, List.getElem?_cons_succ, List.getElem?_cons_zero]; exact rfl)
      case hs => kernel_rfl
      case hf => kernel_rfl
      case hr => kernel_rfl
      case hz => kernel_rfl
      case hQ => exact fun _ _ _ h => h
      case hw => rfl
      case hy => (intro w hSw; (try dsimp only at hSw); go_simp; (try with_reducible rfl))
      try simp only [Act.put, List.setIfInBounds_toArray, List.set_cons_zero, List.set_cons_succ]
      refine' wpTail_take (i := 2) (oi := _) ?hi ?hs ?hf ?hr ?hz ?hQ (v := _) (Or.inl ⟨?hw, ?hy⟩) (hS9) ?_
      case hi => (simp only [List.getElem?_toArray, List.getElem?_cons_succ, List.getElem?_cons_zero]; exact rfl)
      case hs => kernel_rfl
      case hf => kernel_rfl
      case hr => kernel_rfl
      case hz => kernel_rfl
      case hQ => exact fun _ _ _ h => h
      case hw => rfl
      case hy => (intro w hSw; (try dsimp only at hSw); go_simp; (try with_reducible rfl))
      try simp only [Act.put, List.setIfInBounds_toArray, List.set_cons_zero, List.set_cons_succ]
      refine' wpTail_take (i := 3) (oi := _) ?hi ?hs ?hf ?hr ?hz ?hQ (v := _) (Or.inl ⟨?hw, ?hy⟩) (hS9) ?_
      case hi => (simp only [List.getElem?_toArray, List.getElem?_cons_succ, List.getElem?_cons_zero]; exact rfl)
      case hs => kernel_rfl
      case hf => kernel_rfl
      case hr => kernel_rfl
      case hz => kernel_rfl
      case hQ => exact fun _ _ _ h => h
      case hw => rfl
      case hy => (intro w hSw; (try dsimp only at hSw); go_simp; (try with_reducible rfl))
      try simp only [Act.put, List.setIfInBounds_toArray, List.set_cons_zero, List.set_cons_succ]
      refine' wpTail_take (i := 4) (oi := _) ?hi ?hs ?hf ?hr ?hz ?hQ (v := _) (Or.inl ⟨?hw, ?hy⟩) (hS9) ?_
      case hi => (simp only [List.getElem?_toArray, List.getElem?_cons_succ, List.getElem?_cons_zero]; exact rfl)
      case hs => kernel_rfl
      case hf => kernel_rfl
      case hr => kernel_rfl
      case hz => kernel_rfl
      case hQ => exact fun _ _ _ h => h
      case hw => rfl
      case hy => (intro w hSw; (try dsimp only at hSw); go_simp; (try with_reducible rfl))
      try simp only [Act.put, List.setIfInBounds_toArray, List.set_cons_zero, List.set_cons_succ]
      refine' wpTail_take (i := 5) (oi := _) ?hi ?hs ?hf ?hr ?hz ?hQ (v := _) (Or.inl ⟨?hw, ?hy⟩) (hS9) ?_
      case hi => (simp only [List.getElem?_toArray, List.getElem?_cons_succ, List.getElem?_cons_zero]; exact rfl)
      case hs => kernel_rfl
      case hf => kernel_rfl
      case hr => kernel_rfl
      case hz => kernel_rfl
      case hQ => exact fun _ _ _ h => h
      case hw => rfl
      case hy => (intro w hSw; (try dsimp only at hSw); go_simp; (try with_reducible rfl))
      try simp only [Act.put, List.setIfInBounds_toArray, List.set_cons_zero, List.set_cons_succ]
      refine' wpTail_take (i := 6) (oi := _) ?hi ?hs ?hf ?hr ?hz ?hQ (v := _) (Or.inl ⟨?hw, ?hy⟩) (hS9) ?_
      case hi => (simp only [List.getElem?_toArray, List.getElem?_cons_succ, List.getElem?_cons_zero]; exact rfl)
      case hs => kernel_rfl
      case hf => kernel_rfl
      case hr => kernel_rfl
      case hz => kernel_rfl
      case hQ => exact fun _ _ _ h => h
      case hw => rfl
      case hy => (intro w hSw; (try dsimp only at hSw); go_simp; (try with_reducible rfl))
      try simp only [Act.put, List.setIfInBounds_toArray, List.set_cons_zero, List.set_cons_succ]
      refine' wpTail_one (i := 7) (o := _) (by kernel_rfl) ?ho ?hw (fun K hK => ?_)
      case ho => (simp only [List.getElem?_toArray, List.getElem?_cons_succ, List.getElem?_cons_zero]; exact rfl)
      case hw => rfl
      go_simp
      refine hK.out _ _ (fun _ => hS9) ?_
      clear hK K
      try simp only [Act.put, List.setIfInBounds_toArray, List.set_cons_zero, List.set_cons_succ]
      refine' wpTail_take (i := 8) (oi := _) ?hi ?hs ?hf ?hr ?hz ?hQ (v := _) (Or.inl ⟨?hw, ?hy⟩) (hS9) ?_
      case hi => (simp only [List.getElem?_toArray, List.getElem?_cons_succ, List.getElem?_cons_zero]; exact rfl)
      case hs => kernel_rfl
      case hf => kernel_rfl
      case hr => kernel_rfl
      case hz => kernel_rfl
      case hQ => exact fun _ _ _ h => h
      case hw => rfl
      case hy => (intro w hSw; (try dsimp only at hSw); go_simp; (try with_reducible rfl))
      try simp only [Act.put, List.setIfInBounds_toArray, List.set_cons_zero, List.set_cons_succ]
      refine' wpTail_take (i := 9) (oi := _) ?hi ?hs ?hf ?hr ?hz ?hQ (v := _) (Or.inl ⟨?hw, ?hy⟩) (hS9) ?_
      case hi => (simp only [List.getElem?_toArray, List.getElem?_cons_succ, List.getElem?_cons_zero]; exact rfl)
      case hs => kernel_rfl
      case hf => kernel_rfl
      case hr => kernel_rfl
      case hz => kernel_rfl
      case hQ => exact fun _ _ _ h => h
      case hw => rfl
      case hy => (intro w hSw; (try dsimp only at hSw); go_simp; (try with_reducible rfl))
      try simp only [Act.put, List.setIfInBounds_toArray, List.set_cons_zero, List.set_cons_succ]
      refine' wpTail_take (i := 10) (oi := _) ?hi ?hs ?hf ?hr ?hz ?hQ (v := _) (Or.inl ⟨?hw, ?hy⟩) (hS9) ?_
      case hi => (simp only [List.getElem?_toArray, List.getElem?_cons_succ, List.getElem?_cons_zero]; exact rfl)
      case hs => kernel_rfl
      case hf => kernel_rfl
      case hr => kernel_rfl
      case hz => kernel_rfl
      case hQ => exact fun _ _ _ h => h
      case hw => rfl
      case hy => (intro w hSw; (try dsimp only at hSw); go_simp; (try with_reducible rfl))
      try simp only [Act.put, List.setIfInBounds_toArray, List.set_cons_zero, List.set_cons_succ]
      refine' wpTail_take (i := 11) (oi := _) ?hi ?hs ?hf ?hr ?hz ?hQ (v := _) (Or.inl ⟨?hw, ?hy⟩) (hS9) ?_
      case hi => (simp only [List.getElem?_toArray, List.getElem?_cons_succ, List.getElem?_cons_zero]; exact rfl)
      case hs => kernel_rfl
      case hf => kernel_rfl
      case hr => kernel_rfl
      case hz => kernel_rfl
      case hQ => exact fun _ _ _ h => h
      case hw => rfl
      case hy => (intro w hSw; (try dsimp only at hSw); go_simp; (try with_reducible rfl))
      try simp only [Act.put, List.setIfInBounds_toArray, List.set_cons_zero, List.set_cons_succ]
      refine' wpTail_take (i := 12) (oi := _) ?hi ?hs ?hf ?hr ?hz ?hQ (v := _) (Or.inl ⟨?hw, ?hy⟩) (hS9) ?_
      case hi => (simp only [List.getElem?_toArray, List.getElem?_cons_succ, List.getElem?_cons_zero]; exact rfl)
      case hs => kernel_rfl
      case hf => kernel_rfl
      case hr => kernel_rfl
      case hz => kernel_rfl
      case hQ => exact fun _ _ _ h => h
      case hw => rfl
      case hy => (intro w hSw; (try dsimp only at hSw); go_simp; (try with_reducible rfl))
      try simp only [Act.put, List.setIfInBounds_toArray, List.set_cons_zero, List.set_cons_succ]
      refine wpTail_done (by kernel_rfl) ?_ _
      have HM8 := WB.drew hm7
      obtain ⟨W8, hW8⟩ : ∃ W : World, W = W7.drew := ⟨_, rfl⟩
      rw [← hW8] at HM8 ⊢
      clear hW8 hm7 m0 m1 m2 m3 hS9 hHeld ec e8 e9
      obtain ⟨m0, m1, m2, m3⟩ := WB.head HM8
      obtain ⟨b0, b1, b2, b3⟩ := WB.head2 HM8
      obtain ⟨z0, z1, z2, z3⟩ := two_cells (WB.at_ HM8 (g := n) (a := 0) (b := 0) (by simp))
      have hne : n ≠ g + 1 := fun e => by
        have h := (List.pairwise_cons.1 (List.pairwise_cons.1 HM8.out.ord).2).1 (n, 0, 0) (by simp)
        simp at h
        omega
      have HNE := hide hne
      clear hne
      have HMP := WB.put2 (x := h2) (y := l1) HM8
      go_upto_region 12 with (fail)
      obtain ⟨W9, hW9⟩ : ∃ W : World, W = (W8.setCell ⟨g + 1, 0, none⟩ (.int .u64 h2)).setCell ⟨g + 1, 1, none⟩ (.int .u64 l1) := ⟨_, rfl⟩
      rw [← hW9] at HMP ⊢
      clear hW9 m0 m1 m2 m3 b0 b1 b2 b3 z0 z1 z2 z3 HM8 a1 a2
      have HMT := WB.tail HMP
      clear HMP
      obtain ⟨b0, b1, b2, b3⟩ := WB.head HMT
      obtain ⟨z0, z1, z2, z3⟩ := two_cells (WB.at_ HMT (g := n) (a := 0) (b := 0) (by simp))
      have HER := hide (fun (h : ¬ tk s (k + 1) < 170141183460469231731687303715884105728) => show parseN V = .tuple #[wv 0 0, .int .i64 10] by
        unfold parseN; rw [if_neg (fun e => h (Int.lt_of_le_of_lt (HLE.out (k + 1)) e))])
      cases ft with
      | false =>
        have hno : ¬ tk s (k + 1) < 170141183460469231731687303715884105728 := by
          have h := of_decide_eq_false HB.out.symm
          have := HTS.out
          have := HC.out
          omega
        have HE := hide (HER.out hno)
        clear hno
        go_wp2_with fail
        have hbk := set_two (WB.at_ HMT (g := n) (a := 0) (b := 0) (by simp)) (.int .u64 0) (.int .u64 0)
        have hlow := below_set2 HMT.out.low (show w.heap.size ≤ n from Nat.le_of_eq HN.out.symm) (.int .u64 0) (.int .u64 0)
        exact ret_wt (v := .int .i64 10) rfl rfl rfl rfl hbk ⟨by rw [HE.out], hlow⟩
      | true =>
        have hfit := of_decide_eq_true HB.out.symm
        obtain ⟨hp, hq⟩ := HIS.out hfit
        obtain ⟨hl1, hk1, hh2, hk2⟩ := HW.out
        have dw := dig_words HV0.out.1 hfit (show 0 ≤ c - 48 by have := HC.out; omega) (by have := HC.out; omega) hp hq hl1 hk1 hh2 hk2
        rw [← HTS.out] at dw
        obtain ⟨hlw, dw0, dw1⟩ := dw
        rcases HK.out with rfl | rfl
        · obtain ⟨hbig, hhw⟩ := dw0 rfl
          obtain ⟨bl, hbl⟩ : ∃ b, b = decide (9223372036854775808 ≤ h2) := ⟨_, rfl⟩
          rw [← hbl] at HBL
          have hcmp := top_iff (tk_nonneg s (k + 1)) hbig
          rw [← hhw] at hcmp
          have HCP := hide hcmp
          have HBE := hide hbl
          have HWD := hide (And.intro hhw hlw)
          clear hfit hp hq hl1 hk1 hh2 hk2 hlw hhw hbig hbl hcmp dw0 dw1
          go_wp2_with fail
          refine (HBL.out _).mono ?_
          rintro e wb ⟨rfl, hbb⟩
          have HMB := WB.next hbb HMT
          clear hbb b0 b1 b2 b3 z0 z1 z2 z3
          obtain ⟨b0, b1, b2, b3⟩ := WB.head HMB
          obtain ⟨z0, z1, z2, z3⟩ := two_cells (WB.at_ HMB (g := n) (a := 0) (b := 0) (by simp))
          cases bl with
          | true =>
            have HE := hide (HER.out (HCP.out.1 (of_decide_eq_true HBE.out.symm)))
            go_wp2_with fail
            have hbk := set_two (WB.at_ HMB (g := n) (a := 0) (b := 0) (by simp)) (.int .u64 0) (.int .u64 0)
            have hlow := below_set2 HMB.out.low (show w.heap.size ≤ n from Nat.le_of_eq HN.out.symm) (.int .u64 0) (.int .u64 0)
            exact ret_wt (v := .int .i64 10) rfl rfl rfl rfl hbk ⟨by rw [HE.out], hlow⟩
          | false =>
            have hlt2 : tk s (k + 1) < 170141183460469231731687303715884105728 := Int.not_le.1 fun e => of_decide_eq_false HBE.out.symm (HCP.out.2 e)
            have HL2 := hide hlt2
            clear hlt2
            go_wp2_with fail
            go_roundw
            case rel => exact ⟨k + 1, by omega, by simp, HL2.out, by rw [← HWD.out.1, ← HWD.out.2]; exact HMB⟩
            case measure => simp [intOf]; omega
        · have hno := dw1 rfl
          have HE := hide (HER.out hno)
          clear hfit hp hq hl1 hk1 hh2 hk2 hlw hno dw0 dw1
          go_wp2_with fail
          have hbk := set_two (WB.at_ HMT (g := n) (a := 0) (b := 0) (by simp)) (.int .u64 0) (.int .u64 0)
          have hlow := below_set2 HMT.out.low (show w.heap.size ≤ n from Nat.le_of_eq HN.out.symm) (.int .u64 0) (.int .u64 0)
          exact ret_wt (v := .int .i64 10) rfl rfl rfl rfl hbk ⟨by rw [HE.out], hlow⟩
    · obtain rfl : k = s.size := by omega
      have HE := hide (show parseN V = .tuple #[wv (hiW v) (loW v), .int .i64 0] by
        have e : v = V := HVE.out.trans HV.out
        rw [← e]
        unfold parseN
        rw [if_pos HV0.out.2])
      obtain ⟨vh, hvh⟩ : ∃ x, x = hiW v := ⟨_, rfl⟩
      obtain ⟨vl, hvl⟩ : ∃ x, x = loW v := ⟨_, rfl⟩
      rw [← hvh, ← hvl] at HP HE
      obtain ⟨b0, b1, b2, b3⟩ := WB.head HP
      obtain ⟨z0, z1, z2, z3⟩ := two_cells (WB.at_ HP (g := n) (a := 0) (b := 0) (by simp))
      clear hvh hvl
      go_wp2_with fail
      have hbk := set_two (WB.at_ HP (g := n) (a := 0) (b := 0) (by simp)) (.int .u64 vh) (.int .u64 vl)
      have hlow := below_set2 HP.out.low (show w.heap.size ≤ n from Nat.le_of_eq HN.out.symm) (.int .u64 vh) (.int .u64 vl)
      exact ret_wt (v := .int .i64 0) rfl rfl rfl rfl hbk ⟨by rw [HE.out], hlow⟩
end Go.Proofs.YtgleldpdelhhhaaDoor
