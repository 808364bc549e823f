/- The reference's numbers: what Parse answers; conditions: texts of at most 400 bytes. -/
import Derived.Test.YtgleldpdelhhhaaDoorDigC
import Derived.Test.YtgleldpdelhhhaaDoorWideA
import Derived.Deep.DeepCutAuto
namespace Go.Proofs.YtgleldpdelhhhaaDoor
open Go.RowKit Go.WideShapes Go.ChangeShapes
set_option linter.unusedVariables false
set_option maxRecDepth 100000

theorem NB.grownD {w wr w1 : World} {gs : List (Nat × TypeId × Array Value)} {o : Obj} {n : Nat} {v : Value} {xs : List Value} (h : Hid (NB w gs wr)) (ho : (wr.alloc o).ownsRow w.heap.size 3 1 v n xs) (hg : (wr.alloc o).grownBy w1 v.ownBlock) (ht : ∀ p ∈ gs, 3 ≠ p.2.1) : Hid (NB w gs w1) :=
  hide ⟨fun p hp => ((h.out.bl p hp).alloc o).grown hg (fun e => own_blk_ne ho ((h.out.bl p hp).alloc o) (ht p hp) e.symm), belowD1 h.out.low ho hg, h.out.ge⟩

/-- A text's digits, the lowest first. -/
def digD (s : ByteArray) : List Nat := s.data.toList.reverse.map fun c => c.toNat - 48
theorem digD_len (s : ByteArray) : (digD s).length = s.size := by simp [digD]
theorem valL_rev : ∀ r : List UInt8, valL r.reverse = dval (r.map fun c => c.toNat - 48)
  | [] => rfl
  | c :: r => by
    rw [List.reverse_cons, valL_snoc, valL_rev r, List.map_cons, dval]
    omega
theorem digD_val (s : ByteArray) : dval (digD s) = valL s.data.toList := by
  have h := valL_rev s.data.toList.reverse
  rw [List.reverse_reverse] at h
  exact h.symm
theorem digD_at (s : ByteArray) (k : Nat) (hk : k < s.size) : dg (digD s) (s.size - 1 - k) = (s[k]'hk).toNat - 48 := by
  unfold dg digD
  have hl : s.data.toList.length = s.size := by simp
  rw [List.getD_eq_getElem?_getD, List.getElem?_map, List.getElem?_reverse (by omega), hl, show s.size - 1 - (s.size - 1 - k) = k by omega, List.getElem?_eq_getElem (by omega)]
  rfl
/-- Whether a byte is a digit. -/
def DigC (s : ByteArray) (k : Nat) : Prop := ∀ hk : k < s.size, 48 ≤ (s[k]'hk).toNat ∧ (s[k]'hk).toNat ≤ 57
theorem digD_dok {s : ByteArray} (h : ∀ k, DigC s k) : DOk (digD s) := by
  apply dok_of_dg
  intro i
  by_cases hi : i < s.size
  · have e := digD_at s (s.size - 1 - i) (by omega)
    rw [show s.size - 1 - (s.size - 1 - i) = i by omega] at e
    rw [e]
    have := h (s.size - 1 - i) (by omega)
    omega
  · rw [dg_over (by rw [digD_len]; omega)]; omega
theorem ret_numt {fn : Func} {t p : Tmp} (hf : fn.results = #[.cell t 43, .tmp p]) {R : Ending → World → Prop} {a : Act} {wf : World} {g n c : Nat} {s : Bool} {A : Option Addr} {v : Value} (hp : a.tmps.getD t undef = .pointer (some ⟨g, 0, none⟩)) (hs : a.tmps.getD p undef = v) (hd : a.defers = [])
    (hb : Blk wf g 43 #[.bool s, .slice A n c]) (hr : R (.returned (.tuple #[.agg #[.bool s, .slice A n c], v])) wf) : bodyPost Tryd.prog fn R .ret a wf := by
  have hu := num_und
  cases hq : Tryd.prog.underlying 43 with
  | none => rw [hq] at hu; cases hu
  | some d =>
    rw [hq] at hu
    have h := results_cell_tmp hf a.tmps wf _ _ _ _ d hp hb hq (by cases d <;> simp_all) num_size
    rw [hs] at h
    exact bodyPost_ret h hd hr
/-- What Parse answers of no number. -/
def ParseBad (w : World) (e : Ending) (w' : World) : Prop := e = .returned (.tuple #[.agg #[.bool false, .slice none 0 0], .bool false]) ∧ Below w.heap.size w w'
/-- What Parse answers of a number. -/
def ParseGood (w : World) (v : Nat) (e : Ending) (w' : World) : Prop := ∃ A k c, e = .returned (.tuple #[.agg #[.bool false, .slice A k c], .bool true]) ∧ Dg w' A k (dgs v) ∧ k ≤ c ∧ Below w.heap.size w w'

theorem rparse_empty (w : World) : Calls Tryd.prog 15 #[.string ⟨#[]⟩] w (ParseBad w) := by
  have HB := NB.add 43 #[.bool false, .slice none 0 0] (NB.add 43 #[.bool false, .slice none 0 0] (NB.nil w))
  have b0 := NB.at_ HB (.tail _ (.head _))
  go_enter Tryd.func15, Tryd.ntmps15
  go_wp2_with fail
  exact ret_numt (v := .bool false) rfl rfl rfl rfl b0 ⟨rfl, HB.out.low⟩
theorem rparse_zero (s : ByteArray) (h1 : 1 < s.size) (h0 : (s[0]'(by omega)).toNat = 48) (w : World) : Calls Tryd.prog 15 #[.string s] w (ParseBad w) := by
  have HB := NB.add 43 #[.bool false, .slice none 0 0] (NB.add 43 #[.bool false, .slice none 0 0] (NB.nil w))
  have b0 := NB.at_ HB (.tail _ (.head _))
  have g1 := some_str (s := s) (by omega)
  go_enter Tryd.func15, Tryd.ntmps15
  go_wp2_with fail
  exact ret_numt (v := .bool false) rfl rfl rfl rfl b0 ⟨rfl, HB.out.low⟩

def RParseRel (w : World) (s : ByteArray) (gs : List (Nat × TypeId × Array Value)) (d i : Value) (wr : World) : Prop :=
  ∃ (m cp : Nat) (A : Option Addr), i = .int .i64 ((m : Int) - 1) ∧ d = .slice A (s.size - m) cp ∧ m ≤ s.size ∧ wr.ownsRow w.heap.size 3 1 (.slice A (s.size - m) cp) (s.size - m) (nums ((digD s).take (s.size - m))) ∧ (∀ k, m ≤ k → DigC s k) ∧ Hid (NB w gs wr)

set_option maxHeartbeats 8000000 in
theorem rparse_loop (s : ByteArray) (hs : s.size ≤ 1100) (h1 : 0 < s.size) (h2 : 1 < s.size → ¬ (s[0]'h1).toNat = 48) (w : World) :
    Calls Tryd.prog 15 #[.string s] w fun e w' => ((∀ k, DigC s k) ∧ ParseGood w (valL s.data.toList) e w') ∨ ((∃ k, ¬ DigC s k) ∧ ParseBad w e w') := by
  have HB := NB.add 43 #[.bool false, .slice none 0 0] (NB.add 43 #[.bool false, .slice none 0 0] (NB.nil w))
  have g1 := some_str h1
  obtain ⟨i0, hi0, hz0, hz1, hz2⟩ := info_parts intInfoD
  go_enter Tryd.func15, Tryd.ntmps15
  go_upto_region 2 with (fail)
  obtain ⟨W, hW⟩ : ∃ W : World, W = ((w.alloc (.cells #[.bool false, .slice none 0 0] 43)).alloc (.cells #[.bool false, .slice none 0 0] 43)) := ⟨_, rfl⟩
  obtain ⟨g0, hg0⟩ : ∃ g, g = w.heap.size := ⟨_, rfl⟩
  obtain ⟨gb, hgb⟩ : ∃ g, g = (w.alloc (.cells #[.bool false, .slice none 0 0] 43)).heap.size := ⟨_, rfl⟩
  have hgb' : w.heap.size + 1 = gb := by rw [hgb]; simp
  rw [← hW] at HB ⊢
  rw [← hgb, ← hg0] at HB
  try rw [hgb']
  try rw [← hg0]
  clear hW hg0 hgb hgb'
  have HB1 := NB.next (w := w) ((Below.refl W.heap.size W).alloc (Nat.le_refl _) (.cells #[] 3)) HB
  have HZ := hide (And.intro h1 hs)
  have hz : s.size ≤ 9223372036854775807 := by omega
  go_cut [19] (fun s19 wx => s19 = .bool false ∧ wx = W)
  case first =>
    by_cases hs1 : 1 < s.size
    · have h48 := h2 hs1
      have h48' : (((s[0]'h1).toNat : Int) == 48) = false := by rw [beq_eq_false_iff_ne]; omega
      clear h2
      go_wp2_with fail
      all_goals (go_meet; exact ⟨rfl, rfl⟩)
    · clear h2
      go_wp2_with fail
      all_goals (go_meet; exact ⟨rfl, rfl⟩)
  case rest =>
  obtain ⟨rfl, rfl⟩ := hcut
  clear h2
  go_wp2_with fail
  go_loopw [5, 6] (fun d i wr => RParseRel w s [(gb, 43, #[.bool false, .slice none 0 0]), (g0, 43, #[.bool false, .slice none 0 0])] d i wr) (fun _ i _ => (intOf i + 1).toNat)
  case atStart => exact ⟨s.size, 0, _, rfl, by rw [Nat.sub_self], Nat.le_refl _, by rw [Nat.sub_self]; exact (World.ownsRow_made _ #[] 0 HB.out.low.size (by simp [maxLen]) (by simp)), fun k hk hk2 => by omega, HB1⟩
  case round =>
    obtain ⟨m, cp, A, rfl, rfl, hm, hown, hdig, HB2⟩ := hrel
    have HO := hide hown
    have HDI := hide hdig
    have HLW := hide HB2.out.low
    clear hown hdig
    obtain ⟨d0, d1, f0, f1⟩ := two_cellsN (NB.at_ HB2 (.tail _ (.head _)))
    cases m with
    | zero =>
      have hok : ∀ k, DigC s k := fun k => HDI.out k (by omega)
      have hT := rtrim_any false (Dg.own (by rw [List.length_take, digD_len]; omega) HO.out) ((digD_dok hok).take _) (by omega) (own_capD HO.out)
      rw [Bool.false_and, List.take_of_length_le (by rw [digD_len]; omega), digD_val] at hT
      have HT := hide hT
      have HOK := hide hok
      clear hT hok
      go_wp2_with fail
      refine HT.out.mono ?_
      rintro e w1 ⟨A1, k1, c1, rfl, hd1, hc1, hb1⟩
      have HB3 := NB.next hb1 HB2
      have b0 := NB.at_ HB3 (.tail _ (.head _))
      obtain ⟨z0, z1, y0, y1⟩ := two_cellsN b0
      have e0 := HB3.out.ge _ (List.Mem.tail _ (List.Mem.head _))
      have HDD := hide hd1
      have HB0 := hide b0
      clear hd1 hb1 b0
      go_wp2_with fail
      exact ret_numt (v := .bool true) rfl rfl rfl rfl (set_twoN HB0.out _ _) (.inl ⟨HOK.out, A1, k1, c1, rfl, put2_dg HDD.out HB0.out, hc1, (HB3.out.low.setCell (p := ⟨g0, 0, none⟩) e0 _).setCell (p := ⟨g0, 1, none⟩) e0 _⟩)
    | succ k =>
      have hks : k < s.size := by omega
      rw [show (((k + 1 : Nat) : Int) - 1) = (k : Int) by omega]
      have hdat := digD_at s k hks
      obtain ⟨c, hc⟩ : ∃ c : Nat, c = (s[k]'hks).toNat := ⟨_, rfl⟩
      rw [← hc] at hdat
      have c255 : c < 256 := by rw [hc]; exact UInt8.toNat_lt _
      have hcI : ((s[k]'hks).toNat : Int) = (c : Int) := by rw [hc]
      have HC := hide hc
      have HDA := hide hdat
      clear hc hdat
      by_cases hdg : 48 ≤ c ∧ c ≤ 57
      · obtain ⟨q, hq⟩ : ∃ q, q = c - 48 := ⟨_, rfl⟩
        have e8 : IntKind.u8.wrap ((c : Int) - 48) = (q : Int) := by rw [IntKind.wrap_u8]; omega
        have e9 : (c : Int) - 48 = (q : Int) := by omega
        have e10 : IntKind.u8.wrap (q : Int) = (q : Int) := by rw [IntKind.wrap_u8]; omega
        have HQ := hide hq
        clear hq
        have g1' : ¬ ((c : Int) < 48) := by omega
        have g2' : ¬ (57 < (c : Int)) := by omega
        go_wp2_with (at_builtin
                     refine wpList_append_any _ rfl (.tmp 40) (.tmp 46) _ rfl (w.heap.size) 3 i0 _ 1 8 Tryd.underlying41 hi0 hz0 hz1 hz2 rfl (by omega) (.slice A (s.size - (k + 1)) cp) (s.size - (k + 1)) (nums ((digD s).take (s.size - (k + 1)))) rfl (HO.out.allocD _) (wr.heap.size + 1) (some ⟨wr.heap.size, 0, none⟩) 1 1 (nums [q]) rfl (readsD1 wr q) (nums_one _) (by simp only [maxLen]; omega) (by omega) (by have := HLW.out.size; simp; omega) ?_
                     intro v1 w1 hown1 hg1 hat1
                     obtain ⟨A1, k1, rfl⟩ := own_formD hown1
                     have HO1 := hide hown1
                     have HB1 := hide (belowD1 HLW.out (HO.out.allocD _) hg1)
                     have HB3 := NB.grownD HB2 (HO.out.allocD _) hg1 (by intro p hp; simp at hp; rcases hp with rfl | rfl <;> exact (by decide : ¬ 3 = 43))
                     clear hown1 hg1 hat1)
        refine ⟨⟨k, k1, A1, rfl, by rw [show s.size - k = s.size - (k + 1) + 1 by omega], by omega, ?_, ?_, HB3⟩, by simp [intOf]⟩
        · have h1 := HO1.out
          have h2 := take_getD (digD s) (s.size - (k + 1)) (by rw [digD_len]; omega)
          have h3 := HDA.out
          unfold dg at h3
          rw [show s.size - 1 - k = s.size - (k + 1) by omega] at h3
          rw [show s.size - k = s.size - (k + 1) + 1 by omega, h2, h3, nums_push, ← HQ.out]
          exact h1
        · intro j hj
          by_cases hjk : j = k
          · subst hjk
            intro hk2
            have h4 := HC.out
            omega
          · exact HDI.out j (by omega)
      · have hbad : ∃ k, ¬ DigC s k := ⟨k, fun h => by
          have h4 := h hks
          have h5 := HC.out
          omega⟩
        have b0 := NB.at_ HB2 (.tail _ (.head _))
        have e0 := HB2.out.ge _ (List.Mem.tail _ (List.Mem.head _))
        have HB0 := hide b0
        have HBAD := hide hbad
        clear b0 hbad
        rcases (show c < 48 ∨ (¬ c < 48 ∧ 57 < c) by omega) with hlt | ⟨hge, hlt⟩
        · have g1' : (c : Int) < 48 := by omega
          go_wp2_with fail
          exact ret_numt (v := .bool false) rfl rfl rfl rfl (set_twoN HB0.out _ _) (.inr ⟨HBAD.out, rfl, (HB2.out.low.setCell (p := ⟨g0, 0, none⟩) e0 _).setCell (p := ⟨g0, 1, none⟩) e0 _⟩)
        · have g1' : ¬ ((c : Int) < 48) := by omega
          have g2' : 57 < (c : Int) := by omega
          go_wp2_with fail
          exact ret_numt (v := .bool false) rfl rfl rfl rfl (set_twoN HB0.out _ _) (.inr ⟨HBAD.out, rfl, (HB2.out.low.setCell (p := ⟨g0, 0, none⟩) e0 _).setCell (p := ⟨g0, 1, none⟩) e0 _⟩)
end Go.Proofs.YtgleldpdelhhhaaDoor
