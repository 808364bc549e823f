/- The reference's numbers: what Print answers; conditions: the digits' cells are in memory. -/
import Derived.Test.YthedfplafcfklaaDoorDigC
import Derived.Test.YthedfplafcfklaaDoorWideA
import Derived.StillTailTactics
namespace Go.Proofs.YthedfplafcfklaaDoor
open Go.RowKit Go.WideShapes Go.ChangeShapes
set_option linter.unusedVariables false
set_option maxRecDepth 100000

/-- The text of some digits, the lowest first. -/
def txtD (l : List Nat) : List UInt8 := l.reverse.map fun d => UInt8.ofNat (48 + d)
theorem txtD_snoc (l : List Nat) (d : Nat) : txtD (l ++ [d]) = UInt8.ofNat (48 + d) :: txtD l := by simp [txtD]
theorem txtD_cons (l : List Nat) (d : Nat) : txtD (d :: l) = txtD l ++ [UInt8.ofNat (48 + d)] := by simp [txtD]
theorem digs_small {n : Nat} (h : n < 10) : digs n = [UInt8.ofNat (48 + n)] := by
  unfold digs
  rw [digsF, if_pos h]
theorem digs_big {n : Nat} (h : ¬ n < 10) : digs n = digs (n / 10) ++ [UInt8.ofNat (48 + n % 10)] := by
  unfold digs
  rw [digsF, if_neg h, digsF_more n (n / 10 + 1) (n / 10) (by omega) (by omega)]
theorem cons_app (c : UInt8) (l : List UInt8) : (⟨#[c]⟩ : ByteArray) ++ ⟨l.toArray⟩ = ⟨(c :: l).toArray⟩ := by
  apply ByteArray.ext
  rw [ByteArray.data_append]
  simp
theorem txtD_dgs : ∀ (f n : Nat), n ≤ f → n ≠ 0 → txtD (dgs n) = digs n
  | 0, n, h, h0 => by omega
  | f + 1, n, h, h0 => by
    rw [dgs_pos h0, txtD_cons]
    by_cases hn : n < 10
    · have h1 : n / 10 = 0 := by omega
      have h2 : n % 10 = n := by omega
      rw [h1, h2, dgs_zero, digs_small hn]
      rfl
    · rw [txtD_dgs f (n / 10) (by omega) (by omega)]
      exact (digs_big hn).symm
theorem ext10 : ∀ d : Fin 10, (⟨#[48, 49, 50, 51, 52, 53, 54, 55, 56, 57]⟩ : ByteArray).extract d.val (d.val + 1) = ⟨#[UInt8.ofNat (48 + d.val)]⟩ := by decide +kernel
set_option maxHeartbeats 8000000 in
theorem ref_print {w : World} {n c : Nat} {A : Option Addr} (x : Int) {s : Bool} (hs : s = decide (x < 0)) (h : Dg w A n (dgs x.natAbs)) (hn : n ≤ 400) :
    Calls Tryd.prog 29 #[.agg #[.bool s, .slice A n c]] w fun e w' => e = .returned (.string ⟨(textW x).toArray⟩) ∧ Below w.heap.size w w' := by
  have HB := NB.add 28 #[.bool s, .slice A n c] (NB.nil w)
  have hln := h.1
  have HG := hide h
  have HS := hide hs
  clear h hs
  go_enter Tryd.func29, Tryd.ntmps29
  go_upto_region 1 with (fail)
  obtain ⟨W, hW⟩ : ∃ W : World, W = (w.alloc (.cells #[.bool s, .slice A n c] 28)) := ⟨_, rfl⟩
  obtain ⟨g0, hg0⟩ : ∃ g, g = w.heap.size := ⟨_, rfl⟩
  rw [← hW] at HB ⊢
  rw [← hg0] at HB
  try rw [← hg0]
  clear hW hg0
  go_wp2_with fail
  go_loopw [3, 4] (fun t i wr => ∃ (k : Nat), i = .int .i64 k ∧ t = .string ⟨(txtD ((dgs x.natAbs).take k)).toArray⟩ ∧ k ≤ n ∧ Hid (NB w [(g0, 28, #[.bool s, .slice A n c])] wr)) (fun _ i _ => n - (intOf i).toNat)
  case atStart => exact ⟨0, rfl, rfl, by omega, HB⟩
  case round =>
    obtain ⟨k, rfl, rfl, hk, HBr⟩ := hrel
    obtain ⟨c0, c1, e0, e1⟩ := two_cellsN (NB.at_ HBr (.head _))
    by_cases hkn : k < n
    · obtain ⟨b, off, rfl, cd⟩ := (HG.out.nbelow (w' := w) HBr).at_ hkn
      have hd := (dgs_dok x.natAbs).dg k
      have hst := take_getD (dgs x.natAbs) k (by omega)
      have hst2 : (dgs x.natAbs).take (k + 1) = (dgs x.natAbs).take k ++ [dg (dgs x.natAbs) k] := hst
      obtain ⟨d, hdd⟩ : ∃ d, d = dg (dgs x.natAbs) k := ⟨_, rfl⟩
      rw [← hdd] at cd hd hst2
      have HST := hide hst2
      have HEX := hide (ext10 ⟨d, hd⟩)
      obtain ⟨T, hT⟩ : ∃ T : ByteArray, T = ⟨(txtD ((dgs x.natAbs).take k)).toArray⟩ := ⟨_, rfl⟩
      have hTs : T.size = k := by rw [hT]; show (txtD _).toArray.size = k; simp [txtD]; omega
      rw [← hT]
      have HT := hide hT
      have HTS := hide hTs
      have hTb : T.size ≤ 400 := by omega
      clear hst hst2 hdd hT hTs
      have hsz : (⟨#[48, 49, 50, 51, 52, 53, 54, 55, 56, 57]⟩ : ByteArray).size = 10 := rfl
      have hex := ext10 ⟨d, hd⟩
      obtain ⟨E, hE⟩ : ∃ E : ByteArray, E = ⟨#[UInt8.ofNat (48 + d)]⟩ := ⟨_, rfl⟩
      have hEs : E.size = 1 := by rw [hE]; rfl
      have hex2 : (⟨#[48, 49, 50, 51, 52, 53, 54, 55, 56, 57]⟩ : ByteArray).extract d (d + 1) = E := by rw [hE]; exact hex
      have HE := hide hE
      have e5 : (k : Int) < (n : Int) := by omega
      have e6 : (0 : Int) ≤ (d : Int) := by omega
      have e7 : (d : Int) ≤ (d : Int) + 1 := by omega
      have e8 : (d : Int) + 1 ≤ 10 := by omega
      have e9 : IntKind.i64.wrap ((d : Int) + 1) = (d : Int) + 1 := IntWalk.i64_in _ (by omega)
      have e10 : ((d : Int) + 1).toNat = d + 1 := by omega
      have e11 : E.size + T.size ≤ 9223372036854775807 := by omega
      have e12 : ¬ (9223372036854775807 : Int) < (E.size : Int) + (T.size : Int) := by omega
      have hsl : ∀ W : World, (Instr.slice 9 (.string ⟨#[48, 49, 50, 51, 52, 53, 54, 55, 56, 57]⟩) (some (.int .i64 (d : Int))) (some (.int .i64 ((d : Int) + 1))) none).run Tryd.prog W = .ok (.string E) W := fun W => by
        have h := run_slice_string (P := Tryd.prog) (w := W) 9 ⟨#[48, 49, 50, 51, 52, 53, 54, 55, 56, 57]⟩ .i64 .i64 (d : Int) ((d : Int) + 1) Tryd.underlying9 e6 e7 (by rw [hsz]; exact e8)
        rw [Int.toNat_natCast, e10, hex2] at h
        exact h
      have hcat : ∀ W : World, (Op.stringOp .add E T).run Tryd.prog W = .ok (.string (E ++ T)) W := fun W => run_string_add_sum W _ _ e11
      clear HEX e11 e12
      clear hex hE hd hEs hTb
      go_wp2_with fail
      go_region_held3 (fun w' => w'.cell? ⟨g0, 1, none⟩ = some (.slice (some ⟨b, off, none⟩) n c) ∧ w'.cell? ⟨b, off + k, none⟩ = some (.int .i64 (d : Int)))
        (first | exact ⟨c1, cd⟩)
        (fail)
      go_wp2_with fail
      go_roundw
      case rel => exact ⟨k + 1, by go_num, by rw [HST.out, txtD_snoc, HE.out, HT.out, cons_app], by omega, NB.drew HBr⟩
      case measure => simp [intOf]; omega
    · obtain rfl : k = n := by omega
      rw [List.take_of_length_le (by omega)]
      by_cases h0 : x.natAbs = 0
      · have hx0 : x = 0 := by omega
        subst hx0
        have hs0 : s = false := by rw [HS.out]; rfl
        subst hs0
        go_wp2_with fail
        go_ret
        exact ⟨by rfl, HBr.out.low⟩
      · have e1 := txtD_dgs x.natAbs x.natAbs (Nat.le_refl _) h0
        rw [e1]
        obtain ⟨T, hT⟩ : ∃ T : ByteArray, T = ⟨(digs x.natAbs).toArray⟩ := ⟨_, rfl⟩
        have hne : T ≠ ⟨#[]⟩ := by
          rw [hT, ← e1]
          intro e
          have h2 : (txtD (dgs x.natAbs)).length = 0 := by
            have h3 := congrArg (fun b : ByteArray => b.data.toList.length) e
            simpa using h3
          have h4 : (dgs x.natAbs) = [] := by simpa [txtD] using h2
          exact h0 (dgs_nil.1 h4)
        have hem : T.toList.isEmpty = false := some_str (by
          apply Nat.pos_of_ne_zero
          intro e
          apply hne
          apply ByteArray.ext
          exact Array.eq_empty_of_size_eq_zero e)
        have hTs : T.size ≤ 400 := by
          rw [hT, ← e1]
          show (txtD _).toArray.size ≤ 400
          simp [txtD]
          omega
        rw [← hT]
        have HT := hide hT
        clear hT e1 hne
        by_cases hx : x < 0
        · have hs1 : s = true := by rw [HS.out]; exact decide_eq_true hx
          subst hs1
          go_wp2_with fail
          go_ret
          exact ⟨by rw [textW_neg hx, ← cons_app, HT.out, show x.natAbs = (-x).toNat by omega]; rfl, HBr.out.low⟩
        · have hs1 : s = false := by rw [HS.out]; exact decide_eq_false hx
          subst hs1
          go_wp2_with fail
          go_ret
          exact ⟨by rw [textW_pos (by omega), HT.out, show x.natAbs = x.toNat by omega]; rfl, HBr.out.low⟩
end Go.Proofs.YthedfplafcfklaaDoor
