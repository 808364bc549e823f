/- The lines of a text, as plain mathematics; the library's Lines; conditions: the text's size. -/
import Derived.Test.YtgnobpljnahceaaDoorFcF
import Derived.Test.YtgnobpljnahceaaDoorRange
namespace Go.Proofs.YtgnobpljnahceaaDoor
open Go.RowKit Go.WideShapes Go.ChangeShapes Go.Shelf
set_option linter.unusedVariables false
set_option linter.unusedSimpArgs false
set_option maxRecDepth 100000

/-- The lines of a text, each with its end. -/
def linesS : Bs → List Bs
  | [] => []
  | b :: l => if b = 10 then [10] :: linesS l else match linesS l with | p :: ps => (b :: p) :: ps | [] => [[b]]
theorem linesS_hit : ∀ (p r : Bs), (∀ b ∈ p, b ≠ 10) → linesS (p ++ 10 :: r) = (p ++ [10]) :: linesS r
  | [], r, _ => by show (if (10 : UInt8) = 10 then [10] :: linesS r else _) = _; rw [if_pos rfl]; rfl
  | b :: p, r, h => by
    show linesS (b :: (p ++ 10 :: r)) = _
    conv => lhs; unfold linesS
    rw [if_neg (h b (by simp)), linesS_hit p r (fun c hc => h c (by simp [hc]))]
    rfl
theorem linesS_plain : ∀ (p : Bs), p ≠ [] → (∀ b ∈ p, b ≠ 10) → linesS p = [p]
  | [], h, _ => absurd rfl h
  | [b], _, h => by show (if b = 10 then [10] :: linesS [] else _) = _; rw [if_neg (h b (by simp))]; rfl
  | b :: c :: p, _, h => by
    conv => lhs; unfold linesS
    rw [if_neg (h b (by simp)), linesS_plain (c :: p) (by simp) (fun d hd => h d (by simp [hd]))]
theorem lines_sum : ∀ l : Bs, (linesS l).flatten = l
  | [] => rfl
  | b :: l => by
    have ih := lines_sum l
    unfold linesS
    split
    · next h => rw [List.flatten_cons, ih, h]; rfl
    · cases hl : linesS l with
      | nil => rw [hl] at ih; rw [← ih]; rfl
      | cons p ps => rw [hl] at ih; simp only; rw [List.flatten_cons] at ih ⊢; rw [List.cons_append, ih]
theorem lines_pos : ∀ (l p : Bs), p ∈ linesS l → 1 ≤ p.length
  | [], p, h => by cases h
  | b :: l, p, h => by
    unfold linesS at h
    split at h
    · rcases List.mem_cons.1 h with rfl | h
      · simp
      · exact lines_pos l p h
    · cases hl : linesS l with
      | nil => rw [hl] at h; simp at h; subst h; simp
      | cons q ps =>
        rw [hl] at h
        simp only at h
        rcases List.mem_cons.1 h with rfl | h
        · simp
        · exact lines_pos l p (by rw [hl]; exact List.mem_cons_of_mem _ h)
theorem index10 : ∀ (l : Bs), (Lib.indexByte l 10 = -1 ∧ ∀ b ∈ l, b ≠ 10) ∨ ∃ p r, l = p ++ 10 :: r ∧ (∀ b ∈ p, b ≠ 10) ∧ Lib.indexByte l 10 = (p.length : Int)
  | [] => .inl ⟨rfl, by simp⟩
  | b :: l => by
    by_cases hb : b = 10
    · subst hb
      exact .inr ⟨[], l, rfl, by simp, by simp [Lib.indexByte]⟩
    · have hp : (b == 10) = false := beq_false_of_ne hb
      rcases index10 l with ⟨h1, h2⟩ | ⟨p, r, rfl, h2, h3⟩
      · refine .inl ⟨?_, fun c hc => ?_⟩
        · unfold Lib.indexByte
          rw [hp, h1]
          rfl
        · rcases List.mem_cons.1 hc with rfl | hc
          · exact hb
          · exact h2 c hc
      · refine .inr ⟨b :: p, r, rfl, fun c hc => ?_, ?_⟩
        · rcases List.mem_cons.1 hc with rfl | hc
          · exact hb
          · exact h2 c hc
        · unfold Lib.indexByte
          rw [hp, h3]
          have : ¬ ((p.length : Int) == -1) = true := fun e => by have := beq_iff_eq.1 e; omega
          rw [if_neg (by simp), if_neg this]
          simp
theorem length_le_flat : ∀ (L : List Bs), (∀ p ∈ L, 1 ≤ p.length) → L.length ≤ L.flatten.length
  | [], _ => Nat.le_refl _
  | p :: L, h => by
    have := length_le_flat L (fun q hq => h q (by simp [hq]))
    have := h p (by simp)
    rw [List.flatten_cons, List.length_append, List.length_cons]
    omega
theorem lines_count (l : Bs) : (linesS l).length ≤ l.length := by
  have h := length_le_flat (linesS l) (lines_pos l)
  rwa [lines_sum] at h
theorem mem_flat : ∀ {L : List Bs} {p : Bs}, p ∈ L → p.length ≤ L.flatten.length
  | [], p, h => by cases h
  | q :: L, p, h => by
    rw [List.flatten_cons, List.length_append]
    rcases List.mem_cons.1 h with rfl | h
    · omega
    · have := mem_flat h
      omega
theorem lines_mem {l p : Bs} (h : p ∈ linesS l) : p.length ≤ l.length := by
  have := mem_flat h
  rwa [lines_sum] at this
/-- A line of at most so many bytes. -/
abbrev Ln := { l : Bs // l.length ≤ 65000 }
theorem index_byte (s : ByteArray) (w : World) : Calls Tryd.prog 37 #[.string s, .int .u8 10] w fun e w' => e = .returned (.int .i64 (Lib.indexByte s.data.toList 10)) ∧ w' = w := Any.strings_IndexByte Tryd.lays137 s 10 w
def leftS (Bx : Nat) (w : World) : Nat := match w.cell? ⟨Bx, 0, none⟩ with | some (.string s) => s.size | _ => 0
set_option maxHeartbeats 4000000 in
theorem lines_seq (n : Nat) (Bx : Nat) (s : Bs) (hs : s.length ≤ 65000) (w : World) (hb : Boxed w Bx 9 (.string ⟨s.toArray⟩)) :
    BoxSeq (α := Ln) n Tryd.prog 36 #[.pointer (some ⟨Bx, 0, none⟩)] Bx (fun x => #[.string ⟨x.1.toArray⟩]) (fun xs => xs.map (·.1) = linesS s) (fun pre => pre.map (·.1) <+: linesS s) (linesS s).length w := by
  intro l J Jx W hW hJ hJx hY h0
  have hbW : Boxed W Bx 9 (.string ⟨s.toArray⟩) := (hW.block Bx hb.lt).trans hb
  have HY := hide hY
  have HJ := hide hJ
  refine callsIn_of_wp Tryd.func36 rfl trivial ?_ rfl
  simp only [Tryd.ntmps36, List.size_toArray, List.length_cons, List.length_nil, Nat.reduceAdd, Nat.reduceSub, Array.replicate_succ, Array.replicate_zero, List.push_toArray, List.append_toArray, List.nil_append, List.cons_append]
  have hmx : Tryd.prog.follows .mixedOrders = true := by kernel_rfl
  gi_wp2
  gi_loopw [] (fun wr => ∃ (pre : List Ln) (rest : Bs), linesS s = pre.map (·.1) ++ linesS rest ∧ rest.length ≤ 65000 ∧ Boxed wr Bx 9 (.string ⟨rest.toArray⟩) ∧ J pre wr) (fun wr => leftS Bx wr)
  case atStart => exact ⟨[], s, rfl, hs, hbW, h0⟩
  case round =>
    obtain ⟨pre, rest, hpre, hrl, hbx, hj⟩ := hrel
    have HBX := hide hbx
    have hcell := hbx.cell
    have hfr := hbx.frozen
    cases rest with
    | nil =>
      have HP := hide (show pre.map (·.1) = linesS s from by rw [hpre]; simp [linesS])
      have HJ2 := hide hj
      clear hpre hj hrl hbx
      gi_wp2
      go_end0
      exact ⟨⟨_, rfl⟩, .inl ⟨pre, HP.out, HJ2.out⟩⟩
    | cons b0 l0 =>
      obtain ⟨R, hR⟩ : ∃ R : ByteArray, R = ⟨(b0 :: l0).toArray⟩ := ⟨_, rfl⟩
      have hRs : R.size = (b0 :: l0).length := by rw [hR, ba_size]
      have i1 : (0 : Int) < (R.size : Int) := by rw [hRs]; simp only [List.length_cons]; omega
      rw [← hR] at hcell
      have hix := fun W => index_byte R W
      have hRd : R.data.toList = b0 :: l0 := by rw [hR]
      rw [hRd] at hix
      rcases index10 (b0 :: l0) with ⟨g1, g2⟩ | ⟨p, r, g1, g2, g3⟩
      · rw [g1] at hix
        have hl : linesS (b0 :: l0) = [b0 :: l0] := linesS_plain _ (by simp) g2
        have hgr : wr.grownBy (wr.setCell ⟨Bx, 0, none⟩ (.string ⟨#[]⟩)) (some Bx) := grownBy_setCell' wr Bx _
        have hjV : J pre (wr.setCell ⟨Bx, 0, none⟩ (.string ⟨#[]⟩)) := HJ.out pre wr _ hj hgr
        have hbV : Boxed (wr.setCell ⟨Bx, 0, none⟩ (.string ⟨#[]⟩)) Bx 9 (.string ⟨([] : Bs).toArray⟩) := hbx.set _
        obtain ⟨fn, tmps, assign, body, hy, hRd2⟩ := HY.out pre ⟨b0 :: l0, hrl⟩ _ hjV (by rw [hpre, hl]; simp)
        dsimp only at hy
        rw [← hR] at hy
        have HRD := hide hRd2
        have HBV := hide hbV
        have HIX := hide hix
        have HP := hide (show linesS s = (pre ++ [(⟨b0 :: l0, hrl⟩ : Ln)]).map (·.1) ++ linesS [] from by rw [hpre, hl]; simp [linesS])
        clear hR hRs hRd g1 g2 hl hgr hjV hbV hpre hj hbx hRd2 hix
        gi_wp2_with (refine ⟨trivial, ?_⟩; gi_at_call 37; refine (callsIn_wide.2 (HIX.out _)).mono ?_; rintro e w' ⟨rfl, rfl⟩)
        refine HRD.out.mono ?_
        rintro e W3 (⟨rfl, hJ3, hk3⟩ | ⟨rfl, hx3⟩)
        · have hb3 : Boxed W3 Bx 9 (.string ⟨([] : Bs).toArray⟩) := hk3.trans HBV.out
          have HM := hide (show leftS Bx W3 < leftS Bx w' from by unfold leftS; rw [hb3.cell, hcell]; show (⟨#[]⟩ : ByteArray).size < R.size; have : (⟨#[]⟩ : ByteArray).size = 0 := rfl; omega)
          gi_wp2
          go_roundw
          case rel => exact ⟨pre ++ [(⟨b0 :: l0, hrl⟩ : Ln)], [], HP.out, by simp, hb3, hJ3⟩
          case measure => exact HM.out
        · gi_wp2
          refine bodyPost_ret (results_none rfl _ _ _) rfl ?_
          exact ⟨⟨_, rfl⟩, .inr ⟨_, ⟨linesS [], HP.out.symm⟩, hx3⟩⟩
      · rw [g3] at hix
        have hl : linesS (b0 :: l0) = (p ++ [10]) :: linesS r := by rw [g1]; exact linesS_hit p r g2
        have hll : (b0 :: l0).length = p.length + 1 + r.length := by rw [g1, List.length_append, List.length_cons]; omega
        have hpl : (p ++ [10]).length ≤ 65000 := by rw [List.length_append, List.length_singleton]; omega
        obtain ⟨i, hi⟩ : ∃ i, i = p.length := ⟨_, rfl⟩
        rw [← hi] at hix
        have hiR : i + 1 ≤ R.size := by rw [hRs, hll]; omega
        have q1 : IntKind.i64.wrap ((i : Int) + 1) = (i : Int) + 1 := IntWalk.i64_in _ (by omega)
        have hsl1 : ∀ W : World, (Instr.slice 9 (.string R) none (some (.int .i64 ((i : Int) + 1))) none).run Tryd.prog W = .ok (.string ⟨(p ++ [10]).toArray⟩) W := fun W => by
          have h := run_slice_string_h (P := Tryd.prog) W 9 R Tryd.underlying9 .i64 ((i : Int) + 1) (by omega) (by omega)
          rw [h]
          congr 2
          apply ByteArray.ext
          apply Array.toList_inj.1
          show (R.extract 0 ((i : Int) + 1).toNat).data.toList = p ++ [10]
          rw [Lib.extract_from_zero, hRd, g1, show ((i : Int) + 1).toNat = p.length + 1 by omega, show p ++ 10 :: r = (p ++ [10]) ++ r by simp, List.take_left' (by simp)]
        have hsl2 : ∀ W : World, (Instr.slice 9 (.string R) (some (.int .i64 ((i : Int) + 1))) none none).run Tryd.prog W = .ok (.string ⟨r.toArray⟩) W := fun W => by
          have h := run_slice_string_l (P := Tryd.prog) W 9 R Tryd.underlying9 .i64 ((i : Int) + 1) (by omega) (by omega)
          rw [h]
          congr 2
          apply ByteArray.ext
          apply Array.toList_inj.1
          show (R.extract ((i : Int) + 1).toNat R.size).data.toList = r
          rw [Lib.extract_to_end, hRd, g1, show ((i : Int) + 1).toNat = p.length + 1 by omega, show p ++ 10 :: r = (p ++ [10]) ++ r by simp, List.drop_left' (by simp)]
        have hgr : wr.grownBy ((wr.setCell ⟨Bx, 0, none⟩ (.string ⟨r.toArray⟩)).drew) (some Bx) := by
          have h := grownBy_setCell' wr Bx (.string ⟨r.toArray⟩)
          exact ⟨h.os, h.tape, h.output, h.size, h.block⟩
        have hjV : J pre ((wr.setCell ⟨Bx, 0, none⟩ (.string ⟨r.toArray⟩)).drew) := HJ.out pre wr _ hj hgr
        have hbV : Boxed ((wr.setCell ⟨Bx, 0, none⟩ (.string ⟨r.toArray⟩)).drew) Bx 9 (.string ⟨r.toArray⟩) := show Boxed (wr.setCell ⟨Bx, 0, none⟩ (.string ⟨r.toArray⟩)) Bx _ _ from Boxed.set _ hbx
        obtain ⟨fn, tmps, assign, body, hy, hRd2⟩ := HY.out pre ⟨p ++ [10], hpl⟩ _ hjV (by rw [hpre, hl]; simp)
        dsimp only at hy
        have HRD := hide hRd2
        have HBV := hide hbV
        have HIX := hide hix
        have HP := hide (show linesS s = (pre ++ [(⟨p ++ [10], hpl⟩ : Ln)]).map (·.1) ++ linesS r from by rw [hpre, hl]; simp)
        have HLL := hide (show r.length ≤ 65000 ∧ r.length < R.size from ⟨by rw [hll] at hrl; omega, by rw [hRs, hll]; omega⟩)
        obtain ⟨E1, hE1⟩ : ∃ E : ByteArray, E = ⟨(p ++ [10]).toArray⟩ := ⟨_, rfl⟩
        obtain ⟨E2, hE2⟩ : ∃ E : ByteArray, E = ⟨r.toArray⟩ := ⟨_, rfl⟩
        rw [← hE1] at hsl1 hy
        rw [← hE2] at hsl2 hy HRD HBV
        have HE2 := hide hE2
        have i2 : (0 : Int) ≤ (i : Int) := by omega
        clear hR hRs hRd g1 g2 g3 hl hgr hjV hbV hpre hj hbx hRd2 hix hll hiR hi hE1 hE2
        gi_wp2_with (first | (refine ⟨trivial, ?_⟩; gi_at_call 37; refine (callsIn_wide.2 (HIX.out _)).mono ?_; rintro e w' ⟨rfl, rfl⟩))
        gi_region_with_o (fail)
        all_goals
          gi_wp2
          refine HRD.out.mono ?_
          rintro e W3 (⟨rfl, hJ3, hk3⟩ | ⟨rfl, hx3⟩)
          · have hb3 : Boxed W3 Bx 9 (.string E2) := hk3.trans HBV.out
            have HM := hide (show leftS Bx W3 < leftS Bx w' from by
              unfold leftS
              rw [hb3.cell, hcell]
              show E2.size < R.size
              rw [HE2.out, ba_size]
              exact HLL.out.2)
            gi_wp2
            go_roundw
            case rel => exact ⟨pre ++ [(⟨p ++ [10], hpl⟩ : Ln)], r, HP.out, HLL.out.1, by rw [← HE2.out]; exact hb3, hJ3⟩
            case measure => exact HM.out
          · gi_wp2
            refine bodyPost_ret (results_none rfl _ _ _) rfl ?_
            exact ⟨⟨_, rfl⟩, .inr ⟨_, ⟨linesS r, HP.out.symm⟩, hx3⟩⟩
end Go.Proofs.YtgnobpljnahceaaDoor
