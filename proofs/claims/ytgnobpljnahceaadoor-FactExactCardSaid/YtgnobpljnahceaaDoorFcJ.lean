/- The law's own check that answers by number come out so; conditions: the library's variable and table. -/
import Derived.Test.YtgnobpljnahceaaDoorFcI
import Derived.Stop.Joined
namespace Go.Proofs.YtgnobpljnahceaaDoor
open Go.RowKit Go.WideShapes Go.ChangeShapes Go.Shelf
set_option linter.unusedVariables false
set_option linter.unusedSimpArgs false
set_option maxRecDepth 100000

theorem fnv_nil : fnv [] = 14695981039346656037 := by unfold fnv fnvF; rw [List.foldl_nil]
theorem hex16_start : hex16 14695981039346656037 = [99, 98, 102, 50, 57, 99, 101, 52, 56, 52, 50, 50, 50, 51, 50, 53] := by decide +kernel
/-- The text of no facts. -/
abbrev sumNil : Bs := [115, 117, 109, 32, 99, 98, 102, 50, 57, 99, 101, 52, 56, 52, 50, 50, 50, 51, 50, 53, 10]
theorem encL_nil : encL [] = sumNil := by
  unfold encL lastL
  rw [show linesL [] = [] from rfl, fnv_nil, hex16_start]
  rfl
theorem linesS_nil : linesS [] = [] := by rw [linesS]
theorem decL_empty : decL [] = none := by
  unfold decL
  rw [linesS_nil, decList]
  simp only []
  rw [if_neg]
  intro h
  simp only [Bool.and_eq_true, beq_iff_eq] at h
  have := h.2
  rw [encL_nil] at this
  cases this
theorem decL_sumNil : decL sumNil = some [] := by
  have e : linesS sumNil = [sumNil] := (linesS_hit [115, 117, 109, 32, 99, 98, 102, 50, 57, 99, 101, 52, 56, 52, 50, 50, 50, 51, 50, 53] [] (by decide)).trans (by rw [linesS_nil]; rfl)
  unfold decL
  rw [e, decList, if_pos (by decide)]
  simp only []
  rw [if_pos]
  rw [encL_nil]
  decide
/-- The one fact that is written. -/
abbrev oneT : TD := ⟨[112, 46, 102], true, [true, false]⟩
theorem okS_one : okS none [oneT] = true := by decide +kernel
theorem lines_one : linesL [oneT] = [34, 112, 46, 102, 34, 32, 110, 101, 118, 101, 114, 32, 49, 48, 10] := by decide +kernel
theorem lastL_len (l : Bs) : (lastL l).length = 21 := by unfold lastL; simp [hex16_len]
theorem bools_lit {w : World} {g : Nat} (h : Blk w g 4 #[.bool true, .bool false]) : BoolsAt w (.slice (some ⟨g, 0, none⟩) 2 2) [true, false] :=
  ⟨_, 2, rfl, fun i b hi => ⟨g, 0, rfl, h.lt, by
    match i, hi with
    | 0, hi => simp at hi; subst hi; exact h.cell 0
    | 1, hi => simp at hi; subst hi; exact h.cell 1⟩⟩
set_option maxHeartbeats 8000000 in
theorem awake28 (w : World) (hE : Env w) : Calls Tryd.prog 7 #[] w fun e w' => e = .returned (.bool true) ∧ Below w.heap.size w w' := by
  have h1 := encode_any (.slice none 0 0) [] w ⟨none, 0, rfl, fun i t hi => by simp at hi⟩ hE.hT (by simp) (by simp) (by simp [linesL])
  rw [show okS none [] = true from rfl, if_pos rfl, encL_nil] at h1
  have HE1 := hide h1
  have HE := hide hE
  obtain ⟨E, hEq⟩ : ∃ E : ByteArray, E = ⟨(encL [oneT]).toArray⟩ := ⟨_, rfl⟩
  have hEs : E.size = 36 := by rw [hEq, ba_size]; unfold encL; rw [List.length_append, lastL_len, lines_one]; rfl
  have hsl : ∀ W : World, (Instr.slice 9 (.string E) none (some (.int .i64 15)) none).run Tryd.prog W = .ok (.string ⟨#[34, 112, 46, 102, 34, 32, 110, 101, 118, 101, 114, 32, 49, 48, 10]⟩) W := fun W => by
    have h := run_slice_string_h (P := Tryd.prog) W 9 E Tryd.underlying9 .i64 15 (by omega) (by omega)
    rw [h]
    congr 2
    rw [hEq]
    unfold encL
    rw [lines_one]
    apply ByteArray.ext
    simp
  have HEQ := hide hEq
  have HD1 := hide (fun (W : World) (h : Env W) => show Calls Tryd.prog 12 #[.string ⟨#[115, 117, 109, 32, 99, 98, 102, 50, 57, 99, 101, 52, 56, 52, 50, 50, 50, 51, 50, 53, 10]⟩] W fun e w' => ∃ v, e = .returned (.tuple #[v, .int .i64 0]) ∧ TDs w' v [] ∧ Below W.heap.size W w' from by
    have h := decode_any ⟨#[115, 117, 109, 32, 99, 98, 102, 50, 57, 99, 101, 52, 56, 52, 50, 50, 50, 51, 50, 53, 10]⟩ (by decide) W h
    rw [show (⟨#[115, 117, 109, 32, 99, 98, 102, 50, 57, 99, 101, 52, 56, 52, 50, 50, 50, 51, 50, 53, 10]⟩ : ByteArray).data.toList = sumNil from rfl, decL_sumNil] at h
    exact h)
  have HD2 := hide (fun (W : World) (h : Env W) => show Calls Tryd.prog 12 #[.string ⟨#[]⟩] W fun e w' => e = .returned (.tuple #[.slice none 0 0, .int .i64 17]) ∧ Below W.heap.size W w' from by
    have h := decode_any ⟨#[]⟩ (by decide) W h
    rw [show (⟨#[]⟩ : ByteArray).data.toList = [] from rfl, decL_empty] at h
    exact h)
  clear h1 hE hEq
  go_enter Tryd.func7, Tryd.ntmps7
  go_wp2_with fail
  refine HE1.out.mono ?_
  rintro e w1 ⟨rfl, hb1⟩
  have HB1 := hide hb1
  have HE2 := hide (HE.out.below hb1 (Nat.le_refl _))
  clear hb1
  go_wp2_with fail
  refine (HD1.out _ HE2.out).mono ?_
  rintro e w2 ⟨v, rfl, hv, hb2⟩
  obtain ⟨A, c, rfl, _⟩ := hv
  have HB2 := hide (HB1.out.trans (hb2.mono HB1.out.size))
  have HE3 := hide (HE2.out.below hb2 (Nat.le_refl _))
  clear hb2
  simp only [List.length_nil]
  go_wp2_with fail
  have hb3 : Below w2.heap.size w2 ((w2.alloc (.cells #[.bool true, .bool false] 4)).alloc (.cells #[.string ⟨#[112, 46, 102]⟩, .bool true, .slice (some ⟨w2.heap.size, 0, none⟩) 2 2] 44)) := ((Below.refl _ _).alloc (Nat.le_refl _) _).alloc (by simp) _
  have htd : TDs ((w2.alloc (.cells #[.bool true, .bool false] 4)).alloc (.cells #[.string ⟨#[112, 46, 102]⟩, .bool true, .slice (some ⟨w2.heap.size, 0, none⟩) 2 2] 44)) (.slice (some ⟨w2.heap.size + 1, 0, none⟩) 1 1) [oneT] := by
    have hk := Blk.new (w2.alloc (.cells #[.bool true, .bool false] 4)) 44 #[.string ⟨#[112, 46, 102]⟩, .bool true, .slice (some ⟨w2.heap.size, 0, none⟩) 2 2]
    have hbk := (Blk.new w2 4 #[.bool true, .bool false]).alloc (.cells #[.string ⟨#[112, 46, 102]⟩, .bool true, .slice (some ⟨w2.heap.size, 0, none⟩) 2 2] 44)
    have e : (w2.alloc (.cells #[.bool true, .bool false] 4)).heap.size = w2.heap.size + 1 := by simp
    rw [e] at hk
    exact ⟨_, 1, rfl, fun i t hi => by
      match i, hi with
      | 0, hi => simp at hi; subst hi; exact ⟨w2.heap.size + 1, 0, _, rfl, hk.lt, hk.cell 0, hk.cell 1, hk.cell 2, bools_lit hbk⟩⟩
  obtain ⟨W3, hW3⟩ : ∃ W, W = ((w2.alloc (.cells #[.bool true, .bool false] 4)).alloc (.cells #[.string ⟨#[112, 46, 102]⟩, .bool true, .slice (some ⟨w2.heap.size, 0, none⟩) 2 2] 44)) := ⟨_, rfl⟩
  rw [← hW3] at hb3 htd ⊢
  have h1 := encode_any _ [oneT] W3 htd (HE3.out.below hb3 (Nat.le_refl _)).hT (by decide) (by decide) (by rw [lines_one]; decide)
  rw [okS_one, if_pos rfl, ← HEQ.out] at h1
  refine h1.mono ?_
  rintro e w4 ⟨rfl, hb4⟩
  have hbw4 := hb3.trans (hb4.mono hb3.size)
  have HE5 := hide (HE3.out.below hbw4 (Nat.le_refl _))
  have HB4 := hide (HB2.out.trans (hbw4.mono HB2.out.size))
  have g1 : (17 : Int) < (E.size : Int) := by omega
  have g2 : (E.size : Int) = 36 := by omega
  clear hb3 htd hb4 hbw4 hW3 h1 hEs
  go_wp2_with fail
  refine (HD2.out _ HE5.out).mono ?_
  rintro e w5 ⟨rfl, hb5⟩
  have HB5 := hide (HB4.out.trans (hb5.mono HB4.out.size))
  clear hb5
  go_wp2_with fail
  go_ret
  exact ⟨rfl, HB5.out⟩
end Go.Proofs.YtgnobpljnahceaaDoor
