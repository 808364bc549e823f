/- What layer 7's awake answers. -/
import Derived.Test.YtllddgfmjmblmaaScope7
import Derived.Test.YtllddgfmjmblmaaScope8
namespace Go.Proofs.Ytllddgfmjmblmaa
open Go.RowKit Go.WideShapes Go.ChangeShapes
set_option linter.unusedVariables false
set_option maxRecDepth 100000

theorem found_some {o : Option (Nat × Int)} {i : Nat} {a : Int} (h : o = some (i, a)) : found o = .tuple #[.int .i64 i, .int .i64 a, .bool true] := by rw [h]; rfl
theorem found_none {o : Option (Nat × Int)} (h : o = none) : found o = .tuple #[.int .i64 0, .int .i64 0, .bool false] := by rw [h]; rfl
theorem out2 : OuterOk ([0] ++ [1]) := by
  intro j v hj
  match j, hj with
  | 0, hj => simp at hj; omega
  | 1, hj => simp at hj; omega

set_option maxHeartbeats 4000000 in
theorem awake07 (w : World) : Calls Try.prog 9 #[] w fun e w' => e = .returned (.bool true) ∧ Below w.heap.size w w' := by
  have hf1 : ∀ w : World, (Instr.field 42 (nthO 8).val 0).run Try.prog w = .ok (.int .i64 7) w := fun _ => by kernel_rfl
  have hf2 : ∀ w : World, (Instr.field 42 (nthO 17).val 4).run Try.prog w = .ok (.int .i64 9) w := fun _ => by kernel_rfl
  go_enter Try.func9, Try.ntmps9
  go_wp2_with fail
  refine (start_any w).mono ?_
  rintro e w1 ⟨b, gm, vo, vj, rfl, h1, hb1⟩
  have H1 := hide h1
  have HB1 := hide hb1
  clear h1 hb1
  go_wp2_with fail
  refine (open_ok H1.out 1 (by decide) (by decide)).mono ?_
  rintro e w2 ⟨rfl, vo2, h2, hb2⟩
  have H2 := hide h2
  have HB2 := hide (HB1.out.trans hb2)
  clear h2 hb2 H1 HB1
  go_wp2_with fail
  refine (find_any H2.out out2 (by decide) 2 ⟨#[105, 110, 116]⟩ ⟨by decide, by decide⟩).mono ?_
  rintro e w3 ⟨rfl, q3, rfl⟩
  rw [found_some (i := 1) (a := 1) (by decide +kernel)]
  have H3 := hide (H2.out.drewN q3)
  have HB3 := hide (below_drewN HB2.out q3)
  obtain ⟨W3, hW3⟩ : ∃ W, W = w2.drewN q3 := ⟨_, rfl⟩
  rw [← hW3] at H3 HB3 ⊢
  clear hW3 H2 HB2
  go_wp2_with fail
  refine (put_ok H3.out 2 (mkO 1 ⟨#[105, 110, 116]⟩ 0 0 0 false) (by decide) (by decide) (by decide) (by decide) (by decide +kernel) (by decide) (by decide)).mono ?_
  rintro e w4 ⟨rfl, vj4, h4, hb4, _⟩
  have H4 := hide h4
  have HB4 := hide (HB3.out.trans hb4)
  clear h4 hb4 H3 HB3
  go_wp2_with fail
  refine (find_any H4.out out2 (by decide) 2 ⟨#[105, 110, 116]⟩ ⟨by decide, by decide⟩).mono ?_
  rintro e w5 ⟨rfl, q5, rfl⟩
  rw [found_some (i := 19) (a := 2) (by decide +kernel)]
  have H5 := hide (H4.out.drewN q5)
  have HB5 := hide (below_drewN HB4.out q5)
  obtain ⟨W5, hW5⟩ : ∃ W, W = w4.drewN q5 := ⟨_, rfl⟩
  rw [← hW5] at H5 HB5 ⊢
  clear hW5 H4 HB4
  go_wp2_with fail
  refine (scope_len H5.out).mono ?_
  rintro e w6 ⟨rfl, rfl⟩
  go_wp2_with fail
  refine (object_at H5.out 8 (nthO 8) (by rfl) (by decide)).mono ?_
  rintro e w7 ⟨rfl, hb7⟩
  have H7 := hide (H5.out.below hb7)
  have HB7 := hide (HB5.out.trans (hb7.mono HB5.out.size))
  clear hb7 H5 HB5
  go_wp2_with fail
  refine (object_at H7.out 17 (nthO 17) (by rfl) (by decide)).mono ?_
  rintro e w8 ⟨rfl, hb8⟩
  have HB8 := hide (HB7.out.trans (hb8.mono HB7.out.size))
  clear hb8 H7 HB7
  go_wp2_with fail
  go_ret
  exact ⟨rfl, HB8.out⟩
end Go.Proofs.Ytllddgfmjmblmaa
