/- The statement FoldExact: for every operator, two constants and a text the law returns true; the package variables that the row lists start as the program's text lays them (the card ties them). -/
import Derived.Test.YtgleldpdelhhhaaDoorCards
import Derived.Test.YtgleldpdelhhhaaDoorTie
import Derived.Test.YtgleldpdelhhhaaDoorFoldZ
import Derived.Test.YtgleldpdelhhhaaDoorFoldB
import Derived.WalkKit
import Derived.ProofKit
import Derived.OpenShut
import Derived.LaidMore
import Derived.Lay
import Derived.SizedLaws
import Derived.SevenTiedAt
import Derived.Stop.Joined
namespace Go.Proofs.YtgleldpdelhhhaaDoor.foldExact
open Go.ChangeShapes Go.WideShapes Go.ChangeAt Go.RowKit
set_option linter.unusedVariables false

theorem own : ownKnob Tryd.prog.godebug = none := by kernel_rfl

set_option maxRecDepth 100000 in
theorem lifted (os : Os) (started : os.Started) (H : Type) (enc : TypeId × Value → H) :
    ReturnsInHanded {} Tryd.checked os 3 .any (fun w args => (Rows.foldExactSpec.pre enc Tryd.prog Tryd.f3 Rows.foldExactRow.domain false w args ∧ laidMetH Tryd.prog Rows.foldExactRow.laid w) ∧ sizedMet enc Tryd.prog Tryd.f3 (OpenSpec.ofChange Rows.foldExactSpec) false w args)
      (Rows.foldExactSpec.post enc Tryd.prog Tryd.f3 false true false false) := by
  refine returnsInHanded_of_change_and (C := Tryd.checked) (X := fun w _ => laidMetH Tryd.prog Rows.foldExactRow.laid w) (fun _ _ _ hh h => h.of_heap hh) own started (by kernel_rfl) Tryd.func3
    (ChangeSpec.witness_shaped (enc := enc) (C := Tryd.checked) (os := os) (X := fun w _ => laidMetH Tryd.prog Rows.foldExactRow.laid w) false (World.laidAll Tryd.prog os Rows.foldExactRow.laid) #[.string ⟨#[]⟩, .agg #[.int .i64 0, .int .u64 0, .int .u64 0, .bool false, .string ⟨#[]⟩], .agg #[.int .i64 0, .int .u64 0, .int .u64 0, .bool false, .string ⟨#[]⟩], .string ⟨#[]⟩] 8 (World.laidAll_os _ _ _)
      (World.shaped_of_ZipB (by kernel_rfl) (by kernel_rfl)) (by kernel_rfl) (by kernel_rfl) (by kernel_rfl)
      (by rw [MakeChecks.laidMetH_plain _ _ _ (by kernel_rfl)]; exact laidMet_laidAll _ (by kernel_rfl) (by kernel_rfl))) ?_
  intro W base args ds gs before hval0 hW hc hz hL _
  have hval : ∀ (j : Nat) t v, Tryd.f3.params[j]? = some t → args[j]? = some v → Value.okWide Tryd.prog W .any base t v := hval0
  have hW' := hW
  obtain ⟨p, q, hA0, hV, rfl, hfz, hnd⟩ := hW
  have hA : DataW.TrodAll enc Tryd.prog W 0 (fun _ => true) true Tryd.f3.params.toList args.toList ds p := hA0
  have hAk := hA
  rw [Tryd.params3] at hA hval
  obtain ⟨v0, vs0, d0, ds0, p0, q0, hargs, rfl, rfl, h0, r0⟩ := trodAll_cons hA
  obtain ⟨v1, vs1, d1, ds1, p1, q1, rfl, rfl, rfl, h1, r1⟩ := trodAll_cons r0
  obtain ⟨v2, vs2, d2, ds2, p2, q2, rfl, rfl, rfl, h2, r2⟩ := trodAll_cons r1
  obtain ⟨v3, vs3, d3, ds3, p3, q3, rfl, rfl, rfl, h3, r3⟩ := trodAll_cons r2
  obtain ⟨rfl, rfl, rfl⟩ := trodAll_nil r3
  obtain rfl : args = #[v0, v1, v2, v3] := by cases args; simp_all
  obtain ⟨rfl, rfl⟩ := trodVars_none hV
  obtain ⟨x0, rfl, rfl, rfl, f0⟩ := Go.ChangeMaps.open_string Tryd.underlying9 (hval 0 9 v0 rfl rfl) h0
  obtain ⟨k1, x1, b1, s1, f1, rfl⟩ := open_kon (hval 1 26 v1 rfl rfl) h1
  obtain ⟨k2, x2, b2, s2, f2, rfl⟩ := open_kon (hval 2 26 v2 rfl rfl) h2
  obtain ⟨x3, rfl, rfl, rfl, f3⟩ := Go.ChangeMaps.open_string Tryd.underlying9 (hval 3 9 v3 rfl rfl) h3
  have g0 : (x0.size : Int) ≤ 2305843009213693952 := by
    have := sized_string hz (j := 0) (by rw [Tryd.params3]; rfl) rfl
    simp [reachBytes] at this; omega
  have g3 : (x3.size : Int) ≤ 2305843009213693952 := by
    have := sized_string hz (j := 3) (by rw [Tryd.params3]; rfl) rfl
    simp [reachBytes] at this; omega
  have hlaw : Calls Tryd.prog 3 #[.string x0, kon k1 (hiW x1) (loW x1) b1 s1, kon k2 (hiW x2) (loW x2) b2 s2, .string x3] W fun e w' => e = .returned (.bool true) ∧ Below W.heap.size W w' := by
    by_cases c1 : 1024 < (x0.size : Int) + (x3.size : Int)
    · exact exact_long_ot x0 x3 k1 k2 _ _ _ _ b1 b2 s1 s2 g0 g3 c1 W
    by_cases c2 : 1024 < (s1.size : Int)
    · exact exact_long_a x0 x3 k1 k2 _ _ _ _ b1 b2 s1 s2 g0 g3 (by omega) c2 W
    by_cases c3 : 1024 < (s2.size : Int)
    · exact exact_long_b x0 x3 k1 k2 _ _ _ _ b1 b2 s1 s2 g0 g3 (by omega) c2 c3 W
    exact exact_law x0 x3 k1 k2 f1 f2 b1 b2 s1 s2 (by omega) (by omega) (by omega) W
  clear hA0 hval0
  simp only [List.append_nil] at hW' hAk
  refine hlaw.mono fun e W' ⟨he, hg⟩ => ?_
  subst he
  exact ⟨_, rfl, post_of_below (pv := []) hW' (fun _ _ _ => (trodAll_cons_mk (shut_bool Tryd.underlying4 _) trodAll_mk0))
    (fun sp hsp => stays_all (by kernel_rfl) _ _ _ _ (by rw [Tryd.params3]; intro t ht; simp at ht; first | (subst ht; exact ⟨by kernel_rfl, of_decide_eq_true (by kernel_rfl)⟩) | (rcases ht with rfl | rfl | rfl | rfl <;> exact ⟨by kernel_rfl, of_decide_eq_true (by kernel_rfl)⟩)) hAk (fun x hx => hg.same (hW'.lt x hx)) hsp)
    (fun _ _ => rfl) (by simp) hg (ok_one (by kernel_rfl) rfl (okWide_bool_mk Tryd.underlying4 _))⟩

theorem over : Rows.FoldExactSaid :=
  OpenClaim.holds_of_wide 3 Tryd.f3 rfl rfl rfl rfl rfl rfl rfl ⟨rfl, rfl, rfl, rfl, rfl⟩ rfl rfl rfl rfl rfl (by kernel_rfl) Tryd.func3 (by kernel_rfl)
    (of_decide_eq_true (by kernel_rfl)) (by unfold Func.isWrapper; first | (rw [if_pos (by decide +kernel)]; kernel_rfl) | (rw [if_neg (by decide +kernel)]; exact ⟨rfl, rfl⟩))
    (fun os started H enc _ => lifted os started H enc)

/-- The statement. -/
theorem proved : Rows.FoldExactCardSaid :=
  Claim7.holds_tied_plain_at .later [] [.data, .pinned] true (true, "8c2473a2944722fe9cceb770478a871db672ed5ca60f03b51037a3c778985f32") false over (fun _ h => by cases h) (by kernel_rfl) (fun _ h => by cases h) foldExact_row_tie rfl ⟨rfl, rfl⟩ (by kernel_rfl) rfl
    (fun f fn hf hfn => by
      obtain rfl : f = 3 := Option.some.inj ((show Tryd.prog.funcNamed "lorgnette/lorgnettelaw08.FoldExact" = some 3 by kernel_rfl).symm.trans hf) |>.symm
      obtain rfl : fn = Tryd.f3 := (Option.some.inj (Tryd.func3.symm.trans hfn)).symm
      exact ⟨by kernel_rfl, fun j t ht => by
        have hm : t ∈ Tryd.f3.params.toList := by simpa using Array.mem_of_getElem? ht
        have hall : (Tryd.f3.params.toList.all fun u => !Tryd.prog.wantsStandIn u) = true := by kernel_rfl
        exact (show Tryd.prog.wantsStandIn t = false by simpa using List.all_eq_true.1 hall t hm)⟩)
    (by kernel_rfl)
end Go.Proofs.YtgleldpdelhhhaaDoor.foldExact
