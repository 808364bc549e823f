/- The statement BindRounds: whatever its numbers, the law answers true; each is known by its remainder, and at each remainder the program's own text was reckoned by a checked evaluator; the package variables that the row lists start as the program's text lays them (the card ties them). -/
import Derived.Test.YtoenlbemfkedoaaGreatDoorBindRoundsRowB
namespace Go.Proofs.YtoenlbemfkedoaaGreatDoor.bindRounds
open Go.ChangeShapes Go.WideShapes Go.ChangeAt Go.RowKit Go.Ev
set_option linter.unusedVariables false
/-- The statement. -/
theorem proved : Rows.BindRoundsCardSaid :=
  Claim7.holds_tied_plain_at .later [] [.data, .data, .data, .data, .pinned] true (true, "684dae99977b778136f7991f83a65bdcca378ea80b8cec06ae14b4604acea931") false over (fun _ h => by cases h) (by kernel_rfl) (fun _ h => by cases h) bindRounds_row_tie rfl ⟨rfl, rfl⟩ (by kernel_rfl) rfl
    (fun f fn hf hfn => by
      obtain rfl : f = 3 := Option.some.inj ((show Tryz.prog.funcNamed "lorgnette/lorgnettelaw10.BindRounds" = some 3 by kernel_rfl).symm.trans hf) |>.symm
      obtain rfl : fn = Tryz.f3 := (Option.some.inj (Tryz.func3.symm.trans hfn)).symm
      exact ⟨by kernel_rfl, fun j t ht => by
        have hm : t ∈ Tryz.f3.params.toList := by simpa using Array.mem_of_getElem? ht
        have hall : (Tryz.f3.params.toList.all fun u => !Tryz.prog.wantsStandIn u) = true := by kernel_rfl
        exact (show Tryz.prog.wantsStandIn t = false by simpa using List.all_eq_true.1 hall t hm)⟩)
    (goes_by _).symm
end Go.Proofs.YtoenlbemfkedoaaGreatDoor.bindRounds
