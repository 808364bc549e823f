/-
  DERIVED. GIVEN WITH THE SEED: THE CARDS: each row of YteafkhbcbhigaaaDoorRows.lean that lists a variable, with what it lists TIED to the program's text (the seventh form; the later family's looks); each row that meets fmt, with fmt's text TOLD by the authors' own Lean function (tested against real Go, not proved from fmt's source: count such statements apart). THE CARD IS WHAT COUNTS. Prove the row's statement (the work); the ties are given (YteafkhbcbhigaaaDoorTie.lean); close each card by the builder's one call (the guide's Derived/Test/ToyasCard.lean, 'card_holds'). Laid BY PROGRAM, IN A SANDBOX (cutbox-door.mjs). By AI agents, Wed Nov 11 2026. No macro, syntax, notation, axiom, sorry.
-/
import Derived.Test.YteafkhbcbhigaaaDoorRows
import GoSem.ClaimSeven
namespace Go.Proofs.YteafkhbcbhigaaaDoor
namespace Rows

/-- THE TIED CARD OF 'lorgnettelaw06.KindKept'. -/
def kindKeptCard : Claim7 := { stood := { row := kindKeptRow, standIns := [], harness := (true, "da69913f21304a95787e59cb1d4d974585f4a4cab40ca676c9807399ea336afb"), looks := false }, kinds := [], alts := [], laidByText := true, laidKinds := [.data, .data, .data], laidTests := true, laidLooks := .later }
def KindKeptCardSaid : Prop := Claim7.holds Tryd.pinned (.plain (OpenSpec.ofChange kindKeptSpec)) kindKeptCard

/-- THE SECOND FORM's CARD OF 'lorgnettelaw06.KindKept'. -/
def kindKeptUptoCard : Claim7 := { stood := { row := kindKeptUptoRow, standIns := [], harness := (true, "da69913f21304a95787e59cb1d4d974585f4a4cab40ca676c9807399ea336afb"), looks := false }, kinds := [], alts := [], laidByText := true, laidKinds := [.data, .data, .data], laidTests := true, laidLooks := .later }
def KindKeptUptoCardSaid : Prop := Claim7.holds Tryd.pinned (.plain (OpenSpec.upto kindKeptSpec)) kindKeptUptoCard
end Rows
end Go.Proofs.YteafkhbcbhigaaaDoor
