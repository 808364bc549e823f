/-
  DERIVED. GIVEN WITH THE SEED: THE CARDS: each row of YtoenlbemfkedoaaGreatDoorRows.lean that lists a variable, with what it lists TIED to the program's text (the seventh form; the later family's looks); each row that meets fmt, with fmt's text TOLD by the authors' own Lean function (tested against real Go, not proved from fmt's source: count such statements apart). THE CARD IS WHAT COUNTS. Prove the row's statement (the work); the ties are given (YtoenlbemfkedoaaGreatDoorTie.lean); close each card by the builder's one call (the guide's Derived/Test/ToyasCard.lean, 'card_holds'). Laid BY PROGRAM, IN A SANDBOX (cutbox-door.mjs). By AI agents, Wed Nov 11 2026. No macro, syntax, notation, axiom, sorry.
-/
import Derived.Test.YtoenlbemfkedoaaGreatDoorRows
import GoSem.ClaimSeven
namespace Go.Proofs.YtoenlbemfkedoaaGreatDoor
namespace Rows

/-- THE TIED CARD OF 'lorgnettelaw10.BindRounds'. -/
def bindRoundsCard : Claim7 := { stood := { row := bindRoundsRow, standIns := [], harness := (true, "684dae99977b778136f7991f83a65bdcca378ea80b8cec06ae14b4604acea931"), looks := false }, kinds := [], alts := [], laidByText := true, laidKinds := [.data, .data, .data, .data, .pinned], laidTests := true, laidLooks := .later }
def BindRoundsCardSaid : Prop := Claim7.holds Tryz.pinned (.plain (OpenSpec.ofChange bindRoundsSpec)) bindRoundsCard

/-- THE SECOND FORM's CARD OF 'lorgnettelaw10.BindRounds'. -/
def bindRoundsUptoCard : Claim7 := { stood := { row := bindRoundsUptoRow, standIns := [], harness := (true, "684dae99977b778136f7991f83a65bdcca378ea80b8cec06ae14b4604acea931"), looks := false }, kinds := [], alts := [], laidByText := true, laidKinds := [.data, .data, .data, .data, .pinned], laidTests := true, laidLooks := .later }
def BindRoundsUptoCardSaid : Prop := Claim7.holds Tryz.pinned (.plain (OpenSpec.upto bindRoundsSpec)) bindRoundsUptoCard
end Rows
end Go.Proofs.YtoenlbemfkedoaaGreatDoor
