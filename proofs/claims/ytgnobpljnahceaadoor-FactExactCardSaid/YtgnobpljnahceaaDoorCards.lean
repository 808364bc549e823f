/-
  DERIVED. GIVEN WITH THE SEED: THE CARDS: each row of YtgnobpljnahceaaDoorRows.lean that lists a variable, with what it lists TIED to the program's text (the seventh form; the later family's looks); each row that meets fmt, with fmt's text TOLD by the authors' own Lean function (tested against real Go, not proved from fmt's source: count such statements apart). THE CARD IS WHAT COUNTS. Prove the row's statement (the work); the ties are given (YtgnobpljnahceaaDoorTie.lean); close each card by the builder's one call (the guide's Derived/Test/ToyasCard.lean, 'card_holds'). Laid BY PROGRAM, IN A SANDBOX (cutbox-door.mjs). By AI agents, Wed Nov 11 2026. No macro, syntax, notation, axiom, sorry.
-/
import Derived.Test.YtgnobpljnahceaaDoorRows
import GoSem.ClaimSeven
namespace Go.Proofs.YtgnobpljnahceaaDoor
namespace Rows

/-- THE TIED CARD OF 'lorgnettelaw28.FactExact'. -/
def factExactCard : Claim7 := { stood := { row := factExactRow, standIns := [], harness := (true, "524cc4a284d4ce6c9f8347b77ba846340f02d1c475ec10f349cc040236913f08"), looks := false }, kinds := [], alts := [], laidByText := true, laidKinds := [.data, .data, .data, .data, .pinned], laidTests := true, laidLooks := .later }
def FactExactCardSaid : Prop := Claim7.holds Tryd.pinned (.plain (OpenSpec.ofChange factExactSpec)) factExactCard

/-- THE TIED CARD OF 'lorgnettelaw28.FactBack'. -/
def factBackCard : Claim7 := { stood := { row := factBackRow, standIns := [], harness := (true, "524cc4a284d4ce6c9f8347b77ba846340f02d1c475ec10f349cc040236913f08"), looks := false }, kinds := [], alts := [], laidByText := true, laidKinds := [.data, .data, .data, .data, .pinned], laidTests := true, laidLooks := .later }
def FactBackCardSaid : Prop := Claim7.holds Tryd.pinned (.plain (OpenSpec.ofChange factBackSpec)) factBackCard

/-- THE TIED CARD OF 'lorgnettelaw28.FactTurned'. -/
def factTurnedCard : Claim7 := { stood := { row := factTurnedRow, standIns := [], harness := (true, "524cc4a284d4ce6c9f8347b77ba846340f02d1c475ec10f349cc040236913f08"), looks := false }, kinds := [], alts := [], laidByText := true, laidKinds := [.data, .data, .data, .data, .pinned], laidTests := true, laidLooks := .later }
def FactTurnedCardSaid : Prop := Claim7.holds Tryd.pinned (.plain (OpenSpec.ofChange factTurnedSpec)) factTurnedCard

/-- THE TIED CARD OF 'lorgnettelaw28.FactSums'. -/
def factSumsCard : Claim7 := { stood := { row := factSumsRow, standIns := [], harness := (true, "524cc4a284d4ce6c9f8347b77ba846340f02d1c475ec10f349cc040236913f08"), looks := false }, kinds := [], alts := [], laidByText := true, laidKinds := [.data, .data, .data, .data, .pinned], laidTests := true, laidLooks := .later }
def FactSumsCardSaid : Prop := Claim7.holds Tryd.pinned (.plain (OpenSpec.ofChange factSumsSpec)) factSumsCard

/-- THE SECOND FORM's CARD OF 'lorgnettelaw28.FactExact'. -/
def factExactUptoCard : Claim7 := { stood := { row := factExactUptoRow, standIns := [], harness := (true, "524cc4a284d4ce6c9f8347b77ba846340f02d1c475ec10f349cc040236913f08"), looks := false }, kinds := [], alts := [], laidByText := true, laidKinds := [.data, .data, .data, .data, .pinned], laidTests := true, laidLooks := .later }
def FactExactUptoCardSaid : Prop := Claim7.holds Tryd.pinned (.plain (OpenSpec.upto factExactSpec)) factExactUptoCard

/-- THE SECOND FORM's CARD OF 'lorgnettelaw28.FactBack'. -/
def factBackUptoCard : Claim7 := { stood := { row := factBackUptoRow, standIns := [], harness := (true, "524cc4a284d4ce6c9f8347b77ba846340f02d1c475ec10f349cc040236913f08"), looks := false }, kinds := [], alts := [], laidByText := true, laidKinds := [.data, .data, .data, .data, .pinned], laidTests := true, laidLooks := .later }
def FactBackUptoCardSaid : Prop := Claim7.holds Tryd.pinned (.plain (OpenSpec.upto factBackSpec)) factBackUptoCard

/-- THE SECOND FORM's CARD OF 'lorgnettelaw28.FactTurned'. -/
def factTurnedUptoCard : Claim7 := { stood := { row := factTurnedUptoRow, standIns := [], harness := (true, "524cc4a284d4ce6c9f8347b77ba846340f02d1c475ec10f349cc040236913f08"), looks := false }, kinds := [], alts := [], laidByText := true, laidKinds := [.data, .data, .data, .data, .pinned], laidTests := true, laidLooks := .later }
def FactTurnedUptoCardSaid : Prop := Claim7.holds Tryd.pinned (.plain (OpenSpec.upto factTurnedSpec)) factTurnedUptoCard

/-- THE SECOND FORM's CARD OF 'lorgnettelaw28.FactSums'. -/
def factSumsUptoCard : Claim7 := { stood := { row := factSumsUptoRow, standIns := [], harness := (true, "524cc4a284d4ce6c9f8347b77ba846340f02d1c475ec10f349cc040236913f08"), looks := false }, kinds := [], alts := [], laidByText := true, laidKinds := [.data, .data, .data, .data, .pinned], laidTests := true, laidLooks := .later }
def FactSumsUptoCardSaid : Prop := Claim7.holds Tryd.pinned (.plain (OpenSpec.upto factSumsSpec)) factSumsUptoCard
end Rows
end Go.Proofs.YtgnobpljnahceaaDoor
