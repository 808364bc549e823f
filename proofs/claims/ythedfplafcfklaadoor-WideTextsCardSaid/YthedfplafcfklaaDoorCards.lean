/-
  DERIVED. GIVEN WITH THE SEED: THE CARDS: each row of YthedfplafcfklaaDoorRows.lean that lists a variable, with what it lists TIED to the program's text (the seventh form; the later family's looks); each row that meets fmt, with fmt's text TOLD by the authors' own Lean function (tested against real Go, not proved from fmt's source: count such statements apart). THE CARD IS WHAT COUNTS. Prove the row's statement (the work); the ties are given (YthedfplafcfklaaDoorTie.lean); close each card by the builder's one call (the guide's Derived/Test/ToyasCard.lean, 'card_holds'). Laid BY PROGRAM, IN A SANDBOX (cutbox-door.mjs). By AI agents, Wed Nov 11 2026. No macro, syntax, notation, axiom, sorry.
-/
import Derived.Test.YthedfplafcfklaaDoorRows
import GoSem.ClaimSeven
namespace Go.Proofs.YthedfplafcfklaaDoor
namespace Rows

/-- THE TIED CARD OF 'lorgnettelaw01.WideExact'. -/
def wideExactCard : Claim7 := { stood := { row := wideExactRow, standIns := [], harness := (true, "c4b5751fdc433438a64a3d1d78bc4d0cfe5196809a9c714d51a34eae59429f6c"), looks := false }, kinds := [], alts := [], laidByText := true, laidKinds := [.data, .pinned], laidTests := true, laidLooks := .later }
def WideExactCardSaid : Prop := Claim7.holds Tryd.pinned (.plain (OpenSpec.ofChange wideExactSpec)) wideExactCard

/-- THE TIED CARD OF 'lorgnettelaw01.WideTexts'. -/
def wideTextsCard : Claim7 := { stood := { row := wideTextsRow, standIns := [], harness := (true, "c4b5751fdc433438a64a3d1d78bc4d0cfe5196809a9c714d51a34eae59429f6c"), looks := false }, kinds := [], alts := [], laidByText := true, laidKinds := [.data, .pinned], laidTests := true, laidLooks := .later }
def WideTextsCardSaid : Prop := Claim7.holds Tryd.pinned (.plain (OpenSpec.ofChange wideTextsSpec)) wideTextsCard

/-- THE TIED CARD OF 'lorgnettelaw01.WideBack'. -/
def wideBackCard : Claim7 := { stood := { row := wideBackRow, standIns := [], harness := (true, "c4b5751fdc433438a64a3d1d78bc4d0cfe5196809a9c714d51a34eae59429f6c"), looks := false }, kinds := [], alts := [], laidByText := true, laidKinds := [.data, .pinned], laidTests := true, laidLooks := .later }
def WideBackCardSaid : Prop := Claim7.holds Tryd.pinned (.plain (OpenSpec.ofChange wideBackSpec)) wideBackCard

/-- THE TIED CARD OF 'lorgnettelaw01.WideLaws'. -/
def wideLawsCard : Claim7 := { stood := { row := wideLawsRow, standIns := [], harness := (true, "c4b5751fdc433438a64a3d1d78bc4d0cfe5196809a9c714d51a34eae59429f6c"), looks := false }, kinds := [], alts := [], laidByText := true, laidKinds := [.data, .pinned], laidTests := true, laidLooks := .later }
def WideLawsCardSaid : Prop := Claim7.holds Tryd.pinned (.plain (OpenSpec.ofChange wideLawsSpec)) wideLawsCard

/-- THE TIED CARD OF 'lorgnettelaw01.WideParts'. -/
def widePartsCard : Claim7 := { stood := { row := widePartsRow, standIns := [], harness := (true, "c4b5751fdc433438a64a3d1d78bc4d0cfe5196809a9c714d51a34eae59429f6c"), looks := false }, kinds := [], alts := [], laidByText := true, laidKinds := [.data, .pinned], laidTests := true, laidLooks := .later }
def WidePartsCardSaid : Prop := Claim7.holds Tryd.pinned (.plain (OpenSpec.ofChange widePartsSpec)) widePartsCard

/-- THE SECOND FORM's CARD OF 'lorgnettelaw01.WideExact'. -/
def wideExactUptoCard : Claim7 := { stood := { row := wideExactUptoRow, standIns := [], harness := (true, "c4b5751fdc433438a64a3d1d78bc4d0cfe5196809a9c714d51a34eae59429f6c"), looks := false }, kinds := [], alts := [], laidByText := true, laidKinds := [.data, .pinned], laidTests := true, laidLooks := .later }
def WideExactUptoCardSaid : Prop := Claim7.holds Tryd.pinned (.plain (OpenSpec.upto wideExactSpec)) wideExactUptoCard

/-- THE SECOND FORM's CARD OF 'lorgnettelaw01.WideTexts'. -/
def wideTextsUptoCard : Claim7 := { stood := { row := wideTextsUptoRow, standIns := [], harness := (true, "c4b5751fdc433438a64a3d1d78bc4d0cfe5196809a9c714d51a34eae59429f6c"), looks := false }, kinds := [], alts := [], laidByText := true, laidKinds := [.data, .pinned], laidTests := true, laidLooks := .later }
def WideTextsUptoCardSaid : Prop := Claim7.holds Tryd.pinned (.plain (OpenSpec.upto wideTextsSpec)) wideTextsUptoCard

/-- THE SECOND FORM's CARD OF 'lorgnettelaw01.WideBack'. -/
def wideBackUptoCard : Claim7 := { stood := { row := wideBackUptoRow, standIns := [], harness := (true, "c4b5751fdc433438a64a3d1d78bc4d0cfe5196809a9c714d51a34eae59429f6c"), looks := false }, kinds := [], alts := [], laidByText := true, laidKinds := [.data, .pinned], laidTests := true, laidLooks := .later }
def WideBackUptoCardSaid : Prop := Claim7.holds Tryd.pinned (.plain (OpenSpec.upto wideBackSpec)) wideBackUptoCard

/-- THE SECOND FORM's CARD OF 'lorgnettelaw01.WideLaws'. -/
def wideLawsUptoCard : Claim7 := { stood := { row := wideLawsUptoRow, standIns := [], harness := (true, "c4b5751fdc433438a64a3d1d78bc4d0cfe5196809a9c714d51a34eae59429f6c"), looks := false }, kinds := [], alts := [], laidByText := true, laidKinds := [.data, .pinned], laidTests := true, laidLooks := .later }
def WideLawsUptoCardSaid : Prop := Claim7.holds Tryd.pinned (.plain (OpenSpec.upto wideLawsSpec)) wideLawsUptoCard

/-- THE SECOND FORM's CARD OF 'lorgnettelaw01.WideParts'. -/
def widePartsUptoCard : Claim7 := { stood := { row := widePartsUptoRow, standIns := [], harness := (true, "c4b5751fdc433438a64a3d1d78bc4d0cfe5196809a9c714d51a34eae59429f6c"), looks := false }, kinds := [], alts := [], laidByText := true, laidKinds := [.data, .pinned], laidTests := true, laidLooks := .later }
def WidePartsUptoCardSaid : Prop := Claim7.holds Tryd.pinned (.plain (OpenSpec.upto widePartsSpec)) widePartsUptoCard
end Rows
end Go.Proofs.YthedfplafcfklaaDoor
