/-
  DERIVED. GIVEN WITH THE SEED: THE CARDS: each row of YtgleldpdelhhhaaDoorRows.lean that lists a variable, with what it lists TIED to the program's text (the seventh form; the later family's looks); each row that meets fmt, with fmt's text TOLD by the authors' own Lean function (tested against real Go, not proved from fmt's source: count such statements apart). THE CARD IS WHAT COUNTS. Prove the row's statement (the work); the ties are given (YtgleldpdelhhhaaDoorTie.lean); close each card by the builder's one call (the guide's Derived/Test/ToyasCard.lean, 'card_holds'). Laid BY PROGRAM, IN A SANDBOX (cutbox-door.mjs). By AI agents, Wed Nov 11 2026. No macro, syntax, notation, axiom, sorry.
-/
import Derived.Test.YtgleldpdelhhhaaDoorRows
import GoSem.ClaimSeven
namespace Go.Proofs.YtgleldpdelhhhaaDoor
namespace Rows

/-- THE TIED CARD OF 'lorgnettelaw08.FoldExact'. -/
def foldExactCard : Claim7 := { stood := { row := foldExactRow, standIns := [], harness := (true, "8c2473a2944722fe9cceb770478a871db672ed5ca60f03b51037a3c778985f32"), looks := false }, kinds := [], alts := [], laidByText := true, laidKinds := [.data, .pinned], laidTests := true, laidLooks := .later }
def FoldExactCardSaid : Prop := Claim7.holds Tryd.pinned (.plain (OpenSpec.ofChange foldExactSpec)) foldExactCard

/-- THE TIED CARD OF 'lorgnettelaw08.FoldLimits'. -/
def foldLimitsCard : Claim7 := { stood := { row := foldLimitsRow, standIns := [], harness := (true, "8c2473a2944722fe9cceb770478a871db672ed5ca60f03b51037a3c778985f32"), looks := false }, kinds := [], alts := [], laidByText := true, laidKinds := [.data, .pinned], laidTests := true, laidLooks := .later }
def FoldLimitsCardSaid : Prop := Claim7.holds Tryd.pinned (.plain (OpenSpec.ofChange foldLimitsSpec)) foldLimitsCard

/-- THE TIED CARD OF 'lorgnettelaw08.FoldOrders'. -/
def foldOrdersCard : Claim7 := { stood := { row := foldOrdersRow, standIns := [], harness := (true, "8c2473a2944722fe9cceb770478a871db672ed5ca60f03b51037a3c778985f32"), looks := false }, kinds := [], alts := [], laidByText := true, laidKinds := [.data, .pinned], laidTests := true, laidLooks := .later }
def FoldOrdersCardSaid : Prop := Claim7.holds Tryd.pinned (.plain (OpenSpec.ofChange foldOrdersSpec)) foldOrdersCard

/-- THE TIED CARD OF 'lorgnettelaw08.FoldTruths'. -/
def foldTruthsCard : Claim7 := { stood := { row := foldTruthsRow, standIns := [], harness := (true, "8c2473a2944722fe9cceb770478a871db672ed5ca60f03b51037a3c778985f32"), looks := false }, kinds := [], alts := [], laidByText := true, laidKinds := [.data, .pinned], laidTests := true, laidLooks := .later }
def FoldTruthsCardSaid : Prop := Claim7.holds Tryd.pinned (.plain (OpenSpec.ofChange foldTruthsSpec)) foldTruthsCard

/-- THE TIED CARD OF 'lorgnettelaw08.FoldSums'. -/
def foldSumsCard : Claim7 := { stood := { row := foldSumsRow, standIns := [], harness := (true, "8c2473a2944722fe9cceb770478a871db672ed5ca60f03b51037a3c778985f32"), looks := false }, kinds := [], alts := [], laidByText := true, laidKinds := [.data, .pinned], laidTests := true, laidLooks := .later }
def FoldSumsCardSaid : Prop := Claim7.holds Tryd.pinned (.plain (OpenSpec.ofChange foldSumsSpec)) foldSumsCard

/-- THE SECOND FORM's CARD OF 'lorgnettelaw08.FoldExact'. -/
def foldExactUptoCard : Claim7 := { stood := { row := foldExactUptoRow, standIns := [], harness := (true, "8c2473a2944722fe9cceb770478a871db672ed5ca60f03b51037a3c778985f32"), looks := false }, kinds := [], alts := [], laidByText := true, laidKinds := [.data, .pinned], laidTests := true, laidLooks := .later }
def FoldExactUptoCardSaid : Prop := Claim7.holds Tryd.pinned (.plain (OpenSpec.upto foldExactSpec)) foldExactUptoCard

/-- THE SECOND FORM's CARD OF 'lorgnettelaw08.FoldLimits'. -/
def foldLimitsUptoCard : Claim7 := { stood := { row := foldLimitsUptoRow, standIns := [], harness := (true, "8c2473a2944722fe9cceb770478a871db672ed5ca60f03b51037a3c778985f32"), looks := false }, kinds := [], alts := [], laidByText := true, laidKinds := [.data, .pinned], laidTests := true, laidLooks := .later }
def FoldLimitsUptoCardSaid : Prop := Claim7.holds Tryd.pinned (.plain (OpenSpec.upto foldLimitsSpec)) foldLimitsUptoCard

/-- THE SECOND FORM's CARD OF 'lorgnettelaw08.FoldOrders'. -/
def foldOrdersUptoCard : Claim7 := { stood := { row := foldOrdersUptoRow, standIns := [], harness := (true, "8c2473a2944722fe9cceb770478a871db672ed5ca60f03b51037a3c778985f32"), looks := false }, kinds := [], alts := [], laidByText := true, laidKinds := [.data, .pinned], laidTests := true, laidLooks := .later }
def FoldOrdersUptoCardSaid : Prop := Claim7.holds Tryd.pinned (.plain (OpenSpec.upto foldOrdersSpec)) foldOrdersUptoCard

/-- THE SECOND FORM's CARD OF 'lorgnettelaw08.FoldTruths'. -/
def foldTruthsUptoCard : Claim7 := { stood := { row := foldTruthsUptoRow, standIns := [], harness := (true, "8c2473a2944722fe9cceb770478a871db672ed5ca60f03b51037a3c778985f32"), looks := false }, kinds := [], alts := [], laidByText := true, laidKinds := [.data, .pinned], laidTests := true, laidLooks := .later }
def FoldTruthsUptoCardSaid : Prop := Claim7.holds Tryd.pinned (.plain (OpenSpec.upto foldTruthsSpec)) foldTruthsUptoCard

/-- THE SECOND FORM's CARD OF 'lorgnettelaw08.FoldSums'. -/
def foldSumsUptoCard : Claim7 := { stood := { row := foldSumsUptoRow, standIns := [], harness := (true, "8c2473a2944722fe9cceb770478a871db672ed5ca60f03b51037a3c778985f32"), looks := false }, kinds := [], alts := [], laidByText := true, laidKinds := [.data, .pinned], laidTests := true, laidLooks := .later }
def FoldSumsUptoCardSaid : Prop := Claim7.holds Tryd.pinned (.plain (OpenSpec.upto foldSumsSpec)) foldSumsUptoCard
end Rows
end Go.Proofs.YtgleldpdelhhhaaDoor
