/-
  DERIVED. GIVEN WITH THE SEED: THE CARDS: each row of YtbgbcjgpaoabdaaDoorRows.lean that lists a variable, with what it lists TIED to the program's text (the seventh form; the later family's looks); each row that meets fmt, with fmt's text TOLD by the authors' own Lean function (tested against real Go, not proved from fmt's source: count such statements apart). THE CARD IS WHAT COUNTS. Prove the row's statement (the work); the ties are given (YtbgbcjgpaoabdaaDoorTie.lean); close each card by the builder's one call (the guide's Derived/Test/ToyasCard.lean, 'card_holds'). Laid BY PROGRAM, IN A SANDBOX (cutbox-door.mjs). By AI agents, Wed Nov 11 2026. No macro, syntax, notation, axiom, sorry.
-/
import Derived.Test.YtbgbcjgpaoabdaaDoorRows
import GoSem.ClaimSeven
namespace Go.Proofs.YtbgbcjgpaoabdaaDoor
namespace Rows

/-- THE TIED CARD OF 'querylablaw02.ExpressionTyped'. -/
def expressionTypedCard : Claim7 := { stood := { row := expressionTypedRow, standIns := [], harness := (true, "0d5e205ef5d670f7921e7f30bebbe1d22ceb86b5d917ddc3e83b22f72fa12bbb"), looks := false }, kinds := [], alts := [], laidByText := true, laidKinds := [.data], laidTests := true, laidLooks := .later }
def ExpressionTypedCardSaid : Prop := Claim7.holds Tryd.pinned (.plain (OpenSpec.ofChange expressionTypedSpec)) expressionTypedCard

/-- THE TIED CARD OF 'querylablaw02.ExpressionShifts'. -/
def expressionShiftsCard : Claim7 := { stood := { row := expressionShiftsRow, standIns := [], harness := (true, "0d5e205ef5d670f7921e7f30bebbe1d22ceb86b5d917ddc3e83b22f72fa12bbb"), looks := false }, kinds := [], alts := [], laidByText := true, laidKinds := [.data], laidTests := true, laidLooks := .later }
def ExpressionShiftsCardSaid : Prop := Claim7.holds Tryd.pinned (.plain (OpenSpec.ofChange expressionShiftsSpec)) expressionShiftsCard

/-- THE TIED CARD OF 'querylablaw02.ExpressionTexts'. -/
def expressionTextsCard : Claim7 := { stood := { row := expressionTextsRow, standIns := [], harness := (true, "0d5e205ef5d670f7921e7f30bebbe1d22ceb86b5d917ddc3e83b22f72fa12bbb"), looks := false }, kinds := [], alts := [], laidByText := true, laidKinds := [.data, .data, .data, .data], laidTests := true, laidLooks := .later }
def ExpressionTextsCardSaid : Prop := Claim7.holds Tryd.pinned (.plain (OpenSpec.ofChange expressionTextsSpec)) expressionTextsCard

/-- THE TIED CARD OF 'querylablaw02.ExpressionDecides'. -/
def expressionDecidesCard : Claim7 := { stood := { row := expressionDecidesRow, standIns := [], harness := (true, "0d5e205ef5d670f7921e7f30bebbe1d22ceb86b5d917ddc3e83b22f72fa12bbb"), looks := false }, kinds := [], alts := [], laidByText := true, laidKinds := [.data], laidTests := true, laidLooks := .later }
def ExpressionDecidesCardSaid : Prop := Claim7.holds Tryd.pinned (.plain (OpenSpec.ofChange expressionDecidesSpec)) expressionDecidesCard

/-- THE TIED CARD OF 'querylablaw03.SchemaSpoilt'. -/
def schemaSpoiltCard : Claim7 := { stood := { row := schemaSpoiltRow, standIns := [], harness := (true, "0d5e205ef5d670f7921e7f30bebbe1d22ceb86b5d917ddc3e83b22f72fa12bbb"), looks := false }, kinds := [], alts := [], laidByText := true, laidKinds := [.data], laidTests := true, laidLooks := .later }
def SchemaSpoiltCardSaid : Prop := Claim7.holds Tryd.pinned (.plain (OpenSpec.ofChange schemaSpoiltSpec)) schemaSpoiltCard

/-- THE SECOND FORM's CARD OF 'querylablaw02.ExpressionTyped'. -/
def expressionTypedUptoCard : Claim7 := { stood := { row := expressionTypedUptoRow, standIns := [], harness := (true, "0d5e205ef5d670f7921e7f30bebbe1d22ceb86b5d917ddc3e83b22f72fa12bbb"), looks := false }, kinds := [], alts := [], laidByText := true, laidKinds := [.data], laidTests := true, laidLooks := .later }
def ExpressionTypedUptoCardSaid : Prop := Claim7.holds Tryd.pinned (.plain (OpenSpec.upto expressionTypedSpec)) expressionTypedUptoCard

/-- THE SECOND FORM's CARD OF 'querylablaw02.ExpressionShifts'. -/
def expressionShiftsUptoCard : Claim7 := { stood := { row := expressionShiftsUptoRow, standIns := [], harness := (true, "0d5e205ef5d670f7921e7f30bebbe1d22ceb86b5d917ddc3e83b22f72fa12bbb"), looks := false }, kinds := [], alts := [], laidByText := true, laidKinds := [.data], laidTests := true, laidLooks := .later }
def ExpressionShiftsUptoCardSaid : Prop := Claim7.holds Tryd.pinned (.plain (OpenSpec.upto expressionShiftsSpec)) expressionShiftsUptoCard

/-- THE SECOND FORM's CARD OF 'querylablaw02.ExpressionTexts'. -/
def expressionTextsUptoCard : Claim7 := { stood := { row := expressionTextsUptoRow, standIns := [], harness := (true, "0d5e205ef5d670f7921e7f30bebbe1d22ceb86b5d917ddc3e83b22f72fa12bbb"), looks := false }, kinds := [], alts := [], laidByText := true, laidKinds := [.data, .data, .data, .data], laidTests := true, laidLooks := .later }
def ExpressionTextsUptoCardSaid : Prop := Claim7.holds Tryd.pinned (.plain (OpenSpec.upto expressionTextsSpec)) expressionTextsUptoCard

/-- THE SECOND FORM's CARD OF 'querylablaw02.ExpressionDecides'. -/
def expressionDecidesUptoCard : Claim7 := { stood := { row := expressionDecidesUptoRow, standIns := [], harness := (true, "0d5e205ef5d670f7921e7f30bebbe1d22ceb86b5d917ddc3e83b22f72fa12bbb"), looks := false }, kinds := [], alts := [], laidByText := true, laidKinds := [.data], laidTests := true, laidLooks := .later }
def ExpressionDecidesUptoCardSaid : Prop := Claim7.holds Tryd.pinned (.plain (OpenSpec.upto expressionDecidesSpec)) expressionDecidesUptoCard

/-- THE SECOND FORM's CARD OF 'querylablaw03.SchemaSpoilt'. -/
def schemaSpoiltUptoCard : Claim7 := { stood := { row := schemaSpoiltUptoRow, standIns := [], harness := (true, "0d5e205ef5d670f7921e7f30bebbe1d22ceb86b5d917ddc3e83b22f72fa12bbb"), looks := false }, kinds := [], alts := [], laidByText := true, laidKinds := [.data], laidTests := true, laidLooks := .later }
def SchemaSpoiltUptoCardSaid : Prop := Claim7.holds Tryd.pinned (.plain (OpenSpec.upto schemaSpoiltSpec)) schemaSpoiltUptoCard
end Rows
end Go.Proofs.YtbgbcjgpaoabdaaDoor
