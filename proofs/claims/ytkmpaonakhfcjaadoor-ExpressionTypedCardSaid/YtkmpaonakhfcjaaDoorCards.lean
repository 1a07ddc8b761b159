/-
  DERIVED. GIVEN WITH THE SEED: THE CARDS: each row of YtkmpaonakhfcjaaDoorRows.lean that lists a variable, with what it lists TIED to the program's text (the seventh form; the later family's looks); each row that meets fmt, with fmt's text TOLD by the authors' own Lean function (tested against real Go, not proved from fmt's source: count such statements apart). THE CARD IS WHAT COUNTS. Prove the row's statement (the work); the ties are given (YtkmpaonakhfcjaaDoorTie.lean); close each card by the builder's one call (the guide's Derived/Test/ToyasCard.lean, 'card_holds'). Laid BY PROGRAM, IN A SANDBOX (cutbox-door.mjs). By AI agents, Wed Nov 11 2026. No macro, syntax, notation, axiom, sorry.
-/
import Derived.Test.YtkmpaonakhfcjaaDoorRows
import GoSem.ClaimSeven
namespace Go.Proofs.YtkmpaonakhfcjaaDoor
namespace Rows

/-- THE TIED CARD OF 'querylablaw02.ExpressionTyped'. -/
def expressionTypedCard : Claim7 := { stood := { row := expressionTypedRow, standIns := [], harness := (true, "e8f26f1db726afab6a07ca34984b669f2b02bc6ad586ff8bb8c47b935c0a4c0a"), looks := false }, kinds := [], alts := [], laidByText := true, laidKinds := [.data], laidTests := true, laidLooks := .later }
def ExpressionTypedCardSaid : Prop := Claim7.holds Tryd.pinned (.plain (OpenSpec.ofChange expressionTypedSpec)) expressionTypedCard

/-- THE TIED CARD OF 'querylablaw02.ExpressionShifts'. -/
def expressionShiftsCard : Claim7 := { stood := { row := expressionShiftsRow, standIns := [], harness := (true, "e8f26f1db726afab6a07ca34984b669f2b02bc6ad586ff8bb8c47b935c0a4c0a"), looks := false }, kinds := [], alts := [], laidByText := true, laidKinds := [.data], laidTests := true, laidLooks := .later }
def ExpressionShiftsCardSaid : Prop := Claim7.holds Tryd.pinned (.plain (OpenSpec.ofChange expressionShiftsSpec)) expressionShiftsCard

/-- THE TIED CARD OF 'querylablaw02.ExpressionTexts'. -/
def expressionTextsCard : Claim7 := { stood := { row := expressionTextsRow, standIns := [], harness := (true, "e8f26f1db726afab6a07ca34984b669f2b02bc6ad586ff8bb8c47b935c0a4c0a"), looks := false }, kinds := [], alts := [], laidByText := true, laidKinds := [.data, .data, .data, .data], laidTests := true, laidLooks := .later }
def ExpressionTextsCardSaid : Prop := Claim7.holds Tryd.pinned (.plain (OpenSpec.ofChange expressionTextsSpec)) expressionTextsCard

/-- THE TIED CARD OF 'querylablaw03.SchemaSpoilt'. -/
def schemaSpoiltCard : Claim7 := { stood := { row := schemaSpoiltRow, standIns := [], harness := (true, "e8f26f1db726afab6a07ca34984b669f2b02bc6ad586ff8bb8c47b935c0a4c0a"), looks := false }, kinds := [], alts := [], laidByText := true, laidKinds := [.data], laidTests := true, laidLooks := .later }
def SchemaSpoiltCardSaid : Prop := Claim7.holds Tryd.pinned (.plain (OpenSpec.ofChange schemaSpoiltSpec)) schemaSpoiltCard

/-- THE SECOND FORM's CARD OF 'querylablaw02.ExpressionTyped'. -/
def expressionTypedUptoCard : Claim7 := { stood := { row := expressionTypedUptoRow, standIns := [], harness := (true, "e8f26f1db726afab6a07ca34984b669f2b02bc6ad586ff8bb8c47b935c0a4c0a"), looks := false }, kinds := [], alts := [], laidByText := true, laidKinds := [.data], laidTests := true, laidLooks := .later }
def ExpressionTypedUptoCardSaid : Prop := Claim7.holds Tryd.pinned (.plain (OpenSpec.upto expressionTypedSpec)) expressionTypedUptoCard

/-- THE SECOND FORM's CARD OF 'querylablaw02.ExpressionShifts'. -/
def expressionShiftsUptoCard : Claim7 := { stood := { row := expressionShiftsUptoRow, standIns := [], harness := (true, "e8f26f1db726afab6a07ca34984b669f2b02bc6ad586ff8bb8c47b935c0a4c0a"), looks := false }, kinds := [], alts := [], laidByText := true, laidKinds := [.data], laidTests := true, laidLooks := .later }
def ExpressionShiftsUptoCardSaid : Prop := Claim7.holds Tryd.pinned (.plain (OpenSpec.upto expressionShiftsSpec)) expressionShiftsUptoCard

/-- THE SECOND FORM's CARD OF 'querylablaw02.ExpressionTexts'. -/
def expressionTextsUptoCard : Claim7 := { stood := { row := expressionTextsUptoRow, standIns := [], harness := (true, "e8f26f1db726afab6a07ca34984b669f2b02bc6ad586ff8bb8c47b935c0a4c0a"), looks := false }, kinds := [], alts := [], laidByText := true, laidKinds := [.data, .data, .data, .data], laidTests := true, laidLooks := .later }
def ExpressionTextsUptoCardSaid : Prop := Claim7.holds Tryd.pinned (.plain (OpenSpec.upto expressionTextsSpec)) expressionTextsUptoCard

/-- THE SECOND FORM's CARD OF 'querylablaw03.SchemaSpoilt'. -/
def schemaSpoiltUptoCard : Claim7 := { stood := { row := schemaSpoiltUptoRow, standIns := [], harness := (true, "e8f26f1db726afab6a07ca34984b669f2b02bc6ad586ff8bb8c47b935c0a4c0a"), looks := false }, kinds := [], alts := [], laidByText := true, laidKinds := [.data], laidTests := true, laidLooks := .later }
def SchemaSpoiltUptoCardSaid : Prop := Claim7.holds Tryd.pinned (.plain (OpenSpec.upto schemaSpoiltSpec)) schemaSpoiltUptoCard
end Rows
end Go.Proofs.YtkmpaonakhfcjaaDoor
