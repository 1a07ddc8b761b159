/-
  DERIVED. GIVEN WITH THE SEED: THE CARDS: each row of YtpddkljedhghkaaDoorRows.lean that lists a variable, with what it lists TIED to the program's text (the seventh form; the later family's looks); each row that meets fmt, with fmt's text TOLD by the authors' own Lean function (tested against real Go, not proved from fmt's source: count such statements apart). THE CARD IS WHAT COUNTS. Prove the row's statement (the work); the ties are given (YtpddkljedhghkaaDoorTie.lean); close each card by the builder's one call (the guide's Derived/Test/ToyasCard.lean, 'card_holds'). Laid BY PROGRAM, IN A SANDBOX (cutbox-door.mjs). By AI agents, Wed Nov 11 2026. No macro, syntax, notation, axiom, sorry.
-/
import Derived.Test.YtpddkljedhghkaaDoorRows
import GoSem.ClaimSeven
namespace Go.Proofs.YtpddkljedhghkaaDoor
namespace Rows

/-- THE TIED CARD OF 'querylablaw02.ExpressionTyped'. -/
def expressionTypedCard : Claim7 := { stood := { row := expressionTypedRow, standIns := [], harness := (true, "4aec842dfdd0f72df04689079de7400e7e90c9218b6338fc7e24fd7e5fa372fa"), looks := false }, kinds := [], alts := [], laidByText := true, laidKinds := [.data], laidTests := true, laidLooks := .later }
def ExpressionTypedCardSaid : Prop := Claim7.holds Tryd.pinned (.plain (OpenSpec.ofChange expressionTypedSpec)) expressionTypedCard

/-- THE TIED CARD OF 'querylablaw03.SchemaSpoilt'. -/
def schemaSpoiltCard : Claim7 := { stood := { row := schemaSpoiltRow, standIns := [], harness := (true, "4aec842dfdd0f72df04689079de7400e7e90c9218b6338fc7e24fd7e5fa372fa"), looks := false }, kinds := [], alts := [], laidByText := true, laidKinds := [.data], laidTests := true, laidLooks := .later }
def SchemaSpoiltCardSaid : Prop := Claim7.holds Tryd.pinned (.plain (OpenSpec.ofChange schemaSpoiltSpec)) schemaSpoiltCard

/-- THE TIED CARD OF 'querylablaw08.MeaningFits'. -/
def meaningFitsCard : Claim7 := { stood := { row := meaningFitsRow, standIns := [], harness := (true, "4aec842dfdd0f72df04689079de7400e7e90c9218b6338fc7e24fd7e5fa372fa"), looks := false }, kinds := [], alts := [], laidByText := true, laidKinds := [.data], laidTests := true, laidLooks := .later }
def MeaningFitsCardSaid : Prop := Claim7.holds Tryd.pinned (.plain (OpenSpec.ofChange meaningFitsSpec)) meaningFitsCard

/-- THE TIED CARD OF 'querylablaw08.MeaningAggregates'. -/
def meaningAggregatesCard : Claim7 := { stood := { row := meaningAggregatesRow, standIns := [], harness := (true, "4aec842dfdd0f72df04689079de7400e7e90c9218b6338fc7e24fd7e5fa372fa"), looks := false }, kinds := [], alts := [], laidByText := true, laidKinds := [.data], laidTests := true, laidLooks := .later }
def MeaningAggregatesCardSaid : Prop := Claim7.holds Tryd.pinned (.plain (OpenSpec.ofChange meaningAggregatesSpec)) meaningAggregatesCard

/-- THE SECOND FORM's CARD OF 'querylablaw02.ExpressionTyped'. -/
def expressionTypedUptoCard : Claim7 := { stood := { row := expressionTypedUptoRow, standIns := [], harness := (true, "4aec842dfdd0f72df04689079de7400e7e90c9218b6338fc7e24fd7e5fa372fa"), looks := false }, kinds := [], alts := [], laidByText := true, laidKinds := [.data], laidTests := true, laidLooks := .later }
def ExpressionTypedUptoCardSaid : Prop := Claim7.holds Tryd.pinned (.plain (OpenSpec.upto expressionTypedSpec)) expressionTypedUptoCard

/-- THE SECOND FORM's CARD OF 'querylablaw03.SchemaSpoilt'. -/
def schemaSpoiltUptoCard : Claim7 := { stood := { row := schemaSpoiltUptoRow, standIns := [], harness := (true, "4aec842dfdd0f72df04689079de7400e7e90c9218b6338fc7e24fd7e5fa372fa"), looks := false }, kinds := [], alts := [], laidByText := true, laidKinds := [.data], laidTests := true, laidLooks := .later }
def SchemaSpoiltUptoCardSaid : Prop := Claim7.holds Tryd.pinned (.plain (OpenSpec.upto schemaSpoiltSpec)) schemaSpoiltUptoCard

/-- THE SECOND FORM's CARD OF 'querylablaw08.MeaningFits'. -/
def meaningFitsUptoCard : Claim7 := { stood := { row := meaningFitsUptoRow, standIns := [], harness := (true, "4aec842dfdd0f72df04689079de7400e7e90c9218b6338fc7e24fd7e5fa372fa"), looks := false }, kinds := [], alts := [], laidByText := true, laidKinds := [.data], laidTests := true, laidLooks := .later }
def MeaningFitsUptoCardSaid : Prop := Claim7.holds Tryd.pinned (.plain (OpenSpec.upto meaningFitsSpec)) meaningFitsUptoCard

/-- THE SECOND FORM's CARD OF 'querylablaw08.MeaningAggregates'. -/
def meaningAggregatesUptoCard : Claim7 := { stood := { row := meaningAggregatesUptoRow, standIns := [], harness := (true, "4aec842dfdd0f72df04689079de7400e7e90c9218b6338fc7e24fd7e5fa372fa"), looks := false }, kinds := [], alts := [], laidByText := true, laidKinds := [.data], laidTests := true, laidLooks := .later }
def MeaningAggregatesUptoCardSaid : Prop := Claim7.holds Tryd.pinned (.plain (OpenSpec.upto meaningAggregatesSpec)) meaningAggregatesUptoCard
end Rows
end Go.Proofs.YtpddkljedhghkaaDoor
