/-
  DERIVED. GIVEN WITH THE SEED: THE CARDS: each row of YtonlmhehddbhoaaDoorRows.lean that lists a variable, with what it lists TIED to the program's text (the seventh form; the later family's looks); each row that meets fmt, with fmt's text TOLD by the authors' own Lean function (tested against real Go, not proved from fmt's source: count such statements apart). THE CARD IS WHAT COUNTS. Prove the row's statement (the work); the ties are given (YtonlmhehddbhoaaDoorTie.lean); close each card by the builder's one call (the guide's Derived/Test/ToyasCard.lean, 'card_holds'). Laid BY PROGRAM, IN A SANDBOX (cutbox-door.mjs). By AI agents, Wed Nov 11 2026. No macro, syntax, notation, axiom, sorry.
-/
import Derived.Test.YtonlmhehddbhoaaDoorRows
import GoSem.ClaimSeven
namespace Go.Proofs.YtonlmhehddbhoaaDoor
namespace Rows

/-- THE TIED CARD OF 'querylablaw02.ExpressionTyped'. -/
def expressionTypedCard : Claim7 := { stood := { row := expressionTypedRow, standIns := [], harness := (true, "5953b00cf4d0f57fc255cc3d6a6564e3511a9c392a1c53705c6b80a9f46569e2"), looks := false }, kinds := [], alts := [], laidByText := true, laidKinds := [.data], laidTests := true, laidLooks := .later }
def ExpressionTypedCardSaid : Prop := Claim7.holds Tryd.pinned (.plain (OpenSpec.ofChange expressionTypedSpec)) expressionTypedCard

/-- THE TIED CARD OF 'querylablaw03.SchemaSpoilt'. -/
def schemaSpoiltCard : Claim7 := { stood := { row := schemaSpoiltRow, standIns := [], harness := (true, "5953b00cf4d0f57fc255cc3d6a6564e3511a9c392a1c53705c6b80a9f46569e2"), looks := false }, kinds := [], alts := [], laidByText := true, laidKinds := [.data], laidTests := true, laidLooks := .later }
def SchemaSpoiltCardSaid : Prop := Claim7.holds Tryd.pinned (.plain (OpenSpec.ofChange schemaSpoiltSpec)) schemaSpoiltCard

/-- THE TIED CARD OF 'querylablaw03.SchemaReferences'. -/
def schemaReferencesCard : Claim7 := { stood := { row := schemaReferencesRow, standIns := [], harness := (true, "5953b00cf4d0f57fc255cc3d6a6564e3511a9c392a1c53705c6b80a9f46569e2"), looks := false }, kinds := [], alts := [], laidByText := true, laidKinds := [.data], laidTests := true, laidLooks := .later }
def SchemaReferencesCardSaid : Prop := Claim7.holds Tryd.pinned (.plain (OpenSpec.ofChange schemaReferencesSpec)) schemaReferencesCard

/-- THE SECOND FORM's CARD OF 'querylablaw02.ExpressionTyped'. -/
def expressionTypedUptoCard : Claim7 := { stood := { row := expressionTypedUptoRow, standIns := [], harness := (true, "5953b00cf4d0f57fc255cc3d6a6564e3511a9c392a1c53705c6b80a9f46569e2"), looks := false }, kinds := [], alts := [], laidByText := true, laidKinds := [.data], laidTests := true, laidLooks := .later }
def ExpressionTypedUptoCardSaid : Prop := Claim7.holds Tryd.pinned (.plain (OpenSpec.upto expressionTypedSpec)) expressionTypedUptoCard

/-- THE SECOND FORM's CARD OF 'querylablaw03.SchemaSpoilt'. -/
def schemaSpoiltUptoCard : Claim7 := { stood := { row := schemaSpoiltUptoRow, standIns := [], harness := (true, "5953b00cf4d0f57fc255cc3d6a6564e3511a9c392a1c53705c6b80a9f46569e2"), looks := false }, kinds := [], alts := [], laidByText := true, laidKinds := [.data], laidTests := true, laidLooks := .later }
def SchemaSpoiltUptoCardSaid : Prop := Claim7.holds Tryd.pinned (.plain (OpenSpec.upto schemaSpoiltSpec)) schemaSpoiltUptoCard

/-- THE SECOND FORM's CARD OF 'querylablaw03.SchemaReferences'. -/
def schemaReferencesUptoCard : Claim7 := { stood := { row := schemaReferencesUptoRow, standIns := [], harness := (true, "5953b00cf4d0f57fc255cc3d6a6564e3511a9c392a1c53705c6b80a9f46569e2"), looks := false }, kinds := [], alts := [], laidByText := true, laidKinds := [.data], laidTests := true, laidLooks := .later }
def SchemaReferencesUptoCardSaid : Prop := Claim7.holds Tryd.pinned (.plain (OpenSpec.upto schemaReferencesSpec)) schemaReferencesUptoCard
end Rows
end Go.Proofs.YtonlmhehddbhoaaDoor
