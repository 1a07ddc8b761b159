/-
  NARROWER THAN 'FOR EVERY INPUT', by the rows' own cells (each row's printed sentence says how): ExpressionColumns: loops · SchemaOrders: loops · AlgebraSame: loops.
  DERIVED. THE GIVEN ROWS OF THIS SEAT. 3 by the template 'for every input the law returns true; each argument reads behind the call as it read before'; 0 by the template 'total and deterministic' (their statements: YtonnbmiallammaaTotals.lean).
  GIVEN WITH THE SEED: the statements are not yours to turn. If you find one false, say at which input.
  Laid BY PROGRAM, IN A SANDBOX (cutbox-rows.mjs): the forced cells as the released guide's own fill.sh prints them over the translation 74183111b1aa9dea… (all of the seat's roots in one cut). By AI agents, Wed Nov 11 2026. No macro, syntax, notation, axiom, sorry.
-/
import Derived.Test.YtonnbmiallammaaChecked
import GoSem.Claim
import GoSem.ClaimJoined
import GoSem.ClaimMapViews
import Derived.JoinedTies
import Derived.KernelRfl
namespace Go.Proofs.Ytonnbmiallammaa
/- THE CELL 'sum', in the pinned program and in every row, IS THE sha256 OF THE DUMP (.gsa) THAT YtonnbmiallammaaProg.lean LOADS. Nothing in Lean hashes anything: it is a label: what it is worth is what the hold of that sum in a sandbox is worth. -/
noncomputable def Try.pinned : Pinned := { name := "ytonnbmiallammaa", sum := "74183111b1aa9dea2c5db7456366f9cdb3d540ef210088781a9b00eac935d007", checked := Try.checked }
namespace Rows
def none {H : Type} : Left H := { results := [], args := [] }

/-- 'querylablaw02.ExpressionColumns': WHATEVER THE INPUT: true; the input reads as it did. -/
def expressionColumnsSpec : ChangeSpec := { name := "expressionColumns", fn := fun _ => fun
  | [d1, d2] => { results := [.lit (.bool true)], args := [d1, d2] }
  | _ => none }
def expressionColumnsRow : OpenClaim := { program := "ytonnbmiallammaa", sum := "74183111b1aa9dea2c5db7456366f9cdb3d540ef210088781a9b00eac935d007", func := "querylab/querylablaw02.ExpressionColumns", spec := "expressionColumns", recurses := true, loops := true, apart := false }
def ExpressionColumnsSaid : Prop := expressionColumnsRow.holds Try.pinned (OpenSpec.ofChange expressionColumnsSpec)

/-- ITS FALSE NEIGHBOUR: 'it returns false'. Refute it at one input. -/
def expressionColumnsWrong : ChangeSpec := { name := "expressionColumns", fn := fun _ => fun
  | [d1, d2] => { results := [.lit (.bool false)], args := [d1, d2] }
  | _ => none }
def ExpressionColumnsWrongFalsely : Prop := expressionColumnsRow.holds Try.pinned (OpenSpec.ofChange expressionColumnsWrong)

/-- 'querylablaw03.SchemaOrders': WHATEVER THE INPUT: true; the input reads as it did. -/
def schemaOrdersSpec : ChangeSpec := { name := "schemaOrders", fn := fun _ => fun
  | [d] => { results := [.lit (.bool true)], args := [d] }
  | _ => none }
def schemaOrdersRow : OpenClaim := { program := "ytonnbmiallammaa", sum := "74183111b1aa9dea2c5db7456366f9cdb3d540ef210088781a9b00eac935d007", func := "querylab/querylablaw03.SchemaOrders", spec := "schemaOrders", unfollowed := true, recurses := true, loops := true, apart := false }
def SchemaOrdersSaid : Prop := schemaOrdersRow.holds Try.pinned (OpenSpec.ofChange schemaOrdersSpec)

/-- ITS FALSE NEIGHBOUR: 'it returns false'. Refute it at one input. -/
def schemaOrdersWrong : ChangeSpec := { name := "schemaOrders", fn := fun _ => fun
  | [d] => { results := [.lit (.bool false)], args := [d] }
  | _ => none }
def SchemaOrdersWrongFalsely : Prop := schemaOrdersRow.holds Try.pinned (OpenSpec.ofChange schemaOrdersWrong)

/-- 'querylablaw04.AlgebraSame': WHATEVER THE INPUT: true; the input reads as it did. -/
def algebraSameSpec : ChangeSpec := { name := "algebraSame", fn := fun _ => fun
  | [d1, d2] => { results := [.lit (.bool true)], args := [d1, d2] }
  | _ => none }
def algebraSameRow : OpenClaim := { program := "ytonnbmiallammaa", sum := "74183111b1aa9dea2c5db7456366f9cdb3d540ef210088781a9b00eac935d007", func := "querylab/querylablaw04.AlgebraSame", spec := "algebraSame", unfollowed := true, recurses := true, loops := true, apart := false }
def AlgebraSameSaid : Prop := algebraSameRow.holds Try.pinned (OpenSpec.ofChange algebraSameSpec)

/-- ITS FALSE NEIGHBOUR: 'it returns false'. Refute it at one input. -/
def algebraSameWrong : ChangeSpec := { name := "algebraSame", fn := fun _ => fun
  | [d1, d2] => { results := [.lit (.bool false)], args := [d1, d2] }
  | _ => none }
def AlgebraSameWrongFalsely : Prop := algebraSameRow.holds Try.pinned (OpenSpec.ofChange algebraSameWrong)

/- THE SECOND FORM. 'bulk': how many values and letters a reading holds, each counted each time it is reached (what is shared counts as often as it is met; a slice's spare places count too). A statement '..UptoSaid' is the law's where the arguments, and the package variables that the reading takes, are together of bulk at most 1048576: NARROWER than '..Said'. Prove '..Said' where nothing that the law and all that it calls make is longer than what came in: it says more and counts as full. Else prove '..UptoSaid'. A law counts once. -/
mutual
def uptoBulk {H : Type} : DataW H → Nat
  | .lit (.string bytes) => bytes.length + 1
  | .lit _ => 1
  | .nil => 1
  | .ptr d => uptoBulk d + 1
  | .slice elems spare => uptoBulkAll elems + uptoBulkAll spare + 1
  | .agg parts => uptoBulkAll parts + 1
  | .iface _ d => uptoBulk d + 1
  | .map entries => uptoBulkEntries entries + 1
  | .held _ => 1
def uptoBulkAll {H : Type} : List (DataW H) → Nat
  | [] => 0
  | d :: r => uptoBulk d + uptoBulkAll r
def uptoBulkEntries {H : Type} : List (Lit × DataW H) → Nat
  | [] => 0
  | x :: r => uptoBulkEntry x + uptoBulkEntries r
def uptoBulkEntry {H : Type} : Lit × DataW H → Nat
  | (.string bytes, d) => bytes.length + uptoBulk d + 1
  | (_, d) => uptoBulk d + 1
 end
def uptoSmall : (H : Type) → List (DataW H) → Bool := fun _ ds => decide (uptoBulkAll ds ≤ 1048576)
def OpenSpec.upto (s : _root_.Go.ChangeSpec) : _root_.Go.OpenSpec := { _root_.Go.OpenSpec.ofChange s with cond := some uptoSmall }

/-- 'querylablaw02.ExpressionColumns', WHERE WHAT IT READS IS OF BULK AT MOST 1048576: true; the input reads as it did. -/
def expressionColumnsUptoRow : OpenClaim := { program := "ytonnbmiallammaa", sum := "74183111b1aa9dea2c5db7456366f9cdb3d540ef210088781a9b00eac935d007", func := "querylab/querylablaw02.ExpressionColumns", spec := "expressionColumns", recurses := true, loops := true, apart := false, narrowed := true }
def ExpressionColumnsUptoSaid : Prop := expressionColumnsUptoRow.holds Try.pinned (OpenSpec.upto expressionColumnsSpec)

/-- 'querylablaw03.SchemaOrders', WHERE WHAT IT READS IS OF BULK AT MOST 1048576: true; the input reads as it did. -/
def schemaOrdersUptoRow : OpenClaim := { program := "ytonnbmiallammaa", sum := "74183111b1aa9dea2c5db7456366f9cdb3d540ef210088781a9b00eac935d007", func := "querylab/querylablaw03.SchemaOrders", spec := "schemaOrders", unfollowed := true, recurses := true, loops := true, apart := false, narrowed := true }
def SchemaOrdersUptoSaid : Prop := schemaOrdersUptoRow.holds Try.pinned (OpenSpec.upto schemaOrdersSpec)

/-- 'querylablaw04.AlgebraSame', WHERE WHAT IT READS IS OF BULK AT MOST 1048576: true; the input reads as it did. -/
def algebraSameUptoRow : OpenClaim := { program := "ytonnbmiallammaa", sum := "74183111b1aa9dea2c5db7456366f9cdb3d540ef210088781a9b00eac935d007", func := "querylab/querylablaw04.AlgebraSame", spec := "algebraSame", unfollowed := true, recurses := true, loops := true, apart := false, narrowed := true }
def AlgebraSameUptoSaid : Prop := algebraSameUptoRow.holds Try.pinned (OpenSpec.upto algebraSameSpec)

end Rows
end Go.Proofs.Ytonnbmiallammaa
