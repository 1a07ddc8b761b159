/-
  NARROWER THAN 'FOR EVERY INPUT', by the rows' own cells (each row's printed sentence says how): ExpressionTexts: loops, laid · SchemaSpoilt: laid · SchemaReferences: laid · AlgebraMade: laid · AlgebraSizes: loops, laid · AlgebraDeep: laid.
  DERIVED. THE GIVEN ROWS OF THIS SEAT. 6 by the template 'for every input the law returns true; each argument reads behind the call as it read before'; 0 by the template 'total and deterministic' (their statements: YtbnhmjecjeifdaaDoorTotals.lean).
  GIVEN WITH THE SEED: the statements are not yours to turn. If you find one false, say at which input.
  Laid BY PROGRAM, IN A SANDBOX (cutbox-rows.mjs): the forced cells as the released guide's own fill.sh prints them over the translation dbd8828a05cd25df… (all of the seat's roots in one cut). By AI agents, Wed Nov 11 2026. No macro, syntax, notation, axiom, sorry.
-/
import Derived.Test.YtbnhmjecjeifdaaDoorChecked
import GoSem.Claim
import GoSem.ClaimJoined
import GoSem.ClaimMapViews
import Derived.JoinedTies
import Derived.KernelRfl
namespace Go.Proofs.YtbnhmjecjeifdaaDoor
/- THE CELL 'sum', in the pinned program and in every row, IS THE sha256 OF THE DUMP (.gsa) THAT YtbnhmjecjeifdaaDoorProg.lean LOADS. Nothing in Lean hashes anything: it is a label: what it is worth is what the hold of that sum in a sandbox is worth. -/
noncomputable def Tryd.pinned : Pinned := { name := "ytbnhmjecjeifdaadoor", sum := "dbd8828a05cd25dff0db2930f762b9f58fade7b0ea59cbeb88e1d603c8e79cbf", checked := Tryd.checked }
namespace Rows
def none {H : Type} : Left H := { results := [], args := [] }

/- WHAT THE LISTED PACKAGE-LEVEL VARIABLES READ AS WHEN THE CALL BEGINS. Each datum BY PROGRAM (the guide's laid-datum.mjs) off the statement by which the dump's own 'gosem.cut.vars' lays the variable. In a bare row this is a premise. The card (YtbnhmjecjeifdaaDoorCards.lean) ties it to the program's text. -/
def laid_math_bits_deBruijn32tab {H : Type} : DataW H := .agg [.lit (.int .u8 0), .lit (.int .u8 1), .lit (.int .u8 28), .lit (.int .u8 2), .lit (.int .u8 29), .lit (.int .u8 14), .lit (.int .u8 24), .lit (.int .u8 3), .lit (.int .u8 30), .lit (.int .u8 22), .lit (.int .u8 20), .lit (.int .u8 15), .lit (.int .u8 25), .lit (.int .u8 17), .lit (.int .u8 4), .lit (.int .u8 8), .lit (.int .u8 31), .lit (.int .u8 27), .lit (.int .u8 13), .lit (.int .u8 23), .lit (.int .u8 21), .lit (.int .u8 19), .lit (.int .u8 16), .lit (.int .u8 7), .lit (.int .u8 26), .lit (.int .u8 12), .lit (.int .u8 18), .lit (.int .u8 6), .lit (.int .u8 11), .lit (.int .u8 5), .lit (.int .u8 10), .lit (.int .u8 9)]
def laid_math_bits_deBruijn64tab {H : Type} : DataW H := .agg [.lit (.int .u8 0), .lit (.int .u8 1), .lit (.int .u8 56), .lit (.int .u8 2), .lit (.int .u8 57), .lit (.int .u8 49), .lit (.int .u8 28), .lit (.int .u8 3), .lit (.int .u8 61), .lit (.int .u8 58), .lit (.int .u8 42), .lit (.int .u8 50), .lit (.int .u8 38), .lit (.int .u8 29), .lit (.int .u8 17), .lit (.int .u8 4), .lit (.int .u8 62), .lit (.int .u8 47), .lit (.int .u8 59), .lit (.int .u8 36), .lit (.int .u8 45), .lit (.int .u8 43), .lit (.int .u8 51), .lit (.int .u8 22), .lit (.int .u8 53), .lit (.int .u8 39), .lit (.int .u8 33), .lit (.int .u8 30), .lit (.int .u8 24), .lit (.int .u8 18), .lit (.int .u8 12), .lit (.int .u8 5), .lit (.int .u8 63), .lit (.int .u8 55), .lit (.int .u8 48), .lit (.int .u8 27), .lit (.int .u8 60), .lit (.int .u8 41), .lit (.int .u8 37), .lit (.int .u8 16), .lit (.int .u8 46), .lit (.int .u8 35), .lit (.int .u8 44), .lit (.int .u8 21), .lit (.int .u8 52), .lit (.int .u8 32), .lit (.int .u8 23), .lit (.int .u8 11), .lit (.int .u8 54), .lit (.int .u8 26), .lit (.int .u8 40), .lit (.int .u8 15), .lit (.int .u8 34), .lit (.int .u8 20), .lit (.int .u8 31), .lit (.int .u8 10), .lit (.int .u8 25), .lit (.int .u8 14), .lit (.int .u8 19), .lit (.int .u8 9), .lit (.int .u8 13), .lit (.int .u8 8), .lit (.int .u8 7), .lit (.int .u8 6)]
def laid_internal_strconv_uint64pow10 {H : Type} : DataW H := .agg [.lit (.int .u64 1), .lit (.int .u64 10), .lit (.int .u64 100), .lit (.int .u64 1000), .lit (.int .u64 10000), .lit (.int .u64 100000), .lit (.int .u64 1000000), .lit (.int .u64 10000000), .lit (.int .u64 100000000), .lit (.int .u64 1000000000), .lit (.int .u64 10000000000), .lit (.int .u64 100000000000), .lit (.int .u64 1000000000000), .lit (.int .u64 10000000000000), .lit (.int .u64 100000000000000), .lit (.int .u64 1000000000000000), .lit (.int .u64 10000000000000000), .lit (.int .u64 100000000000000000), .lit (.int .u64 1000000000000000000), .lit (.int .u64 10000000000000000000)]
def laid_querylab_expression_operations {H : Type} : DataW H := .agg [.agg [.lit (.string []), .lit (.int .i64 0), .lit (.int .i64 0), .lit (.int .i64 0), .lit (.int .i64 0)], .agg [.lit (.string []), .lit (.int .i64 0), .lit (.int .i64 0), .lit (.int .i64 0), .lit (.int .i64 0)], .agg [.lit (.string []), .lit (.int .i64 1), .lit (.int .i64 0), .lit (.int .i64 0), .lit (.int .i64 1)], .agg [.lit (.string []), .lit (.int .i64 1), .lit (.int .i64 0), .lit (.int .i64 0), .lit (.int .i64 2)], .agg [.lit (.string []), .lit (.int .i64 2), .lit (.int .i64 0), .lit (.int .i64 0), .lit (.int .i64 3)], .agg [.lit (.string []), .lit (.int .i64 3), .lit (.int .i64 0), .lit (.int .i64 0), .lit (.int .i64 0)], .agg [.lit (.string [97, 100, 100]), .lit (.int .i64 5), .lit (.int .i64 1), .lit (.int .i64 1), .lit (.int .i64 1)], .agg [.lit (.string [115, 117, 98]), .lit (.int .i64 5), .lit (.int .i64 1), .lit (.int .i64 1), .lit (.int .i64 1)], .agg [.lit (.string [109, 117, 108]), .lit (.int .i64 5), .lit (.int .i64 1), .lit (.int .i64 1), .lit (.int .i64 1)], .agg [.lit (.string [100, 105, 118]), .lit (.int .i64 5), .lit (.int .i64 1), .lit (.int .i64 1), .lit (.int .i64 1)], .agg [.lit (.string [109, 111, 100]), .lit (.int .i64 5), .lit (.int .i64 1), .lit (.int .i64 1), .lit (.int .i64 1)], .agg [.lit (.string [110, 101, 103]), .lit (.int .i64 4), .lit (.int .i64 1), .lit (.int .i64 0), .lit (.int .i64 1)], .agg [.lit (.string [99, 111, 110, 99, 97, 116]), .lit (.int .i64 5), .lit (.int .i64 3), .lit (.int .i64 3), .lit (.int .i64 3)], .agg [.lit (.string [108, 101, 110, 103, 116, 104]), .lit (.int .i64 4), .lit (.int .i64 3), .lit (.int .i64 0), .lit (.int .i64 1)], .agg [.lit (.string [101, 113]), .lit (.int .i64 5), .lit (.int .i64 (-1)), .lit (.int .i64 (-1)), .lit (.int .i64 2)], .agg [.lit (.string [110, 101]), .lit (.int .i64 5), .lit (.int .i64 (-1)), .lit (.int .i64 (-1)), .lit (.int .i64 2)], .agg [.lit (.string [108, 116]), .lit (.int .i64 5), .lit (.int .i64 (-1)), .lit (.int .i64 (-1)), .lit (.int .i64 2)], .agg [.lit (.string [108, 101]), .lit (.int .i64 5), .lit (.int .i64 (-1)), .lit (.int .i64 (-1)), .lit (.int .i64 2)], .agg [.lit (.string [103, 116]), .lit (.int .i64 5), .lit (.int .i64 (-1)), .lit (.int .i64 (-1)), .lit (.int .i64 2)], .agg [.lit (.string [103, 101]), .lit (.int .i64 5), .lit (.int .i64 (-1)), .lit (.int .i64 (-1)), .lit (.int .i64 2)], .agg [.lit (.string [115, 97, 109, 101]), .lit (.int .i64 5), .lit (.int .i64 (-1)), .lit (.int .i64 (-1)), .lit (.int .i64 2)], .agg [.lit (.string [105, 115, 110, 117, 108, 108]), .lit (.int .i64 4), .lit (.int .i64 (-1)), .lit (.int .i64 0), .lit (.int .i64 2)], .agg [.lit (.string [97, 110, 100]), .lit (.int .i64 5), .lit (.int .i64 2), .lit (.int .i64 2), .lit (.int .i64 2)], .agg [.lit (.string [111, 114]), .lit (.int .i64 5), .lit (.int .i64 2), .lit (.int .i64 2), .lit (.int .i64 2)], .agg [.lit (.string [110, 111, 116]), .lit (.int .i64 4), .lit (.int .i64 2), .lit (.int .i64 0), .lit (.int .i64 2)], .agg [.lit (.string [105, 115, 116, 114, 117, 101]), .lit (.int .i64 4), .lit (.int .i64 2), .lit (.int .i64 0), .lit (.int .i64 2)], .agg [.lit (.string [99, 97, 115, 101]), .lit (.int .i64 6), .lit (.int .i64 2), .lit (.int .i64 (-1)), .lit (.int .i64 (-1))], .agg [.lit (.string [99, 111, 97, 108, 101, 115, 99, 101]), .lit (.int .i64 5), .lit (.int .i64 (-1)), .lit (.int .i64 (-1)), .lit (.int .i64 (-1))], .agg [.lit (.string [105, 110]), .lit (.int .i64 7), .lit (.int .i64 (-1)), .lit (.int .i64 (-1)), .lit (.int .i64 2)]]
def laid_querylab_algebra_operators {H : Type} : DataW H := .agg [.agg [.lit (.string []), .lit (.int .i64 0), .lit (.int .i64 0)], .agg [.lit (.string [115, 99, 97, 110]), .lit (.int .i64 1), .lit (.int .i64 0)], .agg [.lit (.string [118, 97, 108, 117, 101, 115]), .lit (.int .i64 192), .lit (.int .i64 0)], .agg [.lit (.string [115, 101, 108, 101, 99, 116]), .lit (.int .i64 8), .lit (.int .i64 1)], .agg [.lit (.string [112, 114, 111, 106, 101, 99, 116]), .lit (.int .i64 16), .lit (.int .i64 1)], .agg [.lit (.string [106, 111, 105, 110]), .lit (.int .i64 10), .lit (.int .i64 2)], .agg [.lit (.string [117, 110, 105, 111, 110]), .lit (.int .i64 4), .lit (.int .i64 2)], .agg [.lit (.string [101, 120, 99, 101, 112, 116]), .lit (.int .i64 4), .lit (.int .i64 2)], .agg [.lit (.string [105, 110, 116, 101, 114, 115, 101, 99, 116]), .lit (.int .i64 4), .lit (.int .i64 2)], .agg [.lit (.string [100, 105, 115, 116, 105, 110, 99, 116]), .lit (.int .i64 0), .lit (.int .i64 1)], .agg [.lit (.string [103, 114, 111, 117, 112]), .lit (.int .i64 48), .lit (.int .i64 1)]]

/-- 'querylablaw02.ExpressionTexts': WHATEVER THE INPUT: true; the input reads as it did. -/
def expressionTextsSpec : ChangeSpec := { name := "expressionTexts", fn := fun _ => fun
  | [d1, d2] => { results := [.lit (.bool true)], args := [d1, d2] }
  | _ => none }
def expressionTextsRow : OpenClaim := { program := "ytbnhmjecjeifdaadoor", sum := "dbd8828a05cd25dff0db2930f762b9f58fade7b0ea59cbeb88e1d603c8e79cbf", func := "querylab/querylablaw02.ExpressionTexts", spec := "expressionTexts", inPlace := ["internal/abi.NoEscape"], unfollowed := true, recurses := true, named := ["querylab/expression.operations", "internal/strconv.uint64pow10", "math/bits.deBruijn32tab", "math/bits.deBruijn64tab"], loops := true, apart := false, laid := [("math/bits.deBruijn32tab", laid_math_bits_deBruijn32tab), ("math/bits.deBruijn64tab", laid_math_bits_deBruijn64tab), ("internal/strconv.uint64pow10", laid_internal_strconv_uint64pow10), ("querylab/expression.operations", laid_querylab_expression_operations)] }
def ExpressionTextsSaid : Prop := expressionTextsRow.holds Tryd.pinned (OpenSpec.ofChange expressionTextsSpec)

/-- ITS FALSE NEIGHBOUR: 'it returns false'. Refute it at one input. -/
def expressionTextsWrong : ChangeSpec := { name := "expressionTexts", fn := fun _ => fun
  | [d1, d2] => { results := [.lit (.bool false)], args := [d1, d2] }
  | _ => none }
def ExpressionTextsWrongFalsely : Prop := expressionTextsRow.holds Tryd.pinned (OpenSpec.ofChange expressionTextsWrong)

/-- 'querylablaw03.SchemaSpoilt': WHATEVER THE INPUT: true; the input reads as it did. -/
def schemaSpoiltSpec : ChangeSpec := { name := "schemaSpoilt", fn := fun _ => fun
  | [d1, d2, d3, d4] => { results := [.lit (.bool true)], args := [d1, d2, d3, d4] }
  | _ => none }
def schemaSpoiltRow : OpenClaim := { program := "ytbnhmjecjeifdaadoor", sum := "dbd8828a05cd25dff0db2930f762b9f58fade7b0ea59cbeb88e1d603c8e79cbf", func := "querylab/querylablaw03.SchemaSpoilt", spec := "schemaSpoilt", unfollowed := true, recurses := true, named := ["querylab/expression.operations"], apart := false, laid := [("querylab/expression.operations", laid_querylab_expression_operations)] }
def SchemaSpoiltSaid : Prop := schemaSpoiltRow.holds Tryd.pinned (OpenSpec.ofChange schemaSpoiltSpec)

/-- ITS FALSE NEIGHBOUR: 'it returns false'. Refute it at one input. -/
def schemaSpoiltWrong : ChangeSpec := { name := "schemaSpoilt", fn := fun _ => fun
  | [d1, d2, d3, d4] => { results := [.lit (.bool false)], args := [d1, d2, d3, d4] }
  | _ => none }
def SchemaSpoiltWrongFalsely : Prop := schemaSpoiltRow.holds Tryd.pinned (OpenSpec.ofChange schemaSpoiltWrong)

/-- 'querylablaw03.SchemaReferences': WHATEVER THE INPUT: true; the input reads as it did. -/
def schemaReferencesSpec : ChangeSpec := { name := "schemaReferences", fn := fun _ => fun
  | [d] => { results := [.lit (.bool true)], args := [d] }
  | _ => none }
def schemaReferencesRow : OpenClaim := { program := "ytbnhmjecjeifdaadoor", sum := "dbd8828a05cd25dff0db2930f762b9f58fade7b0ea59cbeb88e1d603c8e79cbf", func := "querylab/querylablaw03.SchemaReferences", spec := "schemaReferences", unfollowed := true, recurses := true, named := ["querylab/expression.operations"], apart := false, laid := [("querylab/expression.operations", laid_querylab_expression_operations)] }
def SchemaReferencesSaid : Prop := schemaReferencesRow.holds Tryd.pinned (OpenSpec.ofChange schemaReferencesSpec)

/-- ITS FALSE NEIGHBOUR: 'it returns false'. Refute it at one input. -/
def schemaReferencesWrong : ChangeSpec := { name := "schemaReferences", fn := fun _ => fun
  | [d] => { results := [.lit (.bool false)], args := [d] }
  | _ => none }
def SchemaReferencesWrongFalsely : Prop := schemaReferencesRow.holds Tryd.pinned (OpenSpec.ofChange schemaReferencesWrong)

/-- 'querylablaw04.AlgebraMade': WHATEVER THE INPUT: true; the input reads as it did. -/
def algebraMadeSpec : ChangeSpec := { name := "algebraMade", fn := fun _ => fun
  | [d1, d2, d3] => { results := [.lit (.bool true)], args := [d1, d2, d3] }
  | _ => none }
def algebraMadeRow : OpenClaim := { program := "ytbnhmjecjeifdaadoor", sum := "dbd8828a05cd25dff0db2930f762b9f58fade7b0ea59cbeb88e1d603c8e79cbf", func := "querylab/querylablaw04.AlgebraMade", spec := "algebraMade", unfollowed := true, recurses := true, named := ["querylab/algebra.operators", "querylab/expression.operations"], apart := false, laid := [("querylab/expression.operations", laid_querylab_expression_operations), ("querylab/algebra.operators", laid_querylab_algebra_operators)] }
def AlgebraMadeSaid : Prop := algebraMadeRow.holds Tryd.pinned (OpenSpec.ofChange algebraMadeSpec)

/-- ITS FALSE NEIGHBOUR: 'it returns false'. Refute it at one input. -/
def algebraMadeWrong : ChangeSpec := { name := "algebraMade", fn := fun _ => fun
  | [d1, d2, d3] => { results := [.lit (.bool false)], args := [d1, d2, d3] }
  | _ => none }
def AlgebraMadeWrongFalsely : Prop := algebraMadeRow.holds Tryd.pinned (OpenSpec.ofChange algebraMadeWrong)

/-- 'querylablaw04.AlgebraSizes': WHATEVER THE INPUT: true; the input reads as it did. -/
def algebraSizesSpec : ChangeSpec := { name := "algebraSizes", fn := fun _ => fun
  | [d] => { results := [.lit (.bool true)], args := [d] }
  | _ => none }
def algebraSizesRow : OpenClaim := { program := "ytbnhmjecjeifdaadoor", sum := "dbd8828a05cd25dff0db2930f762b9f58fade7b0ea59cbeb88e1d603c8e79cbf", func := "querylab/querylablaw04.AlgebraSizes", spec := "algebraSizes", unfollowed := true, recurses := true, named := ["querylab/algebra.operators"], loops := true, apart := false, laid := [("querylab/algebra.operators", laid_querylab_algebra_operators)] }
def AlgebraSizesSaid : Prop := algebraSizesRow.holds Tryd.pinned (OpenSpec.ofChange algebraSizesSpec)

/-- ITS FALSE NEIGHBOUR: 'it returns false'. Refute it at one input. -/
def algebraSizesWrong : ChangeSpec := { name := "algebraSizes", fn := fun _ => fun
  | [d] => { results := [.lit (.bool false)], args := [d] }
  | _ => none }
def AlgebraSizesWrongFalsely : Prop := algebraSizesRow.holds Tryd.pinned (OpenSpec.ofChange algebraSizesWrong)

/-- 'querylablaw04.AlgebraDeep': WHATEVER THE INPUT: true; the input reads as it did. -/
def algebraDeepSpec : ChangeSpec := { name := "algebraDeep", fn := fun _ => fun
  | [d] => { results := [.lit (.bool true)], args := [d] }
  | _ => none }
def algebraDeepRow : OpenClaim := { program := "ytbnhmjecjeifdaadoor", sum := "dbd8828a05cd25dff0db2930f762b9f58fade7b0ea59cbeb88e1d603c8e79cbf", func := "querylab/querylablaw04.AlgebraDeep", spec := "algebraDeep", unfollowed := true, recurses := true, named := ["querylab/algebra.operators", "querylab/expression.operations"], apart := false, laid := [("querylab/expression.operations", laid_querylab_expression_operations), ("querylab/algebra.operators", laid_querylab_algebra_operators)] }
def AlgebraDeepSaid : Prop := algebraDeepRow.holds Tryd.pinned (OpenSpec.ofChange algebraDeepSpec)

/-- ITS FALSE NEIGHBOUR: 'it returns false'. Refute it at one input. -/
def algebraDeepWrong : ChangeSpec := { name := "algebraDeep", fn := fun _ => fun
  | [d] => { results := [.lit (.bool false)], args := [d] }
  | _ => none }
def AlgebraDeepWrongFalsely : Prop := algebraDeepRow.holds Tryd.pinned (OpenSpec.ofChange algebraDeepWrong)

/- THE SECOND FORM. 'bulk': how many values and letters a reading holds, each counted each time it is reached (what is shared counts as often as it is met; a slice's spare places count too). A statement '..UptoSaid' is the law's where the arguments, and the package variables that the reading takes, are together of bulk at most 1048576: NARROWER than '..Said'. Prove '..Said' where nothing that the law and all that it calls make is longer than what came in: it says more and counts as full. Else prove '..UptoSaid'. A law counts once. -/
mutual
def uptoBulk {H : Type} : DataW H → Nat
  | .lit (.string bytes) => bytes.length + 1
  | .lit _ => 1
  | .nil => 1
  | .ptr d => uptoBulk d + 1
  | .slice elems spare => uptoBulkAll elems + uptoBulkAll spare + 1
  | .agg parts => uptoBulkAll parts + 1
  | .iface _ d => uptoBulk d + 1
  | .map entries => uptoBulkEntries entries + 1
  | .held _ => 1
def uptoBulkAll {H : Type} : List (DataW H) → Nat
  | [] => 0
  | d :: r => uptoBulk d + uptoBulkAll r
def uptoBulkEntries {H : Type} : List (Lit × DataW H) → Nat
  | [] => 0
  | x :: r => uptoBulkEntry x + uptoBulkEntries r
def uptoBulkEntry {H : Type} : Lit × DataW H → Nat
  | (.string bytes, d) => bytes.length + uptoBulk d + 1
  | (_, d) => uptoBulk d + 1
 end
def uptoSmall : (H : Type) → List (DataW H) → Bool := fun _ ds => decide (uptoBulkAll ds ≤ 1048576)
def OpenSpec.upto (s : _root_.Go.ChangeSpec) : _root_.Go.OpenSpec := { _root_.Go.OpenSpec.ofChange s with cond := some uptoSmall }

/-- 'querylablaw02.ExpressionTexts', WHERE WHAT IT READS IS OF BULK AT MOST 1048576: true; the input reads as it did. -/
def expressionTextsUptoRow : OpenClaim := { program := "ytbnhmjecjeifdaadoor", sum := "dbd8828a05cd25dff0db2930f762b9f58fade7b0ea59cbeb88e1d603c8e79cbf", func := "querylab/querylablaw02.ExpressionTexts", spec := "expressionTexts", inPlace := ["internal/abi.NoEscape"], unfollowed := true, recurses := true, named := ["querylab/expression.operations", "internal/strconv.uint64pow10", "math/bits.deBruijn32tab", "math/bits.deBruijn64tab"], loops := true, apart := false, laid := [("math/bits.deBruijn32tab", laid_math_bits_deBruijn32tab), ("math/bits.deBruijn64tab", laid_math_bits_deBruijn64tab), ("internal/strconv.uint64pow10", laid_internal_strconv_uint64pow10), ("querylab/expression.operations", laid_querylab_expression_operations)], narrowed := true }
def ExpressionTextsUptoSaid : Prop := expressionTextsUptoRow.holds Tryd.pinned (OpenSpec.upto expressionTextsSpec)

/-- 'querylablaw03.SchemaSpoilt', WHERE WHAT IT READS IS OF BULK AT MOST 1048576: true; the input reads as it did. -/
def schemaSpoiltUptoRow : OpenClaim := { program := "ytbnhmjecjeifdaadoor", sum := "dbd8828a05cd25dff0db2930f762b9f58fade7b0ea59cbeb88e1d603c8e79cbf", func := "querylab/querylablaw03.SchemaSpoilt", spec := "schemaSpoilt", unfollowed := true, recurses := true, named := ["querylab/expression.operations"], apart := false, laid := [("querylab/expression.operations", laid_querylab_expression_operations)], narrowed := true }
def SchemaSpoiltUptoSaid : Prop := schemaSpoiltUptoRow.holds Tryd.pinned (OpenSpec.upto schemaSpoiltSpec)

/-- 'querylablaw03.SchemaReferences', WHERE WHAT IT READS IS OF BULK AT MOST 1048576: true; the input reads as it did. -/
def schemaReferencesUptoRow : OpenClaim := { program := "ytbnhmjecjeifdaadoor", sum := "dbd8828a05cd25dff0db2930f762b9f58fade7b0ea59cbeb88e1d603c8e79cbf", func := "querylab/querylablaw03.SchemaReferences", spec := "schemaReferences", unfollowed := true, recurses := true, named := ["querylab/expression.operations"], apart := false, laid := [("querylab/expression.operations", laid_querylab_expression_operations)], narrowed := true }
def SchemaReferencesUptoSaid : Prop := schemaReferencesUptoRow.holds Tryd.pinned (OpenSpec.upto schemaReferencesSpec)

/-- 'querylablaw04.AlgebraMade', WHERE WHAT IT READS IS OF BULK AT MOST 1048576: true; the input reads as it did. -/
def algebraMadeUptoRow : OpenClaim := { program := "ytbnhmjecjeifdaadoor", sum := "dbd8828a05cd25dff0db2930f762b9f58fade7b0ea59cbeb88e1d603c8e79cbf", func := "querylab/querylablaw04.AlgebraMade", spec := "algebraMade", unfollowed := true, recurses := true, named := ["querylab/algebra.operators", "querylab/expression.operations"], apart := false, laid := [("querylab/expression.operations", laid_querylab_expression_operations), ("querylab/algebra.operators", laid_querylab_algebra_operators)], narrowed := true }
def AlgebraMadeUptoSaid : Prop := algebraMadeUptoRow.holds Tryd.pinned (OpenSpec.upto algebraMadeSpec)

/-- 'querylablaw04.AlgebraSizes', WHERE WHAT IT READS IS OF BULK AT MOST 1048576: true; the input reads as it did. -/
def algebraSizesUptoRow : OpenClaim := { program := "ytbnhmjecjeifdaadoor", sum := "dbd8828a05cd25dff0db2930f762b9f58fade7b0ea59cbeb88e1d603c8e79cbf", func := "querylab/querylablaw04.AlgebraSizes", spec := "algebraSizes", unfollowed := true, recurses := true, named := ["querylab/algebra.operators"], loops := true, apart := false, laid := [("querylab/algebra.operators", laid_querylab_algebra_operators)], narrowed := true }
def AlgebraSizesUptoSaid : Prop := algebraSizesUptoRow.holds Tryd.pinned (OpenSpec.upto algebraSizesSpec)

/-- 'querylablaw04.AlgebraDeep', WHERE WHAT IT READS IS OF BULK AT MOST 1048576: true; the input reads as it did. -/
def algebraDeepUptoRow : OpenClaim := { program := "ytbnhmjecjeifdaadoor", sum := "dbd8828a05cd25dff0db2930f762b9f58fade7b0ea59cbeb88e1d603c8e79cbf", func := "querylab/querylablaw04.AlgebraDeep", spec := "algebraDeep", unfollowed := true, recurses := true, named := ["querylab/algebra.operators", "querylab/expression.operations"], apart := false, laid := [("querylab/expression.operations", laid_querylab_expression_operations), ("querylab/algebra.operators", laid_querylab_algebra_operators)], narrowed := true }
def AlgebraDeepUptoSaid : Prop := algebraDeepUptoRow.holds Tryd.pinned (OpenSpec.upto algebraDeepSpec)

end Rows
end Go.Proofs.YtbnhmjecjeifdaaDoor
