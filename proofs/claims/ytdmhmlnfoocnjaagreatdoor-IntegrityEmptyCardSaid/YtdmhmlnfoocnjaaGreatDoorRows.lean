/-
  NARROWER THAN 'FOR EVERY INPUT', by the rows' own cells (each row's printed sentence says how): IntegrityFinds: laid · IntegrityRaw: loops, laid · IntegrityEmpty: laid · IntegrityGood: laid · IntegrityOrder: laid.
  DERIVED. THE GIVEN ROWS OF THIS SEAT. 5 by the template 'for every input the law returns true; each argument reads behind the call as it read before'; 0 by the template 'total and deterministic' (their statements: YtdmhmlnfoocnjaaGreatDoorTotals.lean).
  GIVEN WITH THE SEED: the statements are not yours to turn. If you find one false, say at which input.
  Laid BY PROGRAM, IN A SANDBOX (cutbox-rows.mjs): the forced cells as the released guide's own fill.sh prints them over the translation 02766d9d11f928ac… (all of the seat's roots in one cut). By AI agents, Wed Nov 11 2026. No macro, syntax, notation, axiom, sorry.
-/
import Derived.Test.YtdmhmlnfoocnjaaGreatDoorChecked
import GoSem.Claim
import GoSem.ClaimJoined
import GoSem.ClaimMapViews
import Derived.JoinedTies
import Derived.KernelRfl
namespace Go.Proofs.YtdmhmlnfoocnjaaGreatDoor
/- THE CELL 'sum', in the pinned program and in every row, IS THE sha256 OF THE DUMP (.gsa) THAT YtdmhmlnfoocnjaaGreatDoorProg.lean LOADS. Nothing in Lean hashes anything: it is a label: what it is worth is what the hold of that sum in a sandbox is worth. -/
noncomputable def Tryz.pinned : Pinned := { name := "ytdmhmlnfoocnjaagreatdoor", sum := "02766d9d11f928ac8b81d211633a5357d9337b279ed747e799bf986d2b6d552e", checked := Tryz.checked }
namespace Rows
def none {H : Type} : Left H := { results := [], args := [] }

/- WHAT THE LISTED PACKAGE-LEVEL VARIABLES READ AS WHEN THE CALL BEGINS. Each datum BY PROGRAM (the guide's laid-datum.mjs) off the statement by which the dump's own 'gosem.cut.vars' lays the variable. In a bare row this is a premise. The card (YtdmhmlnfoocnjaaGreatDoorCards.lean) ties it to the program's text. -/
def laid_querylab_expression_operations {H : Type} : DataW H := .agg [.agg [.lit (.string []), .lit (.int .i64 0), .lit (.int .i64 0), .lit (.int .i64 0), .lit (.int .i64 0)], .agg [.lit (.string []), .lit (.int .i64 0), .lit (.int .i64 0), .lit (.int .i64 0), .lit (.int .i64 0)], .agg [.lit (.string []), .lit (.int .i64 1), .lit (.int .i64 0), .lit (.int .i64 0), .lit (.int .i64 1)], .agg [.lit (.string []), .lit (.int .i64 1), .lit (.int .i64 0), .lit (.int .i64 0), .lit (.int .i64 2)], .agg [.lit (.string []), .lit (.int .i64 2), .lit (.int .i64 0), .lit (.int .i64 0), .lit (.int .i64 3)], .agg [.lit (.string []), .lit (.int .i64 3), .lit (.int .i64 0), .lit (.int .i64 0), .lit (.int .i64 0)], .agg [.lit (.string [97, 100, 100]), .lit (.int .i64 5), .lit (.int .i64 1), .lit (.int .i64 1), .lit (.int .i64 1)], .agg [.lit (.string [115, 117, 98]), .lit (.int .i64 5), .lit (.int .i64 1), .lit (.int .i64 1), .lit (.int .i64 1)], .agg [.lit (.string [109, 117, 108]), .lit (.int .i64 5), .lit (.int .i64 1), .lit (.int .i64 1), .lit (.int .i64 1)], .agg [.lit (.string [100, 105, 118]), .lit (.int .i64 5), .lit (.int .i64 1), .lit (.int .i64 1), .lit (.int .i64 1)], .agg [.lit (.string [109, 111, 100]), .lit (.int .i64 5), .lit (.int .i64 1), .lit (.int .i64 1), .lit (.int .i64 1)], .agg [.lit (.string [110, 101, 103]), .lit (.int .i64 4), .lit (.int .i64 1), .lit (.int .i64 0), .lit (.int .i64 1)], .agg [.lit (.string [99, 111, 110, 99, 97, 116]), .lit (.int .i64 5), .lit (.int .i64 3), .lit (.int .i64 3), .lit (.int .i64 3)], .agg [.lit (.string [108, 101, 110, 103, 116, 104]), .lit (.int .i64 4), .lit (.int .i64 3), .lit (.int .i64 0), .lit (.int .i64 1)], .agg [.lit (.string [101, 113]), .lit (.int .i64 5), .lit (.int .i64 (-1)), .lit (.int .i64 (-1)), .lit (.int .i64 2)], .agg [.lit (.string [110, 101]), .lit (.int .i64 5), .lit (.int .i64 (-1)), .lit (.int .i64 (-1)), .lit (.int .i64 2)], .agg [.lit (.string [108, 116]), .lit (.int .i64 5), .lit (.int .i64 (-1)), .lit (.int .i64 (-1)), .lit (.int .i64 2)], .agg [.lit (.string [108, 101]), .lit (.int .i64 5), .lit (.int .i64 (-1)), .lit (.int .i64 (-1)), .lit (.int .i64 2)], .agg [.lit (.string [103, 116]), .lit (.int .i64 5), .lit (.int .i64 (-1)), .lit (.int .i64 (-1)), .lit (.int .i64 2)], .agg [.lit (.string [103, 101]), .lit (.int .i64 5), .lit (.int .i64 (-1)), .lit (.int .i64 (-1)), .lit (.int .i64 2)], .agg [.lit (.string [115, 97, 109, 101]), .lit (.int .i64 5), .lit (.int .i64 (-1)), .lit (.int .i64 (-1)), .lit (.int .i64 2)], .agg [.lit (.string [105, 115, 110, 117, 108, 108]), .lit (.int .i64 4), .lit (.int .i64 (-1)), .lit (.int .i64 0), .lit (.int .i64 2)], .agg [.lit (.string [97, 110, 100]), .lit (.int .i64 5), .lit (.int .i64 2), .lit (.int .i64 2), .lit (.int .i64 2)], .agg [.lit (.string [111, 114]), .lit (.int .i64 5), .lit (.int .i64 2), .lit (.int .i64 2), .lit (.int .i64 2)], .agg [.lit (.string [110, 111, 116]), .lit (.int .i64 4), .lit (.int .i64 2), .lit (.int .i64 0), .lit (.int .i64 2)], .agg [.lit (.string [105, 115, 116, 114, 117, 101]), .lit (.int .i64 4), .lit (.int .i64 2), .lit (.int .i64 0), .lit (.int .i64 2)], .agg [.lit (.string [99, 97, 115, 101]), .lit (.int .i64 6), .lit (.int .i64 2), .lit (.int .i64 (-1)), .lit (.int .i64 (-1))], .agg [.lit (.string [99, 111, 97, 108, 101, 115, 99, 101]), .lit (.int .i64 5), .lit (.int .i64 (-1)), .lit (.int .i64 (-1)), .lit (.int .i64 (-1))], .agg [.lit (.string [105, 110]), .lit (.int .i64 7), .lit (.int .i64 (-1)), .lit (.int .i64 (-1)), .lit (.int .i64 2)]]

/-- 'querylablaw09.IntegrityFinds': WHATEVER THE INPUT: true; the input reads as it did. -/
def integrityFindsSpec : ChangeSpec := { name := "integrityFinds", fn := fun _ => fun
  | [d] => { results := [.lit (.bool true)], args := [d] }
  | _ => none }
def integrityFindsRow : OpenClaim := { program := "ytdmhmlnfoocnjaagreatdoor", sum := "02766d9d11f928ac8b81d211633a5357d9337b279ed747e799bf986d2b6d552e", func := "querylab/querylablaw09.IntegrityFinds", spec := "integrityFinds", unfollowed := true, recurses := true, named := ["querylab/expression.operations"], plainKeys := false, apart := false, laid := [("querylab/expression.operations", laid_querylab_expression_operations)] }
def IntegrityFindsSaid : Prop := integrityFindsRow.holds Tryz.pinned (OpenSpec.ofChange integrityFindsSpec)

/-- ITS FALSE NEIGHBOUR: 'it returns false'. Refute it at one input. -/
def integrityFindsWrong : ChangeSpec := { name := "integrityFinds", fn := fun _ => fun
  | [d] => { results := [.lit (.bool false)], args := [d] }
  | _ => none }
def IntegrityFindsWrongFalsely : Prop := integrityFindsRow.holds Tryz.pinned (OpenSpec.ofChange integrityFindsWrong)

/-- 'querylablaw09.IntegrityRaw': WHATEVER THE INPUT: true; the input reads as it did. -/
def integrityRawSpec : ChangeSpec := { name := "integrityRaw", fn := fun _ => fun
  | [d1, d2, d3] => { results := [.lit (.bool true)], args := [d1, d2, d3] }
  | _ => none }
def integrityRawRow : OpenClaim := { program := "ytdmhmlnfoocnjaagreatdoor", sum := "02766d9d11f928ac8b81d211633a5357d9337b279ed747e799bf986d2b6d552e", func := "querylab/querylablaw09.IntegrityRaw", spec := "integrityRaw", unfollowed := true, recurses := true, named := ["querylab/expression.operations"], loops := true, plainKeys := false, apart := false, laid := [("querylab/expression.operations", laid_querylab_expression_operations)] }
def IntegrityRawSaid : Prop := integrityRawRow.holds Tryz.pinned (OpenSpec.ofChange integrityRawSpec)

/-- ITS FALSE NEIGHBOUR: 'it returns false'. Refute it at one input. -/
def integrityRawWrong : ChangeSpec := { name := "integrityRaw", fn := fun _ => fun
  | [d1, d2, d3] => { results := [.lit (.bool false)], args := [d1, d2, d3] }
  | _ => none }
def IntegrityRawWrongFalsely : Prop := integrityRawRow.holds Tryz.pinned (OpenSpec.ofChange integrityRawWrong)

/-- 'querylablaw09.IntegrityEmpty': WHATEVER THE INPUT: true; the input reads as it did. -/
def integrityEmptySpec : ChangeSpec := { name := "integrityEmpty", fn := fun _ => fun
  | [d] => { results := [.lit (.bool true)], args := [d] }
  | _ => none }
def integrityEmptyRow : OpenClaim := { program := "ytdmhmlnfoocnjaagreatdoor", sum := "02766d9d11f928ac8b81d211633a5357d9337b279ed747e799bf986d2b6d552e", func := "querylab/querylablaw09.IntegrityEmpty", spec := "integrityEmpty", unfollowed := true, recurses := true, named := ["querylab/expression.operations"], plainKeys := false, apart := false, laid := [("querylab/expression.operations", laid_querylab_expression_operations)] }
def IntegrityEmptySaid : Prop := integrityEmptyRow.holds Tryz.pinned (OpenSpec.ofChange integrityEmptySpec)

/-- ITS FALSE NEIGHBOUR: 'it returns false'. Refute it at one input. -/
def integrityEmptyWrong : ChangeSpec := { name := "integrityEmpty", fn := fun _ => fun
  | [d] => { results := [.lit (.bool false)], args := [d] }
  | _ => none }
def IntegrityEmptyWrongFalsely : Prop := integrityEmptyRow.holds Tryz.pinned (OpenSpec.ofChange integrityEmptyWrong)

/-- 'querylablaw09.IntegrityGood': WHATEVER THE INPUT: true; the input reads as it did. -/
def integrityGoodSpec : ChangeSpec := { name := "integrityGood", fn := fun _ => fun
  | [d] => { results := [.lit (.bool true)], args := [d] }
  | _ => none }
def integrityGoodRow : OpenClaim := { program := "ytdmhmlnfoocnjaagreatdoor", sum := "02766d9d11f928ac8b81d211633a5357d9337b279ed747e799bf986d2b6d552e", func := "querylab/querylablaw09.IntegrityGood", spec := "integrityGood", unfollowed := true, recurses := true, named := ["querylab/expression.operations"], plainKeys := false, apart := false, laid := [("querylab/expression.operations", laid_querylab_expression_operations)] }
def IntegrityGoodSaid : Prop := integrityGoodRow.holds Tryz.pinned (OpenSpec.ofChange integrityGoodSpec)

/-- ITS FALSE NEIGHBOUR: 'it returns false'. Refute it at one input. -/
def integrityGoodWrong : ChangeSpec := { name := "integrityGood", fn := fun _ => fun
  | [d] => { results := [.lit (.bool false)], args := [d] }
  | _ => none }
def IntegrityGoodWrongFalsely : Prop := integrityGoodRow.holds Tryz.pinned (OpenSpec.ofChange integrityGoodWrong)

/-- 'querylablaw09.IntegrityOrder': WHATEVER THE INPUT: true; the input reads as it did. -/
def integrityOrderSpec : ChangeSpec := { name := "integrityOrder", fn := fun _ => fun
  | [d] => { results := [.lit (.bool true)], args := [d] }
  | _ => none }
def integrityOrderRow : OpenClaim := { program := "ytdmhmlnfoocnjaagreatdoor", sum := "02766d9d11f928ac8b81d211633a5357d9337b279ed747e799bf986d2b6d552e", func := "querylab/querylablaw09.IntegrityOrder", spec := "integrityOrder", unfollowed := true, recurses := true, named := ["querylab/expression.operations"], plainKeys := false, apart := false, laid := [("querylab/expression.operations", laid_querylab_expression_operations)] }
def IntegrityOrderSaid : Prop := integrityOrderRow.holds Tryz.pinned (OpenSpec.ofChange integrityOrderSpec)

/-- ITS FALSE NEIGHBOUR: 'it returns false'. Refute it at one input. -/
def integrityOrderWrong : ChangeSpec := { name := "integrityOrder", fn := fun _ => fun
  | [d] => { results := [.lit (.bool false)], args := [d] }
  | _ => none }
def IntegrityOrderWrongFalsely : Prop := integrityOrderRow.holds Tryz.pinned (OpenSpec.ofChange integrityOrderWrong)

/- THE SECOND FORM. 'bulk': how many values and letters a reading holds, each counted each time it is reached (what is shared counts as often as it is met; a slice's spare places count too). A statement '..UptoSaid' is the law's where the arguments, and the package variables that the reading takes, are together of bulk at most 1048576: NARROWER than '..Said'. Prove '..Said' where nothing that the law and all that it calls make is longer than what came in: it says more and counts as full. Else prove '..UptoSaid'. A law counts once. -/
mutual
def uptoBulk {H : Type} : DataW H → Nat
  | .lit (.string bytes) => bytes.length + 1
  | .lit _ => 1
  | .nil => 1
  | .ptr d => uptoBulk d + 1
  | .slice elems spare => uptoBulkAll elems + uptoBulkAll spare + 1
  | .agg parts => uptoBulkAll parts + 1
  | .iface _ d => uptoBulk d + 1
  | .map entries => uptoBulkEntries entries + 1
  | .held _ => 1
def uptoBulkAll {H : Type} : List (DataW H) → Nat
  | [] => 0
  | d :: r => uptoBulk d + uptoBulkAll r
def uptoBulkEntries {H : Type} : List (Lit × DataW H) → Nat
  | [] => 0
  | x :: r => uptoBulkEntry x + uptoBulkEntries r
def uptoBulkEntry {H : Type} : Lit × DataW H → Nat
  | (.string bytes, d) => bytes.length + uptoBulk d + 1
  | (_, d) => uptoBulk d + 1
 end
def uptoSmall : (H : Type) → List (DataW H) → Bool := fun _ ds => decide (uptoBulkAll ds ≤ 1048576)
def OpenSpec.upto (s : _root_.Go.ChangeSpec) : _root_.Go.OpenSpec := { _root_.Go.OpenSpec.ofChange s with cond := some uptoSmall }

/-- 'querylablaw09.IntegrityFinds', WHERE WHAT IT READS IS OF BULK AT MOST 1048576: true; the input reads as it did. -/
def integrityFindsUptoRow : OpenClaim := { program := "ytdmhmlnfoocnjaagreatdoor", sum := "02766d9d11f928ac8b81d211633a5357d9337b279ed747e799bf986d2b6d552e", func := "querylab/querylablaw09.IntegrityFinds", spec := "integrityFinds", unfollowed := true, recurses := true, named := ["querylab/expression.operations"], plainKeys := false, apart := false, laid := [("querylab/expression.operations", laid_querylab_expression_operations)], narrowed := true }
def IntegrityFindsUptoSaid : Prop := integrityFindsUptoRow.holds Tryz.pinned (OpenSpec.upto integrityFindsSpec)

/-- 'querylablaw09.IntegrityRaw', WHERE WHAT IT READS IS OF BULK AT MOST 1048576: true; the input reads as it did. -/
def integrityRawUptoRow : OpenClaim := { program := "ytdmhmlnfoocnjaagreatdoor", sum := "02766d9d11f928ac8b81d211633a5357d9337b279ed747e799bf986d2b6d552e", func := "querylab/querylablaw09.IntegrityRaw", spec := "integrityRaw", unfollowed := true, recurses := true, named := ["querylab/expression.operations"], loops := true, plainKeys := false, apart := false, laid := [("querylab/expression.operations", laid_querylab_expression_operations)], narrowed := true }
def IntegrityRawUptoSaid : Prop := integrityRawUptoRow.holds Tryz.pinned (OpenSpec.upto integrityRawSpec)

/-- 'querylablaw09.IntegrityEmpty', WHERE WHAT IT READS IS OF BULK AT MOST 1048576: true; the input reads as it did. -/
def integrityEmptyUptoRow : OpenClaim := { program := "ytdmhmlnfoocnjaagreatdoor", sum := "02766d9d11f928ac8b81d211633a5357d9337b279ed747e799bf986d2b6d552e", func := "querylab/querylablaw09.IntegrityEmpty", spec := "integrityEmpty", unfollowed := true, recurses := true, named := ["querylab/expression.operations"], plainKeys := false, apart := false, laid := [("querylab/expression.operations", laid_querylab_expression_operations)], narrowed := true }
def IntegrityEmptyUptoSaid : Prop := integrityEmptyUptoRow.holds Tryz.pinned (OpenSpec.upto integrityEmptySpec)

/-- 'querylablaw09.IntegrityGood', WHERE WHAT IT READS IS OF BULK AT MOST 1048576: true; the input reads as it did. -/
def integrityGoodUptoRow : OpenClaim := { program := "ytdmhmlnfoocnjaagreatdoor", sum := "02766d9d11f928ac8b81d211633a5357d9337b279ed747e799bf986d2b6d552e", func := "querylab/querylablaw09.IntegrityGood", spec := "integrityGood", unfollowed := true, recurses := true, named := ["querylab/expression.operations"], plainKeys := false, apart := false, laid := [("querylab/expression.operations", laid_querylab_expression_operations)], narrowed := true }
def IntegrityGoodUptoSaid : Prop := integrityGoodUptoRow.holds Tryz.pinned (OpenSpec.upto integrityGoodSpec)

/-- 'querylablaw09.IntegrityOrder', WHERE WHAT IT READS IS OF BULK AT MOST 1048576: true; the input reads as it did. -/
def integrityOrderUptoRow : OpenClaim := { program := "ytdmhmlnfoocnjaagreatdoor", sum := "02766d9d11f928ac8b81d211633a5357d9337b279ed747e799bf986d2b6d552e", func := "querylab/querylablaw09.IntegrityOrder", spec := "integrityOrder", unfollowed := true, recurses := true, named := ["querylab/expression.operations"], plainKeys := false, apart := false, laid := [("querylab/expression.operations", laid_querylab_expression_operations)], narrowed := true }
def IntegrityOrderUptoSaid : Prop := integrityOrderUptoRow.holds Tryz.pinned (OpenSpec.upto integrityOrderSpec)

end Rows
end Go.Proofs.YtdmhmlnfoocnjaaGreatDoor
