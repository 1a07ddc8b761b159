/-
  No cell of these rows narrows 'for every input' (looked for: loops, veiled, ifaces, maps, wideKeys, modest, calm, conditions, laid).
  DERIVED. THE GIVEN ROWS OF THIS SEAT. 7 by the template 'for every input the law returns true; each argument reads behind the call as it read before'; 0 by the template 'total and deterministic' (their statements: YtgmpdngolpkjjaaTotals.lean).
  GIVEN WITH THE SEED: the statements are not yours to turn. If you find one false, say at which input.
  Laid BY PROGRAM, IN A SANDBOX (cutbox-rows.mjs): the forced cells as the released guide's own fill.sh prints them over the translation 6b468bf691b6ffeb… (all of the seat's roots in one cut). By AI agents, Wed Nov 11 2026. No macro, syntax, notation, axiom, sorry.
-/
import Derived.Test.YtgmpdngolpkjjaaChecked
import GoSem.Claim
import GoSem.ClaimJoined
import GoSem.ClaimMapViews
import Derived.JoinedTies
import Derived.KernelRfl
namespace Go.Proofs.Ytgmpdngolpkjjaa
/- THE CELL 'sum', in the pinned program and in every row, IS THE sha256 OF THE DUMP (.gsa) THAT YtgmpdngolpkjjaaProg.lean LOADS. Nothing in Lean hashes anything: it is a label: what it is worth is what the hold of that sum in a sandbox is worth. -/
noncomputable def Try.pinned : Pinned := { name := "ytgmpdngolpkjjaa", sum := "6b468bf691b6ffebfe09c842090b36da6fced8cb5ac0c4e2355ddb8e268d68b5", checked := Try.checked }
namespace Rows
def none {H : Type} : Left H := { results := [], args := [] }

/-- 'querylablaw01.ValueCompares': WHATEVER THE INPUT: true; the input reads as it did. -/
def valueComparesSpec : ChangeSpec := { name := "valueCompares", fn := fun _ => fun
  | [d1, d2, d3] => { results := [.lit (.bool true)], args := [d1, d2, d3] }
  | _ => none }
def valueComparesRow : OpenClaim := { program := "ytgmpdngolpkjjaa", sum := "6b468bf691b6ffebfe09c842090b36da6fced8cb5ac0c4e2355ddb8e268d68b5", func := "querylab/querylablaw01.ValueCompares", spec := "valueCompares", unfollowed := true, recurses := true, apart := false }
def ValueComparesSaid : Prop := valueComparesRow.holds Try.pinned (OpenSpec.ofChange valueComparesSpec)

/-- ITS FALSE NEIGHBOUR: 'it returns false'. Refute it at one input. -/
def valueComparesWrong : ChangeSpec := { name := "valueCompares", fn := fun _ => fun
  | [d1, d2, d3] => { results := [.lit (.bool false)], args := [d1, d2, d3] }
  | _ => none }
def ValueComparesWrongFalsely : Prop := valueComparesRow.holds Try.pinned (OpenSpec.ofChange valueComparesWrong)

/-- 'querylablaw01.ValueRows': WHATEVER THE INPUT: true; the input reads as it did. -/
def valueRowsSpec : ChangeSpec := { name := "valueRows", fn := fun _ => fun
  | [d1, d2] => { results := [.lit (.bool true)], args := [d1, d2] }
  | _ => none }
def valueRowsRow : OpenClaim := { program := "ytgmpdngolpkjjaa", sum := "6b468bf691b6ffebfe09c842090b36da6fced8cb5ac0c4e2355ddb8e268d68b5", func := "querylab/querylablaw01.ValueRows", spec := "valueRows", apart := false }
def ValueRowsSaid : Prop := valueRowsRow.holds Try.pinned (OpenSpec.ofChange valueRowsSpec)

/-- ITS FALSE NEIGHBOUR: 'it returns false'. Refute it at one input. -/
def valueRowsWrong : ChangeSpec := { name := "valueRows", fn := fun _ => fun
  | [d1, d2] => { results := [.lit (.bool false)], args := [d1, d2] }
  | _ => none }
def ValueRowsWrongFalsely : Prop := valueRowsRow.holds Try.pinned (OpenSpec.ofChange valueRowsWrong)

/-- 'querylablaw01.ValueLogic': WHATEVER THE INPUT: true; the input reads as it did. -/
def valueLogicSpec : ChangeSpec := { name := "valueLogic", fn := fun _ => fun
  | [d1, d2, d3] => { results := [.lit (.bool true)], args := [d1, d2, d3] }
  | _ => none }
def valueLogicRow : OpenClaim := { program := "ytgmpdngolpkjjaa", sum := "6b468bf691b6ffebfe09c842090b36da6fced8cb5ac0c4e2355ddb8e268d68b5", func := "querylab/querylablaw01.ValueLogic", spec := "valueLogic", apart := false }
def ValueLogicSaid : Prop := valueLogicRow.holds Try.pinned (OpenSpec.ofChange valueLogicSpec)

/-- ITS FALSE NEIGHBOUR: 'it returns false'. Refute it at one input. -/
def valueLogicWrong : ChangeSpec := { name := "valueLogic", fn := fun _ => fun
  | [d1, d2, d3] => { results := [.lit (.bool false)], args := [d1, d2, d3] }
  | _ => none }
def ValueLogicWrongFalsely : Prop := valueLogicRow.holds Try.pinned (OpenSpec.ofChange valueLogicWrong)

/-- 'querylablaw01.ValueDuals': WHATEVER THE INPUT: true; the input reads as it did. -/
def valueDualsSpec : ChangeSpec := { name := "valueDuals", fn := fun _ => fun
  | [d1, d2, d3] => { results := [.lit (.bool true)], args := [d1, d2, d3] }
  | _ => none }
def valueDualsRow : OpenClaim := { program := "ytgmpdngolpkjjaa", sum := "6b468bf691b6ffebfe09c842090b36da6fced8cb5ac0c4e2355ddb8e268d68b5", func := "querylab/querylablaw01.ValueDuals", spec := "valueDuals", apart := false }
def ValueDualsSaid : Prop := valueDualsRow.holds Try.pinned (OpenSpec.ofChange valueDualsSpec)

/-- ITS FALSE NEIGHBOUR: 'it returns false'. Refute it at one input. -/
def valueDualsWrong : ChangeSpec := { name := "valueDuals", fn := fun _ => fun
  | [d1, d2, d3] => { results := [.lit (.bool false)], args := [d1, d2, d3] }
  | _ => none }
def ValueDualsWrongFalsely : Prop := valueDualsRow.holds Try.pinned (OpenSpec.ofChange valueDualsWrong)

/-- 'querylablaw01.ValueMonotone': WHATEVER THE INPUT: true; the input reads as it did. -/
def valueMonotoneSpec : ChangeSpec := { name := "valueMonotone", fn := fun _ => fun
  | [d1, d2] => { results := [.lit (.bool true)], args := [d1, d2] }
  | _ => none }
def valueMonotoneRow : OpenClaim := { program := "ytgmpdngolpkjjaa", sum := "6b468bf691b6ffebfe09c842090b36da6fced8cb5ac0c4e2355ddb8e268d68b5", func := "querylab/querylablaw01.ValueMonotone", spec := "valueMonotone", apart := false }
def ValueMonotoneSaid : Prop := valueMonotoneRow.holds Try.pinned (OpenSpec.ofChange valueMonotoneSpec)

/-- ITS FALSE NEIGHBOUR: 'it returns false'. Refute it at one input. -/
def valueMonotoneWrong : ChangeSpec := { name := "valueMonotone", fn := fun _ => fun
  | [d1, d2] => { results := [.lit (.bool false)], args := [d1, d2] }
  | _ => none }
def ValueMonotoneWrongFalsely : Prop := valueMonotoneRow.holds Try.pinned (OpenSpec.ofChange valueMonotoneWrong)

/-- 'querylablaw01.ValueArith': WHATEVER THE INPUT: true; the input reads as it did. -/
def valueArithSpec : ChangeSpec := { name := "valueArith", fn := fun _ => fun
  | [d1, d2, d3] => { results := [.lit (.bool true)], args := [d1, d2, d3] }
  | _ => none }
def valueArithRow : OpenClaim := { program := "ytgmpdngolpkjjaa", sum := "6b468bf691b6ffebfe09c842090b36da6fced8cb5ac0c4e2355ddb8e268d68b5", func := "querylab/querylablaw01.ValueArith", spec := "valueArith", unfollowed := true, recurses := true, apart := false }
def ValueArithSaid : Prop := valueArithRow.holds Try.pinned (OpenSpec.ofChange valueArithSpec)

/-- ITS FALSE NEIGHBOUR: 'it returns false'. Refute it at one input. -/
def valueArithWrong : ChangeSpec := { name := "valueArith", fn := fun _ => fun
  | [d1, d2, d3] => { results := [.lit (.bool false)], args := [d1, d2, d3] }
  | _ => none }
def ValueArithWrongFalsely : Prop := valueArithRow.holds Try.pinned (OpenSpec.ofChange valueArithWrong)

/-- 'querylablaw01.ValueDivides': WHATEVER THE INPUT: true; the input reads as it did. -/
def valueDividesSpec : ChangeSpec := { name := "valueDivides", fn := fun _ => fun
  | [d1, d2] => { results := [.lit (.bool true)], args := [d1, d2] }
  | _ => none }
def valueDividesRow : OpenClaim := { program := "ytgmpdngolpkjjaa", sum := "6b468bf691b6ffebfe09c842090b36da6fced8cb5ac0c4e2355ddb8e268d68b5", func := "querylab/querylablaw01.ValueDivides", spec := "valueDivides", unfollowed := true, recurses := true, apart := false }
def ValueDividesSaid : Prop := valueDividesRow.holds Try.pinned (OpenSpec.ofChange valueDividesSpec)

/-- ITS FALSE NEIGHBOUR: 'it returns false'. Refute it at one input. -/
def valueDividesWrong : ChangeSpec := { name := "valueDivides", fn := fun _ => fun
  | [d1, d2] => { results := [.lit (.bool false)], args := [d1, d2] }
  | _ => none }
def ValueDividesWrongFalsely : Prop := valueDividesRow.holds Try.pinned (OpenSpec.ofChange valueDividesWrong)

/- THE SECOND FORM. 'bulk': how many values and letters a reading holds, each counted each time it is reached (what is shared counts as often as it is met; a slice's spare places count too). A statement '..UptoSaid' is the law's where the arguments, and the package variables that the reading takes, are together of bulk at most 1048576: NARROWER than '..Said'. Prove '..Said' where nothing that the law and all that it calls make is longer than what came in: it says more and counts as full. Else prove '..UptoSaid'. A law counts once. -/
mutual
def uptoBulk {H : Type} : DataW H → Nat
  | .lit (.string bytes) => bytes.length + 1
  | .lit _ => 1
  | .nil => 1
  | .ptr d => uptoBulk d + 1
  | .slice elems spare => uptoBulkAll elems + uptoBulkAll spare + 1
  | .agg parts => uptoBulkAll parts + 1
  | .iface _ d => uptoBulk d + 1
  | .map entries => uptoBulkEntries entries + 1
  | .held _ => 1
def uptoBulkAll {H : Type} : List (DataW H) → Nat
  | [] => 0
  | d :: r => uptoBulk d + uptoBulkAll r
def uptoBulkEntries {H : Type} : List (Lit × DataW H) → Nat
  | [] => 0
  | x :: r => uptoBulkEntry x + uptoBulkEntries r
def uptoBulkEntry {H : Type} : Lit × DataW H → Nat
  | (.string bytes, d) => bytes.length + uptoBulk d + 1
  | (_, d) => uptoBulk d + 1
 end
def uptoSmall : (H : Type) → List (DataW H) → Bool := fun _ ds => decide (uptoBulkAll ds ≤ 1048576)
def OpenSpec.upto (s : _root_.Go.ChangeSpec) : _root_.Go.OpenSpec := { _root_.Go.OpenSpec.ofChange s with cond := some uptoSmall }

/-- 'querylablaw01.ValueCompares', WHERE WHAT IT READS IS OF BULK AT MOST 1048576: true; the input reads as it did. -/
def valueComparesUptoRow : OpenClaim := { program := "ytgmpdngolpkjjaa", sum := "6b468bf691b6ffebfe09c842090b36da6fced8cb5ac0c4e2355ddb8e268d68b5", func := "querylab/querylablaw01.ValueCompares", spec := "valueCompares", unfollowed := true, recurses := true, apart := false, narrowed := true }
def ValueComparesUptoSaid : Prop := valueComparesUptoRow.holds Try.pinned (OpenSpec.upto valueComparesSpec)

/-- 'querylablaw01.ValueRows', WHERE WHAT IT READS IS OF BULK AT MOST 1048576: true; the input reads as it did. -/
def valueRowsUptoRow : OpenClaim := { program := "ytgmpdngolpkjjaa", sum := "6b468bf691b6ffebfe09c842090b36da6fced8cb5ac0c4e2355ddb8e268d68b5", func := "querylab/querylablaw01.ValueRows", spec := "valueRows", apart := false, narrowed := true }
def ValueRowsUptoSaid : Prop := valueRowsUptoRow.holds Try.pinned (OpenSpec.upto valueRowsSpec)

/-- 'querylablaw01.ValueLogic', WHERE WHAT IT READS IS OF BULK AT MOST 1048576: true; the input reads as it did. -/
def valueLogicUptoRow : OpenClaim := { program := "ytgmpdngolpkjjaa", sum := "6b468bf691b6ffebfe09c842090b36da6fced8cb5ac0c4e2355ddb8e268d68b5", func := "querylab/querylablaw01.ValueLogic", spec := "valueLogic", apart := false, narrowed := true }
def ValueLogicUptoSaid : Prop := valueLogicUptoRow.holds Try.pinned (OpenSpec.upto valueLogicSpec)

/-- 'querylablaw01.ValueDuals', WHERE WHAT IT READS IS OF BULK AT MOST 1048576: true; the input reads as it did. -/
def valueDualsUptoRow : OpenClaim := { program := "ytgmpdngolpkjjaa", sum := "6b468bf691b6ffebfe09c842090b36da6fced8cb5ac0c4e2355ddb8e268d68b5", func := "querylab/querylablaw01.ValueDuals", spec := "valueDuals", apart := false, narrowed := true }
def ValueDualsUptoSaid : Prop := valueDualsUptoRow.holds Try.pinned (OpenSpec.upto valueDualsSpec)

/-- 'querylablaw01.ValueMonotone', WHERE WHAT IT READS IS OF BULK AT MOST 1048576: true; the input reads as it did. -/
def valueMonotoneUptoRow : OpenClaim := { program := "ytgmpdngolpkjjaa", sum := "6b468bf691b6ffebfe09c842090b36da6fced8cb5ac0c4e2355ddb8e268d68b5", func := "querylab/querylablaw01.ValueMonotone", spec := "valueMonotone", apart := false, narrowed := true }
def ValueMonotoneUptoSaid : Prop := valueMonotoneUptoRow.holds Try.pinned (OpenSpec.upto valueMonotoneSpec)

/-- 'querylablaw01.ValueArith', WHERE WHAT IT READS IS OF BULK AT MOST 1048576: true; the input reads as it did. -/
def valueArithUptoRow : OpenClaim := { program := "ytgmpdngolpkjjaa", sum := "6b468bf691b6ffebfe09c842090b36da6fced8cb5ac0c4e2355ddb8e268d68b5", func := "querylab/querylablaw01.ValueArith", spec := "valueArith", unfollowed := true, recurses := true, apart := false, narrowed := true }
def ValueArithUptoSaid : Prop := valueArithUptoRow.holds Try.pinned (OpenSpec.upto valueArithSpec)

/-- 'querylablaw01.ValueDivides', WHERE WHAT IT READS IS OF BULK AT MOST 1048576: true; the input reads as it did. -/
def valueDividesUptoRow : OpenClaim := { program := "ytgmpdngolpkjjaa", sum := "6b468bf691b6ffebfe09c842090b36da6fced8cb5ac0c4e2355ddb8e268d68b5", func := "querylab/querylablaw01.ValueDivides", spec := "valueDivides", unfollowed := true, recurses := true, apart := false, narrowed := true }
def ValueDividesUptoSaid : Prop := valueDividesUptoRow.holds Try.pinned (OpenSpec.upto valueDividesSpec)

end Rows
end Go.Proofs.Ytgmpdngolpkjjaa
