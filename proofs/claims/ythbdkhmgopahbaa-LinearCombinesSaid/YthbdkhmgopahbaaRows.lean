/-
  NARROWER THAN 'FOR EVERY INPUT', by the rows' own cells (each row's printed sentence says how): IntegralProofs: loops.
  DERIVED. THE GIVEN ROWS OF THIS SEAT. 4 by the template 'for every input the law returns true; each argument reads behind the call as it read before'; 0 by the template 'total and deterministic' (their statements: YthbdkhmgopahbaaTotals.lean).
  GIVEN WITH THE SEED: the statements are not yours to turn. If you find one false, say at which input.
  Laid BY PROGRAM, IN A SANDBOX (cutbox-rows.mjs): the forced cells as the released guide's own fill.sh prints them over the translation 92fc60f7c8724c94… (all of the seat's roots in one cut). By AI agents, Wed Nov 11 2026. No macro, syntax, notation, axiom, sorry.
-/
import Derived.Test.YthbdkhmgopahbaaChecked
import GoSem.Claim
import GoSem.ClaimJoined
import GoSem.ClaimMapViews
import Derived.JoinedTies
import Derived.KernelRfl
namespace Go.Proofs.Ythbdkhmgopahbaa
/- THE CELL 'sum', in the pinned program and in every row, IS THE sha256 OF THE DUMP (.gsa) THAT YthbdkhmgopahbaaProg.lean LOADS. Nothing in Lean hashes anything: it is a label: what it is worth is what the hold of that sum in a sandbox is worth. -/
noncomputable def Try.pinned : Pinned := { name := "ythbdkhmgopahbaa", sum := "92fc60f7c8724c94f0c0f3fe3cfb4f2f5887ba0772f9b5acde56e98565d9030a", checked := Try.checked }
namespace Rows
def none {H : Type} : Left H := { results := [], args := [] }

/-- 'querylablaw11.LinearCombines': WHATEVER THE INPUT: true; the input reads as it did. -/
def linearCombinesSpec : ChangeSpec := { name := "linearCombines", fn := fun _ => fun
  | [d1, d2, d3] => { results := [.lit (.bool true)], args := [d1, d2, d3] }
  | _ => none }
def linearCombinesRow : OpenClaim := { program := "ythbdkhmgopahbaa", sum := "92fc60f7c8724c94f0c0f3fe3cfb4f2f5887ba0772f9b5acde56e98565d9030a", func := "querylab/querylablaw11.LinearCombines", spec := "linearCombines", inPlace := ["math/bits.Add64", "math/bits.Sub64"], unfollowed := true, recurses := true, named := ["math/bits.divideError", "math/bits.overflowError"], apart := false }
def LinearCombinesSaid : Prop := linearCombinesRow.holds Try.pinned (OpenSpec.ofChange linearCombinesSpec)

/-- ITS FALSE NEIGHBOUR: 'it returns false'. Refute it at one input. -/
def linearCombinesWrong : ChangeSpec := { name := "linearCombines", fn := fun _ => fun
  | [d1, d2, d3] => { results := [.lit (.bool false)], args := [d1, d2, d3] }
  | _ => none }
def LinearCombinesWrongFalsely : Prop := linearCombinesRow.holds Try.pinned (OpenSpec.ofChange linearCombinesWrong)

/-- 'querylablaw11.LinearRaw': WHATEVER THE INPUT: true; the input reads as it did. -/
def linearRawSpec : ChangeSpec := { name := "linearRaw", fn := fun _ => fun
  | [d1, d2, d3, d4] => { results := [.lit (.bool true)], args := [d1, d2, d3, d4] }
  | _ => none }
def linearRawRow : OpenClaim := { program := "ythbdkhmgopahbaa", sum := "92fc60f7c8724c94f0c0f3fe3cfb4f2f5887ba0772f9b5acde56e98565d9030a", func := "querylab/querylablaw11.LinearRaw", spec := "linearRaw", inPlace := ["math/bits.Add64", "math/bits.Sub64"], unfollowed := true, recurses := true, named := ["math/bits.divideError", "math/bits.overflowError"], apart := false }
def LinearRawSaid : Prop := linearRawRow.holds Try.pinned (OpenSpec.ofChange linearRawSpec)

/-- ITS FALSE NEIGHBOUR: 'it returns false'. Refute it at one input. -/
def linearRawWrong : ChangeSpec := { name := "linearRaw", fn := fun _ => fun
  | [d1, d2, d3, d4] => { results := [.lit (.bool false)], args := [d1, d2, d3, d4] }
  | _ => none }
def LinearRawWrongFalsely : Prop := linearRawRow.holds Try.pinned (OpenSpec.ofChange linearRawWrong)

/-- 'querylablaw12.IntegralChecks': WHATEVER THE INPUT: true; the input reads as it did. -/
def integralChecksSpec : ChangeSpec := { name := "integralChecks", fn := fun _ => fun
  | [d1, d2] => { results := [.lit (.bool true)], args := [d1, d2] }
  | _ => none }
def integralChecksRow : OpenClaim := { program := "ythbdkhmgopahbaa", sum := "92fc60f7c8724c94f0c0f3fe3cfb4f2f5887ba0772f9b5acde56e98565d9030a", func := "querylab/querylablaw12.IntegralChecks", spec := "integralChecks", inPlace := ["math/bits.Add64", "math/bits.Sub64"], unfollowed := true, recurses := true, named := ["math/bits.divideError", "math/bits.overflowError"], apart := false }
def IntegralChecksSaid : Prop := integralChecksRow.holds Try.pinned (OpenSpec.ofChange integralChecksSpec)

/-- ITS FALSE NEIGHBOUR: 'it returns false'. Refute it at one input. -/
def integralChecksWrong : ChangeSpec := { name := "integralChecks", fn := fun _ => fun
  | [d1, d2] => { results := [.lit (.bool false)], args := [d1, d2] }
  | _ => none }
def IntegralChecksWrongFalsely : Prop := integralChecksRow.holds Try.pinned (OpenSpec.ofChange integralChecksWrong)

/-- 'querylablaw12.IntegralProofs': WHATEVER THE INPUT: true; the input reads as it did. -/
def integralProofsSpec : ChangeSpec := { name := "integralProofs", fn := fun _ => fun
  | [d1, d2] => { results := [.lit (.bool true)], args := [d1, d2] }
  | _ => none }
def integralProofsRow : OpenClaim := { program := "ythbdkhmgopahbaa", sum := "92fc60f7c8724c94f0c0f3fe3cfb4f2f5887ba0772f9b5acde56e98565d9030a", func := "querylab/querylablaw12.IntegralProofs", spec := "integralProofs", inPlace := ["math/bits.Add64", "math/bits.Sub64"], unfollowed := true, recurses := true, named := ["math/bits.divideError", "math/bits.overflowError"], loops := true, apart := false }
def IntegralProofsSaid : Prop := integralProofsRow.holds Try.pinned (OpenSpec.ofChange integralProofsSpec)

/-- ITS FALSE NEIGHBOUR: 'it returns false'. Refute it at one input. -/
def integralProofsWrong : ChangeSpec := { name := "integralProofs", fn := fun _ => fun
  | [d1, d2] => { results := [.lit (.bool false)], args := [d1, d2] }
  | _ => none }
def IntegralProofsWrongFalsely : Prop := integralProofsRow.holds Try.pinned (OpenSpec.ofChange integralProofsWrong)

/- THE SECOND FORM. 'bulk': how many values and letters a reading holds, each counted each time it is reached (what is shared counts as often as it is met; a slice's spare places count too). A statement '..UptoSaid' is the law's where the arguments, and the package variables that the reading takes, are together of bulk at most 1048576: NARROWER than '..Said'. Prove '..Said' where nothing that the law and all that it calls make is longer than what came in: it says more and counts as full. Else prove '..UptoSaid'. A law counts once. -/
mutual
def uptoBulk {H : Type} : DataW H → Nat
  | .lit (.string bytes) => bytes.length + 1
  | .lit _ => 1
  | .nil => 1
  | .ptr d => uptoBulk d + 1
  | .slice elems spare => uptoBulkAll elems + uptoBulkAll spare + 1
  | .agg parts => uptoBulkAll parts + 1
  | .iface _ d => uptoBulk d + 1
  | .map entries => uptoBulkEntries entries + 1
  | .held _ => 1
def uptoBulkAll {H : Type} : List (DataW H) → Nat
  | [] => 0
  | d :: r => uptoBulk d + uptoBulkAll r
def uptoBulkEntries {H : Type} : List (Lit × DataW H) → Nat
  | [] => 0
  | x :: r => uptoBulkEntry x + uptoBulkEntries r
def uptoBulkEntry {H : Type} : Lit × DataW H → Nat
  | (.string bytes, d) => bytes.length + uptoBulk d + 1
  | (_, d) => uptoBulk d + 1
 end
def uptoSmall : (H : Type) → List (DataW H) → Bool := fun _ ds => decide (uptoBulkAll ds ≤ 1048576)
def OpenSpec.upto (s : _root_.Go.ChangeSpec) : _root_.Go.OpenSpec := { _root_.Go.OpenSpec.ofChange s with cond := some uptoSmall }

/-- 'querylablaw11.LinearCombines', WHERE WHAT IT READS IS OF BULK AT MOST 1048576: true; the input reads as it did. -/
def linearCombinesUptoRow : OpenClaim := { program := "ythbdkhmgopahbaa", sum := "92fc60f7c8724c94f0c0f3fe3cfb4f2f5887ba0772f9b5acde56e98565d9030a", func := "querylab/querylablaw11.LinearCombines", spec := "linearCombines", inPlace := ["math/bits.Add64", "math/bits.Sub64"], unfollowed := true, recurses := true, named := ["math/bits.divideError", "math/bits.overflowError"], apart := false, narrowed := true }
def LinearCombinesUptoSaid : Prop := linearCombinesUptoRow.holds Try.pinned (OpenSpec.upto linearCombinesSpec)

/-- 'querylablaw11.LinearRaw', WHERE WHAT IT READS IS OF BULK AT MOST 1048576: true; the input reads as it did. -/
def linearRawUptoRow : OpenClaim := { program := "ythbdkhmgopahbaa", sum := "92fc60f7c8724c94f0c0f3fe3cfb4f2f5887ba0772f9b5acde56e98565d9030a", func := "querylab/querylablaw11.LinearRaw", spec := "linearRaw", inPlace := ["math/bits.Add64", "math/bits.Sub64"], unfollowed := true, recurses := true, named := ["math/bits.divideError", "math/bits.overflowError"], apart := false, narrowed := true }
def LinearRawUptoSaid : Prop := linearRawUptoRow.holds Try.pinned (OpenSpec.upto linearRawSpec)

/-- 'querylablaw12.IntegralChecks', WHERE WHAT IT READS IS OF BULK AT MOST 1048576: true; the input reads as it did. -/
def integralChecksUptoRow : OpenClaim := { program := "ythbdkhmgopahbaa", sum := "92fc60f7c8724c94f0c0f3fe3cfb4f2f5887ba0772f9b5acde56e98565d9030a", func := "querylab/querylablaw12.IntegralChecks", spec := "integralChecks", inPlace := ["math/bits.Add64", "math/bits.Sub64"], unfollowed := true, recurses := true, named := ["math/bits.divideError", "math/bits.overflowError"], apart := false, narrowed := true }
def IntegralChecksUptoSaid : Prop := integralChecksUptoRow.holds Try.pinned (OpenSpec.upto integralChecksSpec)

/-- 'querylablaw12.IntegralProofs', WHERE WHAT IT READS IS OF BULK AT MOST 1048576: true; the input reads as it did. -/
def integralProofsUptoRow : OpenClaim := { program := "ythbdkhmgopahbaa", sum := "92fc60f7c8724c94f0c0f3fe3cfb4f2f5887ba0772f9b5acde56e98565d9030a", func := "querylab/querylablaw12.IntegralProofs", spec := "integralProofs", inPlace := ["math/bits.Add64", "math/bits.Sub64"], unfollowed := true, recurses := true, named := ["math/bits.divideError", "math/bits.overflowError"], loops := true, apart := false, narrowed := true }
def IntegralProofsUptoSaid : Prop := integralProofsUptoRow.holds Try.pinned (OpenSpec.upto integralProofsSpec)

end Rows
end Go.Proofs.Ythbdkhmgopahbaa
