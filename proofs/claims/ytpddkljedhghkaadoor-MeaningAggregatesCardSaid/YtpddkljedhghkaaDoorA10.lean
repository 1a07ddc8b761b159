/-
  The type of an operation over its Kids' types; depth and size of any expression. A schema and an instance that came in: what they hold, and how many nodes the checks of the schema have.
-/
import Derived.Test.YtpddkljedhghkaaDoorA09
import Derived.Test.YtpddkljedhghkaaDoorRows
import Derived.Test.YtpddkljedhghkaaDoorA05
set_option linter.unusedVariables false
namespace Go.Proofs.YtpddkljedhghkaaDoor
open Go Go.RowKit Go.Deep
end Go.Proofs.YtpddkljedhghkaaDoor
set_option linter.unusedVariables false
namespace Go.Proofs.YtpddkljedhghkaaDoor
open Go Go.RowKit Go.ChangeShapes Go.WideShapes Go.Joins Go.Deep
def vlC (v : Vl) : List Value := [.int .i64 v.k, .int .i64 v.n, .string v.s]
/-- The rows of one table. -/
structure RwsAt (w : World) (s : Sl) (r : Nat → Sl) (f : Nat → Nat → Vl) : Prop where
  rows : SlAt w 1 s (fun k => [(r k).v])
  vals : ∀ k, k < s.len → SlAt w 3 (r k) (fun j => vlC (f k j))
  txt : ∀ k, k < s.len → ∀ j, j < (r k).len → (f k j).s.size ≤ maxLen
theorem RwsAt.later {w w' : World} {s : Sl} {r : Nat → Sl} {f : Nat → Nat → Vl} (h : RwsAt w s r f) (hb : Below w.heap.size w w') : RwsAt w' s r f := ⟨h.rows.later hb, fun k hk => (h.vals k hk).later hb, h.txt⟩
/-- The lists of rows of an instance. -/
structure InsAt (w : World) (s : Sl) (t : Nat → Sl) (r : Nat → Nat → Sl) (f : Nat → Nat → Nat → Vl) : Prop where
  tabs : SlAt w 1 s (fun i => [(t i).v])
  rws : ∀ i, i < s.len → RwsAt w (t i) (r i) (f i)
theorem InsAt.later {w w' : World} {s : Sl} {t : Nat → Sl} {r : Nat → Nat → Sl} {f : Nat → Nat → Nat → Vl} (h : InsAt w s t r f) (hb : Below w.heap.size w w') : InsAt w' s t r f := ⟨h.tabs.later hb, fun i hi => (h.rws i hi).later hb⟩
theorem cellsI3 : Tryd.prog.cellsOf 32 = 1 := by kernel_rfl
theorem cellsI4 : Tryd.prog.cellsOf 39 = 3 := by kernel_rfl
section
variable {H : Type} {enc : TypeId × Value → H} {w : World} {base : Nat} {spare : Nat → Bool} {held : Bool}
end
end Go.Proofs.YtpddkljedhghkaaDoor
