/-
  What lies in blocks that were just made.
-/
import Derived.Test.YtogjollefllajaaDoorFCmp
set_option linter.unusedVariables false
namespace Go.Proofs.YtogjollefllajaaDoor
open Go Go.RowKit Go.Deep
theorem new_at1 (w : World) (o : Obj) (cs : Array Value) (t t' : TypeId) : ((w.alloc o).alloc (.cells cs t)).heap[w.heap.size + 1]? = some (.cells cs t) := by
  have := heap_alloc_new (w.alloc o) (.cells cs t)
  simpa using this
end Go.Proofs.YtogjollefllajaaDoor
