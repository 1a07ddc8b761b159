/-
  What lies in blocks that were just made.
-/
import Derived.Test.YtogjollefllajaaFCmp
set_option linter.unusedVariables false
namespace Go.Proofs.Ytogjollefllajaa
open Go Go.RowKit Go.Deep
theorem new_at1 (w : World) (o : Obj) (cs : Array Value) (t t' : TypeId) : ((w.alloc o).alloc (.cells cs t)).heap[w.heap.size + 1]? = some (.cells cs t) := by
  have := heap_alloc_new (w.alloc o) (.cells cs t)
  simpa using this
end Go.Proofs.Ytogjollefllajaa
