/-
  The reference's size of a query.
-/
import Derived.Test.YtonnbmiallammaaDoorQRSizeA
import Derived.Test.YtonnbmiallammaaDoorQRSizeB
import Derived.Test.YtonnbmiallammaaDoorQRSizeC
import Derived.Test.YtonnbmiallammaaDoorQRSizeD
import Derived.Test.YtonnbmiallammaaDoorQRSizeE
set_option linter.unusedVariables false
namespace Go.Proofs.YtonnbmiallammaaDoor
open Go Go.RowKit Go.Deep
theorem rsize_step (p : Qr) (ks : Sl) (kid : Nat → Qy) (ih : ∀ i, RSizeQ (kid i)) : RSizeQ (.mk p ks kid) := by
  by_cases g10 : p.op = 10
  · exact rsize_10 p ks kid ih g10
  by_cases g4 : p.op = 4
  · exact rsize_4 p ks kid ih g4
  by_cases g3 : p.op = 3
  · exact rsize_3 p ks kid ih g3
  by_cases g5 : p.op = 5
  · exact rsize_5 p ks kid ih g5
  exact rsize_no p ks kid ih ⟨g10, g4, g3, g5⟩
theorem rsizeQ_calls : ∀ q : Qy, RSizeQ q := by
  intro q
  induction q with
  | nil => intro w h; cases h
  | mk p ks kid ih => exact rsize_step p ks kid ih
end Go.Proofs.YtonnbmiallammaaDoor
