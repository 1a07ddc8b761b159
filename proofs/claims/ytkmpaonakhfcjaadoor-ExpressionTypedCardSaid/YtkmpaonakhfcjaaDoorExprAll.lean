/-
  The tape's Expr, whatever the type and the depth.
-/
import Derived.Test.YtkmpaonakhfcjaaDoorExprA
import Derived.Test.YtkmpaonakhfcjaaDoorExprB
import Derived.Test.YtkmpaonakhfcjaaDoorExprC
set_option linter.unusedVariables false
namespace Go.Proofs.YtkmpaonakhfcjaaDoor
open Go Go.RowKit Go.Deep
def bud : Nat → Nat
  | 0 => 2
  | 1 => 2
  | d + 2 => 10 + 4 * bud (d + 1)
theorem Expr_of : ∀ d : Nat, d ≤ 100 → ExprOf d (bud d)
  | 0, _ => fun T m ty k a len cap w h ht hk hm hlen => expr_low 0 (by omega) T m ty k a len cap w h ht hk hm hlen
  | 1, _ => fun T m ty k a len cap w h ht hk hm hlen => expr_low 1 (by omega) T m ty k a len cap w h ht hk hm hlen
  | d + 2, hd => fun T m ty k a len cap w h ht hk hm hlen => by
    have ih := Expr_of (d + 1) (by omega)
    have e : (((d + 2 : Nat)) : Int) = ((d + 1 : Nat) : Int) + 1 := by omega
    rw [e]
    have hb : bud (d + 2) = 10 + 4 * bud (d + 1) := rfl
    rw [hb] at hm ⊢
    rcases hk with rfl | rfl | rfl
    · exact expr_high1 (d + 1) (bud (d + 1)) ih (by omega) (by omega) T m ty a len cap w h ht hm hlen
    · exact expr_high2 (d + 1) (bud (d + 1)) ih (by omega) (by omega) T m ty a len cap w h ht hm hlen
    · exact expr_high3 (d + 1) (bud (d + 1)) ih (by omega) (by omega) T m ty a len cap w h ht hm hlen
end Go.Proofs.YtkmpaonakhfcjaaDoor
