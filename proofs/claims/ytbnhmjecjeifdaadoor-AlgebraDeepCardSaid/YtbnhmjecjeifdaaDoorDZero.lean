/-
  Which queries have only the fields that their operator uses: isZero, and hasOnly for operators all of whose other fields are zero.
-/
import Derived.Test.YtbnhmjecjeifdaaDoorSame
import Derived.Test.YtbnhmjecjeifdaaDoorQPSize2
set_option linter.unusedVariables false
namespace Go.Proofs.YtbnhmjecjeifdaaDoor
open Go Go.RowKit Go.Deep
theorem isZero_calls (e : Ex) (a : Option Addr) (len cap : Nat) (w : World) (hk : Kids w (fun _ => True) a len cap e.kids) :
    Calls Tryd.prog 149 #[.agg #[.int .i64 e.op, .int .i64 e.ty, .int .i64 e.num, .string e.text, .int .i64 e.col, .slice a len cap]] w fun r w' => r = .returned (.bool (sameE e Ex.z)) ∧ Cls w w' := by
  have C1 : Hid (∀ W, Below w.heap.size w W → Calls Tryd.prog 195 #[.agg #[.int .i64 e.op, .int .i64 e.ty, .int .i64 e.num, .string e.text, .int .i64 e.col, .slice a len cap], .agg #[.int .i64 0, .int .i64 0, .int .i64 0, .string ⟨#[]⟩, .int .i64 0, .slice none 0 0]] W fun r w' => r = .returned (.bool (sameE e Ex.z)) ∧ Cls W w') := Lib.hid (fun W hW => Same_calls e Ex.z a len cap none 0 0 _ (fun _ => True) W (hk.later hW) .none)
  clear hk
  generalize sameE e Ex.z = b at *
  go_enter Tryd.func149, Tryd.ntmps149
  go_wp2_with (go_at_call 195; ((with_reducible refine (C1.out _ ?_).mono ?_); (· (repeat first | with_reducible exact Below.refl _ _ | with_reducible refine Below.setCell ?_ (by first | omega | (simp; done) | (simp; omega)) _ | with_reducible refine Below.alloc ?_ (by first | omega | (simp; done) | (simp; omega)) _ | with_reducible refine Below.drew ?_ | with_reducible refine Ext.on _ ?_ (by first | omega | (simp; done) | (simp; omega)))); rintro r _ ⟨rfl, y, rfl⟩))
  go_ret
  refine ⟨rfl, Cls.of ?_⟩
  repeat first | with_reducible exact Below.refl _ _ | with_reducible refine Below.setCell ?_ (by first | omega | (simp; done) | (simp; omega)) _ | with_reducible refine Below.alloc ?_ (by first | omega | (simp; done) | (simp; omega)) _ | with_reducible refine Below.drew ?_ | with_reducible refine Ext.on _ ?_ (by first | omega | (simp; done) | (simp; omega))
end Go.Proofs.YtbnhmjecjeifdaaDoor
