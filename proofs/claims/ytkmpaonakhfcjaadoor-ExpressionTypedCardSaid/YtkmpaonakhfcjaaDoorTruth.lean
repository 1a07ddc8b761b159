/-
  Truth and Bool of the program, Bool of the reference, for all arguments.
-/
import Derived.Test.YtkmpaonakhfcjaaDoorChecked
import Derived.Test.YtkmpaonakhfcjaaDoorTail
import Derived.Test.YtkmpaonakhfcjaaDoorPlain
import Derived.BigQuiet
namespace Go.Proofs.YtkmpaonakhfcjaaDoor
open Go Go.RowKit

theorem Truth_calls (k n : Int) (s : ByteArray) (w : World) :
    Calls Tryd.prog 109 #[.agg #[.int .i64 k, .int .i64 n, .string s]] w fun e w' => e = .returned (.int .i64 (truT k n)) ∧ Cls w w' := by
  go_enter Tryd.func109, Tryd.ntmps109
  go_wp2
  all_goals
    go_ret
    refine ⟨?_, Cls.of ((Below.refl _ _).alloc (Nat.le_refl _) _)⟩
    simp_all [truT]
theorem Bool_calls (n : Int) (w : World) :
    Calls Tryd.prog 73 #[.int .i64 n] w fun e w' => e = .returned (.agg #[.int .i64 (tvK n), .int .i64 (tvN n), .string ⟨#[]⟩]) ∧ Cls w w' := by
  go_enter Tryd.func73, Tryd.ntmps73
  go_wp2
  all_goals
    refine ret_ex rfl ?_
    simp [results, Tryd.results73, go_sem]
    refine ⟨?_, Cls.of ((Below.refl _ _).alloc (Nat.le_refl _) _)⟩
  all_goals simp_all [tvK, tvN]
  all_goals omega
theorem rBool_calls (n : Int) (w : World) :
    Calls Tryd.prog 86 #[.int .i64 n] w fun e w' => e = .returned (.agg #[.int .i64 (tvK n), .int .i64 (tvN n), .string ⟨#[]⟩]) ∧ Cls w w' := by
  go_enter Tryd.func86, Tryd.ntmps86
  go_wp2
  all_goals
    refine ret_ex rfl ?_
    simp [results, Tryd.results86, go_sem]
    refine ⟨?_, Cls.of ((Below.refl _ _).alloc (Nat.le_refl _) _)⟩
  all_goals simp_all [tvK, tvN]
  all_goals omega
end Go.Proofs.YtkmpaonakhfcjaaDoor
