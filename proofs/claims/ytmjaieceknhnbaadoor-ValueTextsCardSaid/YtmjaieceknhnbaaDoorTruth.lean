/-
  Truth and Bool of the program, Bool of the reference, for all arguments.
-/
import Derived.Test.YtmjaieceknhnbaaDoorChecked
import Derived.Test.YtmjaieceknhnbaaDoorTail
import Derived.Test.YtmjaieceknhnbaaDoorPlain
import Derived.BigQuiet
namespace Go.Proofs.YtmjaieceknhnbaaDoor
open Go Go.RowKit

theorem Truth_calls (k n : Int) (s : ByteArray) (w : World) :
    Calls Tryd.prog 32 #[.agg #[.int .i64 k, .int .i64 n, .string s]] w fun e w' => e = .returned (.int .i64 (truT k n)) ∧ Cls w w' := by
  go_enter Tryd.func32, Tryd.ntmps32
  go_wp2
  all_goals
    go_ret
    refine ⟨?_, Cls.of ((Below.refl _ _).alloc (Nat.le_refl _) _)⟩
    simp_all [truT]
theorem Bool_calls (n : Int) (w : World) :
    Calls Tryd.prog 61 #[.int .i64 n] w fun e w' => e = .returned (.agg #[.int .i64 (tvK n), .int .i64 (tvN n), .string ⟨#[]⟩]) ∧ Cls w w' := by
  go_enter Tryd.func61, Tryd.ntmps61
  go_wp2
  all_goals
    refine ret_ex rfl ?_
    simp [results, Tryd.results61, go_sem]
    refine ⟨?_, Cls.of ((Below.refl _ _).alloc (Nat.le_refl _) _)⟩
  all_goals simp_all [tvK, tvN]
  all_goals omega
theorem rBool_calls (n : Int) (w : World) :
    Calls Tryd.prog 30 #[.int .i64 n] w fun e w' => e = .returned (.agg #[.int .i64 (tvK n), .int .i64 (tvN n), .string ⟨#[]⟩]) ∧ Cls w w' := by
  go_enter Tryd.func30, Tryd.ntmps30
  go_wp2
  all_goals
    refine ret_ex rfl ?_
    simp [results, Tryd.results30, go_sem]
    refine ⟨?_, Cls.of ((Below.refl _ _).alloc (Nat.le_refl _) _)⟩
  all_goals simp_all [tvK, tvN]
  all_goals omega
end Go.Proofs.YtmjaieceknhnbaaDoor
