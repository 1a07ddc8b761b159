/-
  The walk of the law ValueDuals where the truth of the first value is 1.
-/
import Derived.Test.YtgmpdngolpkjjaaLogic
set_option linter.unusedVariables false
namespace Go.Proofs.Ytgmpdngolpkjjaa
open Go Go.RowKit
attribute [local go_sem] tvK tvN andT orT notT truT_yes truT_no truT_null
set_option maxHeartbeats 8000000 in
set_option maxRecDepth 100000 in
theorem valueDuals_1 (k n : Int) (s : ByteArray) (k' n' : Int) (s' : ByteArray) (k2 n2 : Int) (s2 : ByteArray) (w : World) (h : truT k n = 1) :
    Calls Try.prog 6 #[.agg #[.int .i64 k, .int .i64 n, .string s], .agg #[.int .i64 k', .int .i64 n', .string s'], .agg #[.int .i64 k2, .int .i64 n2, .string s2]] w fun e w' => e = .returned (.bool true) ∧ Below w.heap.size w w' := by
  rcases truT_cases k' n' with h' | h' | h' <;> rcases truT_cases k2 n2 with h2 | h2 | h2
  all_goals as_aux_lemma =>
    go_enter Try.func6, Try.ntmps6
    go_wp2_with fail
    refine wp_region_ext (by kernel_rfl) (by kernel_rfl) ?_
    repeat (go_big_quiet_step (first | (go_at_call 18; exact Cls.call (Truth_calls _ _ _ _)) | (go_at_call 20; exact Cls.call (Bool_calls _ _)) | (go_at_call 26; exact Cls.call (And_calls _ _ _ _ _ _ _)) | (go_at_call 28; exact Cls.call (Or_calls _ _ _ _ _ _ _)) | (go_at_call 30; exact Cls.call (Not_calls _ _ _ _)) | (go_at_call 19; exact Cls.call (rTruth_calls _ _ _ _)) | (go_at_call 21; exact Cls.call (rBool_calls _ _))))
    refine wpQuiet_nil ?_
    rintro _ ⟨x, rfl⟩
    go_wp2_with fail
    refine wp_region_on (by kernel_rfl) (by kernel_rfl) ?_
    repeat (go_big_quiet_step (first | (go_at_call 18; exact Cls.call (Truth_calls _ _ _ _)) | (go_at_call 20; exact Cls.call (Bool_calls _ _)) | (go_at_call 26; exact Cls.call (And_calls _ _ _ _ _ _ _)) | (go_at_call 28; exact Cls.call (Or_calls _ _ _ _ _ _ _)) | (go_at_call 30; exact Cls.call (Not_calls _ _ _ _)) | (go_at_call 19; exact Cls.call (rTruth_calls _ _ _ _)) | (go_at_call 21; exact Cls.call (rBool_calls _ _))))
    refine wpQuiet_nil ?_
    rintro _ ⟨x, rfl⟩
    go_wp2_with fail
    refine wp_region_on (by kernel_rfl) (by kernel_rfl) ?_
    repeat (go_big_quiet_step (first | (go_at_call 18; exact Cls.call (Truth_calls _ _ _ _)) | (go_at_call 20; exact Cls.call (Bool_calls _ _)) | (go_at_call 26; exact Cls.call (And_calls _ _ _ _ _ _ _)) | (go_at_call 28; exact Cls.call (Or_calls _ _ _ _ _ _ _)) | (go_at_call 30; exact Cls.call (Not_calls _ _ _ _)) | (go_at_call 19; exact Cls.call (rTruth_calls _ _ _ _)) | (go_at_call 21; exact Cls.call (rBool_calls _ _))))
    refine wpQuiet_nil ?_
    rintro _ ⟨x, rfl⟩
    go_wp2_with fail
    go_ret
    refine ⟨ret_bool ?_, ?_⟩
    · rfl
    · repeat first | with_reducible exact Below.refl _ _ | with_reducible refine Below.setCell ?_ (by first | omega | (simp; done) | (simp; omega)) _ | with_reducible refine Below.alloc ?_ (by first | omega | (simp; done) | (simp; omega)) _ | with_reducible refine Below.drew ?_ | with_reducible refine Ext.on _ ?_ (by first | omega | (simp; done) | (simp; omega))
end Go.Proofs.Ytgmpdngolpkjjaa
