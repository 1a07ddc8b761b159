/-
  The walk of the law ValueLogic: it returns true for every two values and every number.
-/
import Derived.Test.YtgmpdngolpkjjaaOrder
set_option linter.unusedVariables false
namespace Go.Proofs.Ytgmpdngolpkjjaa
open Go Go.RowKit
set_option maxHeartbeats 4000000 in
set_option maxRecDepth 100000 in
theorem valueLogic_walk (k n : Int) (s : ByteArray) (k' n' : Int) (s' : ByteArray) (t : Int) (w : World) (hk : (Lit.int .i64 k).wf = true) (hn : (Lit.int .i64 n).wf = true) (hs : s.size ≤ maxLen) (hk' : (Lit.int .i64 k').wf = true) (hn' : (Lit.int .i64 n').wf = true) (hs' : s'.size ≤ maxLen) (ht : (Lit.int .i64 t).wf = true) :
    Calls Try.prog 5 #[.agg #[.int .i64 k, .int .i64 n, .string s], .agg #[.int .i64 k', .int .i64 n', .string s'], .int .i64 t] w fun e w' => e = .returned (.bool true) ∧ Below w.heap.size w w' := by
  clear hk hn hs hk' hn' hs' ht
  go_enter Try.func5, Try.ntmps5
  go_wp2_with fail
  simp only [List.append_eq, List.cons_append, List.nil_append]
  refine wp_region_ext (by kernel_rfl) (by kernel_rfl) ?_
  repeat (go_big_quiet_step (first | (go_at_call 18; exact Cls.call (Truth_calls _ _ _ _)) | (go_at_call 19; exact Cls.call (rTruth_calls _ _ _ _)) | (go_at_call 20; exact Cls.call (Bool_calls _ _)) | (go_at_call 21; exact Cls.call (rBool_calls _ _)) | (go_at_call 22; exact Cls.call (Equal_calls _ _ _ _ _ _ _)) | (go_at_call 23; exact Cls.call (rEqual_calls _ _ _ _ _ _ _)) | (go_at_call 24; exact Cls.call (Less_calls _ _ _ _ _ _ _)) | (go_at_call 25; exact Cls.call (rLess_calls _ _ _ _ _ _ _)) | (go_at_call 26; exact Cls.call (And_calls _ _ _ _ _ _ _)) | (go_at_call 27; exact Cls.call (rAnd_calls _ _ _ _ _ _ _)) | (go_at_call 28; exact Cls.call (Or_calls _ _ _ _ _ _ _)) | (go_at_call 29; exact Cls.call (rOr_calls _ _ _ _ _ _ _)) | (go_at_call 30; exact Cls.call (Not_calls _ _ _ _)) | (go_at_call 31; exact Cls.call (rNot_calls _ _ _ _))))
  refine wpQuiet_nil ?_
  rintro _ ⟨x, rfl⟩
  go_wp2_with fail
  go_ret
  refine ⟨ret_bool ?_, ?_⟩
  · rfl
  · repeat first | with_reducible exact Below.refl _ _ | with_reducible refine Below.setCell ?_ (by first | omega | (simp; done) | (simp; omega)) _ | with_reducible refine Below.alloc ?_ (by first | omega | (simp; done) | (simp; omega)) _ | with_reducible refine Below.drew ?_ | with_reducible refine Ext.on _ ?_ (by first | omega | (simp; done) | (simp; omega))
end Go.Proofs.Ytgmpdngolpkjjaa
