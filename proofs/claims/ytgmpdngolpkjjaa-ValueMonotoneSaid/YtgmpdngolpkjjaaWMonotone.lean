/-
  The walk of the law ValueMonotone: it returns true for every value and every truth value.
-/
import Derived.Test.YtgmpdngolpkjjaaLogic
import Derived.Test.YtgmpdngolpkjjaaNew
set_option linter.unusedVariables false
namespace Go.Proofs.Ytgmpdngolpkjjaa
open Go Go.RowKit
attribute [local go_sem] tvK tvN andT orT notT truT_yes truT_no truT_null
set_option maxHeartbeats 4000000 in
set_option maxRecDepth 100000 in
theorem valueMonotone_walk (k n : Int) (s : ByteArray) (to : Bool) (w : World) (hk : (Lit.int .i64 k).wf = true) (hn : (Lit.int .i64 n).wf = true) (hs : s.size ≤ maxLen) :
    Calls Try.prog 7 #[.agg #[.int .i64 k, .int .i64 n, .string s], .bool to] w fun e w' => e = .returned (.bool true) ∧ Below w.heap.size w w' := by
  clear hk hn hs
  rcases truT_cases k n with h | h | h <;> cases to
  all_goals
    go_enter Try.func7, Try.ntmps7
    go_wp2_with fail
    refine wp_region_new2 6 (.cells #[.int .i64 0, .int .i64 0, .string ⟨#[]⟩] 23) (.cells #[.int .i64 0, .int .i64 0, .string ⟨#[]⟩] 23) _ _ 7 8 (by kernel_rfl) (by kernel_rfl) rfl rfl rfl rfl (fun _ _ => by go_simp) (fun _ _ => by go_simp) ?_
    simp only [List.take_succ_cons, List.take_zero, List.drop_succ_cons, List.drop_zero]
    repeat (refine wpR_step (fun K hK => ?_); go_simp; first | (refine hK _ ?_; clear hK K) | (apply Exists.intro; refine ⟨fun _ => ?_, hK _ ?_⟩; (first | (go_at_call 18; exact (Truth_calls _ _ _ _)) | (go_at_call 20; exact (Bool_calls _ _)) | (go_at_call 30; exact (Not_calls _ _ _ _)) | (go_at_call 26; exact (And_calls _ _ _ _ _ _ _)) | (go_at_call 28; exact (Or_calls _ _ _ _ _ _ _))); clear hK K))
    refine wpR_nil ?_
    intro b c x hb1 hb2 hb3 hc1 hc2 hc3 hbc
    have eb := fun i => cells_of hb3 i
    have ec := fun i => cells_of hc3 i
    have fb := fun i => free_of hb3 i
    have fc := fun i => free_of hc3 i
    clear hb3 hc3
    simp at hb1 hc1
    obtain ⟨z0, _, _, _, _⟩ := x.lts (b := w.heap.size) (by simp; omega)
    obtain ⟨y0, _, _, _, _⟩ := x.lts (b := w.heap.size + 1) (by simp)
    have n1 : ¬ b = w.heap.size := by omega
    have n2 : ¬ c = w.heap.size := by omega
    have n3 : ¬ b = w.heap.size + 1 := by omega
    have n4 : ¬ c = w.heap.size + 1 := by omega
    have n5 : ¬ c = b := fun e => hbc e.symm
    go_wp2_with fail
    refine wp_region_ext (by kernel_rfl) (by kernel_rfl) ?_
    repeat (go_big_quiet_step (first | (go_at_call 18; exact Cls.call (Truth_calls _ _ _ _)) | (go_at_call 20; exact Cls.call (Bool_calls _ _)) | (go_at_call 30; exact Cls.call (Not_calls _ _ _ _)) | (go_at_call 26; exact Cls.call (And_calls _ _ _ _ _ _ _)) | (go_at_call 28; exact Cls.call (Or_calls _ _ _ _ _ _ _))))
    refine wpQuiet_nil ?_
    rintro _ ⟨y, rfl⟩
    go_wp2_with fail
    refine wp_region_on (by kernel_rfl) (by kernel_rfl) ?_
    repeat (go_big_quiet_step (first | (go_at_call 18; exact Cls.call (Truth_calls _ _ _ _)) | (go_at_call 20; exact Cls.call (Bool_calls _ _)) | (go_at_call 30; exact Cls.call (Not_calls _ _ _ _)) | (go_at_call 26; exact Cls.call (And_calls _ _ _ _ _ _ _)) | (go_at_call 28; exact Cls.call (Or_calls _ _ _ _ _ _ _))))
    refine wpQuiet_nil ?_
    rintro _ ⟨z, rfl⟩
    go_wp2_with fail
    go_ret
    refine ⟨ret_bool ?_, ?_⟩
    · rfl
    · repeat first | with_reducible exact Below.refl _ _ | with_reducible refine Below.setCell ?_ (by first | omega | (simp; done) | (simp; omega)) _ | with_reducible refine Below.alloc ?_ (by first | omega | (simp; done) | (simp; omega)) _ | with_reducible refine Below.drew ?_ | with_reducible refine Ext.on _ ?_ (by first | omega | (simp; done) | (simp; omega))
end Go.Proofs.Ytgmpdngolpkjjaa
