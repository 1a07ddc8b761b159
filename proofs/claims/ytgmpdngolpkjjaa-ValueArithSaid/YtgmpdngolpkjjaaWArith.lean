/-
  The walk of the law ValueArith: it returns true for every operation and every two values.
-/
import Derived.Test.YtgmpdngolpkjjaaArith3
import Derived.LoopTactic
set_option linter.unusedVariables false
namespace Go.Proofs.Ytgmpdngolpkjjaa
open Go Go.RowKit
set_option maxHeartbeats 4000000 in
set_option maxRecDepth 100000 in
theorem valueArith_walk (op k n : Int) (s : ByteArray) (k' n' : Int) (s' : ByteArray) (w : World) (ho : (Lit.int .i64 op).wf = true) (hk : (Lit.int .i64 k).wf = true) (hn : (Lit.int .i64 n).wf = true) (hs : s.size ≤ maxLen) (hk' : (Lit.int .i64 k').wf = true) (hn' : (Lit.int .i64 n').wf = true) (hs' : s'.size ≤ maxLen) :
    Calls Try.prog 8 #[.int .i64 op, .agg #[.int .i64 k, .int .i64 n, .string s], .agg #[.int .i64 k', .int .i64 n', .string s']] w fun e w' => e = .returned (.bool true) ∧ Below w.heap.size w w' := by
  clear ho hk hn hk' hn'
  go_enter Try.func8, Try.ntmps8
  go_wp2_with fail
  go_loopw [7] (fun i wr => ∃ j : Int, 6 ≤ j ∧ j ≤ 13 ∧ i = .int .i64 j ∧ Cls ((w.alloc (.cells #[.int .i64 k, .int .i64 n, .string s] 23)).alloc (.cells #[.int .i64 k', .int .i64 n', .string s'] 23)) wr) (fun i _ => (13 - intOf i).toNat)
  case atStart => exact ⟨6, by omega, by omega, rfl, Cls.of (Below.refl _ _)⟩
  case round =>
    obtain ⟨j, h6, h13, rfl, x, rfl⟩ := hrel
    by_cases hj : j ≤ 12
    · go_wp2_with fail
      refine wp_region_on (by kernel_rfl) (by kernel_rfl) ?_
      repeat (go_big_quiet_step (first | (go_at_call 32; exact Cls.call (Arith_calls _ _ _ _ _ _ _ _ hs hs')) | (go_at_call 33; exact Cls.call (rArith_calls _ _ _ _ _ _ _ _ hs hs')) | (go_at_call 10; exact Cls.call (Valid_is _ _ _ true _ arS_size (ar_valid _ _ _ _ _ _ _)))))
      refine wpQuiet_nil ?_
      rintro _ ⟨y, rfl⟩
      go_wp2_with fail
      go_roundw
      case rel => exact ⟨j + 1, by omega, by omega, by go_num, y, rfl⟩
      case measure => simp [intOf]; omega
    · go_wp2_with fail
      refine wp_region_on (by kernel_rfl) (by kernel_rfl) ?_
      repeat (go_big_quiet_step (first | (go_at_call 32; exact Cls.call (Arith_calls _ _ _ _ _ _ _ _ hs hs')) | (go_at_call 33; exact Cls.call (rArith_calls _ _ _ _ _ _ _ _ hs hs')) | (go_at_call 10; exact Cls.call (Valid_is _ _ _ true _ arS_size (ar_valid _ _ _ _ _ _ _)))))
      refine wpQuiet_nil ?_
      rintro _ ⟨y, rfl⟩
      go_wp2_with fail
      go_ret
      refine ⟨ret_bool ?_, ?_⟩
      · rfl
      · repeat first | with_reducible exact Below.refl _ _ | with_reducible refine Below.setCell ?_ (by first | omega | (simp; done) | (simp; omega)) _ | with_reducible refine Below.alloc ?_ (by first | omega | (simp; done) | (simp; omega)) _ | with_reducible refine Below.drew ?_ | with_reducible refine Ext.on _ ?_ (by first | omega | (simp; done) | (simp; omega))
end Go.Proofs.Ytgmpdngolpkjjaa
