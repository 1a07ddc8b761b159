/-
  How the program and the reference compare values: Compare, Same, Equal, Less and what they call, for all arguments.
-/
import Derived.Test.YtihdfomkphbdnaaTail
import Derived.Test.YtihdfomkphbdnaaPlain
import Derived.Test.YtihdfomkphbdnaaChecked
import Derived.WalkLawsBesides
namespace Go.Proofs.Ytihdfomkphbdnaa
open Go Go.RowKit

theorem cmpInt_calls (a b : Int) (w : World) : Calls Try.prog 55 #[.int .i64 a, .int .i64 b] w fun e w' => e = .returned (.int .i64 (cmpI a b)) ∧ w = w' := by
  go_enter Try.func55, Try.ntmps55
  go_wp2
  all_goals
    go_ret
    refine ⟨ret_int ?_, rfl⟩
    unfold cmpI
    repeat (first | rfl | rw [if_pos (by omega)] | rw [if_neg (by omega)])
theorem cmpInt64_calls (a b : Int) (w : World) : Calls Try.prog 58 #[.int .i64 a, .int .i64 b] w fun e w' => e = .returned (.int .i64 (cmpI a b)) ∧ w = w' := by
  go_enter Try.func58, Try.ntmps58
  go_wp2
  all_goals
    go_ret
    refine ⟨ret_int ?_, rfl⟩
    unfold cmpI
    repeat (first | rfl | rw [if_pos (by omega)] | rw [if_neg (by omega)])
theorem cmpStr_calls (a b : ByteArray) (w : World) : Calls Try.prog 59 #[.string a, .string b] w fun e w' => e = .returned (.int .i64 (cmpS a b)) ∧ w = w' := by
  go_enter Try.func59, Try.ntmps59
  go_wp2
  all_goals
    go_ret
    refine ⟨ret_int ?_, rfl⟩
    simp_all [cmpS]
theorem Compare_calls (k n : Int) (s : ByteArray) (k' n' : Int) (s' : ByteArray) (w : World) :
    Calls Try.prog 54 #[.agg #[.int .i64 k, .int .i64 n, .string s], .agg #[.int .i64 k', .int .i64 n', .string s']] w fun e w' => e = .returned (.int .i64 (cmpV k n s k' n' s')) ∧ Cls w w' := by
  go_enter Try.func54, Try.ntmps54
  go_wp2_with (first | (go_at_call 55; refine (cmpInt_calls _ _ _).mono ?_; rintro e _ ⟨rfl, rfl⟩) | (go_at_call 58; refine (cmpInt64_calls _ _ _).mono ?_; rintro e _ ⟨rfl, rfl⟩) | (go_at_call 59; refine (cmpStr_calls _ _ _).mono ?_; rintro e _ ⟨rfl, rfl⟩))
  all_goals
    go_ret
    refine ⟨ret_int ?_, Cls.of (((Below.refl _ _).alloc (Nat.le_refl _) _).alloc (by simp) _)⟩
    simp_all [cmpV]
set_option maxHeartbeats 800000 in
theorem rCompare_calls (k n : Int) (s : ByteArray) (k' n' : Int) (s' : ByteArray) (w : World) :
    Calls Try.prog 31 #[.agg #[.int .i64 k, .int .i64 n, .string s], .agg #[.int .i64 k', .int .i64 n', .string s']] w fun e w' => e = .returned (.int .i64 (cmpV k n s k' n' s')) ∧ Cls w w' := by
  go_enter Try.func31, Try.ntmps31
  go_wp2
  all_goals
    go_ret
    refine ⟨ret_int ?_, Cls.of (((Below.refl _ _).alloc (Nat.le_refl _) _).alloc (by simp) _)⟩
    first | (simp only [cmpV, cmpI]; split <;> (try split) <;> (try split) <;> omega) | (simp_all [cmpV, cmpS]; done) | (obtain rfl : k = k' := (by omega); obtain rfl : n = n' := (by omega); simp_all [cmpV, cmpS]; done)
end Go.Proofs.Ytihdfomkphbdnaa
