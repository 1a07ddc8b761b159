/-
  What the functions of truth values give: Truth, Bool, And, Or, Not of the program and of the reference, for all arguments. How the program and the reference compare values: Compare, Same, Equal, Less and what they call, for all arguments. What Valid says, of the program and of the reference, for all values; and what they call.
-/
import Derived.Test.YtonlmhehddbhoaaDoorChecked
import Derived.Test.YtonlmhehddbhoaaDoorJ01
import Derived.Test.YtonlmhehddbhoaaDoorJ09
import Derived.BigQuiet
import Derived.WalkLawsBesides
namespace Go.Proofs.YtonlmhehddbhoaaDoor
open Go Go.RowKit

theorem rTruth_calls (k n : Int) (s : ByteArray) (w : World) :
    Calls Tryd.prog 43 #[.agg #[.int .i64 k, .int .i64 n, .string s]] w fun e w' => e = .returned (.int .i64 (truT k n)) ∧ Cls w w' := by
  go_enter Tryd.func43, Tryd.ntmps43
  go_wp2
  all_goals
    go_ret
    refine ⟨?_, Cls.of ((Below.refl _ _).alloc (Nat.le_refl _) _)⟩
    simp_all [truT]
set_option maxHeartbeats 400000 in
theorem decide_and (a b : Int) (w : World) :
    Calls Tryd.prog 95 #[.int .i64 0, .int .i64 a, .int .i64 b] w fun e w' => e = .returned (.agg #[.int .i64 (tvK (andT a b)), .int .i64 (tvN (andT a b)), .string ⟨#[]⟩]) ∧ Cls w w' := by
  go_enter Tryd.func95, Tryd.ntmps95
  go_wp2_with (first | (go_at_call 64; refine (Bool_calls _ _).mono ?_; rintro e _ ⟨rfl, x, rfl⟩))
  all_goals
    refine ret_ex rfl ?_
    simp [results, Tryd.results95, go_sem]
    refine ⟨?_, ?_⟩
  all_goals first | (simp_all [tvK, tvN]; done) | (simp_all [tvK, tvN, andT]; done) | (simp_all [tvK, tvN]; omega) | skip
  all_goals
    refine Cls.of ?_
    repeat first | exact Below.refl _ _ | refine Below.setCell ?_ (by first | omega | (simp; done) | (simp; omega)) _ | refine Below.alloc ?_ (by first | omega | (simp; done) | (simp; omega)) _ | refine Below.drew ?_ | refine Ext.on _ ?_ (by first | omega | (simp; done) | (simp; omega))
set_option maxHeartbeats 400000 in
theorem decide_or (a b : Int) (w : World) :
    Calls Tryd.prog 95 #[.int .i64 1, .int .i64 a, .int .i64 b] w fun e w' => e = .returned (.agg #[.int .i64 (tvK (orT a b)), .int .i64 (tvN (orT a b)), .string ⟨#[]⟩]) ∧ Cls w w' := by
  go_enter Tryd.func95, Tryd.ntmps95
  go_wp2_with (first | (go_at_call 64; refine (Bool_calls _ _).mono ?_; rintro e _ ⟨rfl, x, rfl⟩))
  all_goals
    refine ret_ex rfl ?_
    simp [results, Tryd.results95, go_sem]
    refine ⟨?_, ?_⟩
  all_goals first | (simp_all [tvK, tvN]; done) | (simp_all [tvK, tvN, orT]; done) | (simp_all [tvK, tvN]; omega) | skip
  all_goals
    refine Cls.of ?_
    repeat first | exact Below.refl _ _ | refine Below.setCell ?_ (by first | omega | (simp; done) | (simp; omega)) _ | refine Below.alloc ?_ (by first | omega | (simp; done) | (simp; omega)) _ | refine Below.drew ?_ | refine Ext.on _ ?_ (by first | omega | (simp; done) | (simp; omega))
theorem And_calls (k n : Int) (s : ByteArray) (k' n' : Int) (s' : ByteArray) (w : World) :
    Calls Tryd.prog 74 #[.agg #[.int .i64 k, .int .i64 n, .string s], .agg #[.int .i64 k', .int .i64 n', .string s']] w fun e w' => e = .returned (.agg #[.int .i64 (tvK (andT (truT k n) (truT k' n'))), .int .i64 (tvN (andT (truT k n) (truT k' n'))), .string ⟨#[]⟩]) ∧ Cls w w' := by
  go_enter Tryd.func74, Tryd.ntmps74
  go_wp2
  refine wp_region_ext_tail 5 (by kernel_rfl) (by kernel_rfl) ?_
  simp only [List.take_succ_cons, List.take_zero, List.drop_succ_cons, List.drop_zero]
  repeat (go_big_quiet_step (first | (go_at_call 94; exact Cls.call (Truth_calls _ _ _ _)) | (go_at_call 95; exact Cls.call (decide_and _ _ _))))
  refine wpQuiet_nil ?_
  rintro _ ⟨x, rfl⟩
  go_wp2
  refine ret_ex rfl ?_
  simp [results, Tryd.results74, go_sem]
  refine Cls.of ?_
  repeat first | exact Below.refl _ _ | refine Below.setCell ?_ (by first | omega | (simp; done) | (simp; omega)) _ | refine Below.alloc ?_ (by first | omega | (simp; done) | (simp; omega)) _ | refine Below.drew ?_ | refine Ext.on _ ?_ (by first | omega | (simp; done) | (simp; omega))
theorem Or_calls (k n : Int) (s : ByteArray) (k' n' : Int) (s' : ByteArray) (w : World) :
    Calls Tryd.prog 65 #[.agg #[.int .i64 k, .int .i64 n, .string s], .agg #[.int .i64 k', .int .i64 n', .string s']] w fun e w' => e = .returned (.agg #[.int .i64 (tvK (orT (truT k n) (truT k' n'))), .int .i64 (tvN (orT (truT k n) (truT k' n'))), .string ⟨#[]⟩]) ∧ Cls w w' := by
  go_enter Tryd.func65, Tryd.ntmps65
  go_wp2
  refine wp_region_ext_tail 5 (by kernel_rfl) (by kernel_rfl) ?_
  simp only [List.take_succ_cons, List.take_zero, List.drop_succ_cons, List.drop_zero]
  repeat (go_big_quiet_step (first | (go_at_call 94; exact Cls.call (Truth_calls _ _ _ _)) | (go_at_call 95; exact Cls.call (decide_or _ _ _))))
  refine wpQuiet_nil ?_
  rintro _ ⟨x, rfl⟩
  go_wp2
  refine ret_ex rfl ?_
  simp [results, Tryd.results65, go_sem]
  refine Cls.of ?_
  repeat first | exact Below.refl _ _ | refine Below.setCell ?_ (by first | omega | (simp; done) | (simp; omega)) _ | refine Below.alloc ?_ (by first | omega | (simp; done) | (simp; omega)) _ | refine Below.drew ?_ | refine Ext.on _ ?_ (by first | omega | (simp; done) | (simp; omega))
set_option maxHeartbeats 400000 in
theorem rAnd_calls (k n : Int) (s : ByteArray) (k' n' : Int) (s' : ByteArray) (w : World) :
    Calls Tryd.prog 41 #[.agg #[.int .i64 k, .int .i64 n, .string s], .agg #[.int .i64 k', .int .i64 n', .string s']] w fun e w' => e = .returned (.agg #[.int .i64 (tvK (andT (truT k n) (truT k' n'))), .int .i64 (tvN (andT (truT k n) (truT k' n'))), .string ⟨#[]⟩]) ∧ Cls w w' := by
  go_enter Tryd.func41, Tryd.ntmps41
  go_wp2
  refine wp_region_ext (by kernel_rfl) (by kernel_rfl) ?_
  repeat (go_big_quiet_step ((go_at_call 43; exact Cls.call (rTruth_calls _ _ _ _))))
  refine wpQuiet_nil ?_
  rintro _ ⟨x, rfl⟩
  go_wp2_with (first | (go_at_call 77; with_reducible refine (Cls.call (rBool_calls _ _)).mono ?_; rintro e _ ⟨rfl, y, rfl⟩))
  all_goals
    refine ret_ex rfl ?_
    simp [results, Tryd.results41, go_sem]
    refine ⟨?_, ?_⟩
  all_goals first | (simp_all [tvK, tvN]; done) | (simp_all [tvK, tvN, andT]; done) | (simp_all [tvK, tvN]; omega) | skip
  all_goals
    refine Cls.of ?_
    repeat first | exact Below.refl _ _ | refine Below.setCell ?_ (by first | omega | (simp; done) | (simp; omega)) _ | refine Below.alloc ?_ (by first | omega | (simp; done) | (simp; omega)) _ | refine Below.drew ?_ | refine Ext.on _ ?_ (by first | omega | (simp; done) | (simp; omega))
set_option maxHeartbeats 400000 in
theorem rOr_calls (k n : Int) (s : ByteArray) (k' n' : Int) (s' : ByteArray) (w : World) :
    Calls Tryd.prog 42 #[.agg #[.int .i64 k, .int .i64 n, .string s], .agg #[.int .i64 k', .int .i64 n', .string s']] w fun e w' => e = .returned (.agg #[.int .i64 (tvK (orT (truT k n) (truT k' n'))), .int .i64 (tvN (orT (truT k n) (truT k' n'))), .string ⟨#[]⟩]) ∧ Cls w w' := by
  go_enter Tryd.func42, Tryd.ntmps42
  go_wp2
  refine wp_region_ext (by kernel_rfl) (by kernel_rfl) ?_
  repeat (go_big_quiet_step ((go_at_call 43; exact Cls.call (rTruth_calls _ _ _ _))))
  refine wpQuiet_nil ?_
  rintro _ ⟨x, rfl⟩
  go_wp2_with (first | (go_at_call 77; with_reducible refine (Cls.call (rBool_calls _ _)).mono ?_; rintro e _ ⟨rfl, y, rfl⟩))
  all_goals
    refine ret_ex rfl ?_
    simp [results, Tryd.results42, go_sem]
    refine ⟨?_, ?_⟩
  all_goals first | (simp_all [tvK, tvN]; done) | (simp_all [tvK, tvN, orT]; done) | (simp_all [tvK, tvN]; omega) | skip
  all_goals
    refine Cls.of ?_
    repeat first | exact Below.refl _ _ | refine Below.setCell ?_ (by first | omega | (simp; done) | (simp; omega)) _ | refine Below.alloc ?_ (by first | omega | (simp; done) | (simp; omega)) _ | refine Below.drew ?_ | refine Ext.on _ ?_ (by first | omega | (simp; done) | (simp; omega))
set_option maxHeartbeats 400000 in
theorem Not_calls (k n : Int) (s : ByteArray) (w : World) :
    Calls Tryd.prog 71 #[.agg #[.int .i64 k, .int .i64 n, .string s]] w fun e w' => e = .returned (.agg #[.int .i64 (tvK (notT (truT k n))), .int .i64 (tvN (notT (truT k n))), .string ⟨#[]⟩]) ∧ Cls w w' := by
  have hT := truT_cases k n
  go_enter Tryd.func71, Tryd.ntmps71
  go_wp2_with (first | (go_at_call 94; refine (Truth_calls _ _ _ _).mono ?_; rintro e _ ⟨rfl, x, rfl⟩) | (go_at_call 64; with_reducible refine (Cls.call (Bool_calls _ _)).mono ?_; rintro e _ ⟨rfl, y, rfl⟩))
  all_goals
    refine ret_ex rfl ?_
    simp [results, Tryd.results71, go_sem]
    refine ⟨?_, ?_⟩
  all_goals first | (simp_all [tvK, tvN]; done) | (simp_all [tvK, tvN, notT]; done) | (simp_all [tvK, tvN, notT]; omega) | skip
  all_goals
    refine Cls.of ?_
    repeat first | exact Below.refl _ _ | refine Below.setCell ?_ (by first | omega | (simp; done) | (simp; omega)) _ | refine Below.alloc ?_ (by first | omega | (simp; done) | (simp; omega)) _ | refine Below.drew ?_ | refine Ext.on _ ?_ (by first | omega | (simp; done) | (simp; omega))
set_option maxHeartbeats 400000 in
theorem rNot_calls (k n : Int) (s : ByteArray) (w : World) :
    Calls Tryd.prog 37 #[.agg #[.int .i64 k, .int .i64 n, .string s]] w fun e w' => e = .returned (.agg #[.int .i64 (tvK (notT (truT k n))), .int .i64 (tvN (notT (truT k n))), .string ⟨#[]⟩]) ∧ Cls w w' := by
  have hT := truT_cases k n
  go_enter Tryd.func37, Tryd.ntmps37
  go_wp2_with (first | (go_at_call 43; refine (rTruth_calls _ _ _ _).mono ?_; rintro e _ ⟨rfl, x, rfl⟩) | (go_at_call 77; with_reducible refine (Cls.call (rBool_calls _ _)).mono ?_; rintro e _ ⟨rfl, y, rfl⟩))
  all_goals
    refine ret_ex rfl ?_
    simp [results, Tryd.results37, go_sem]
    refine ⟨?_, ?_⟩
  all_goals first | (simp_all [tvK, tvN]; done) | (simp_all [tvK, tvN, notT]; done) | (simp_all [tvK, tvN]; omega) | skip
  all_goals
    refine Cls.of ?_
    repeat first | exact Below.refl _ _ | refine Below.setCell ?_ (by first | omega | (simp; done) | (simp; omega)) _ | refine Below.alloc ?_ (by first | omega | (simp; done) | (simp; omega)) _ | refine Below.drew ?_ | refine Ext.on _ ?_ (by first | omega | (simp; done) | (simp; omega))
end Go.Proofs.YtonlmhehddbhoaaDoor
namespace Go.Proofs.YtonlmhehddbhoaaDoor
open Go Go.RowKit

theorem cmpInt_calls (a b : Int) (w : World) : Calls Tryd.prog 117 #[.int .i64 a, .int .i64 b] w fun e w' => e = .returned (.int .i64 (cmpI a b)) ∧ w = w' := by
  go_enter Tryd.func117, Tryd.ntmps117
  go_wp2
  all_goals
    go_ret
    refine ⟨ret_int ?_, rfl⟩
    unfold cmpI
    repeat (first | rfl | rw [if_pos (by omega)] | rw [if_neg (by omega)])
theorem cmpInt64_calls (a b : Int) (w : World) : Calls Tryd.prog 118 #[.int .i64 a, .int .i64 b] w fun e w' => e = .returned (.int .i64 (cmpI a b)) ∧ w = w' := by
  go_enter Tryd.func118, Tryd.ntmps118
  go_wp2
  all_goals
    go_ret
    refine ⟨ret_int ?_, rfl⟩
    unfold cmpI
    repeat (first | rfl | rw [if_pos (by omega)] | rw [if_neg (by omega)])
theorem cmpStr_calls (a b : ByteArray) (w : World) : Calls Tryd.prog 119 #[.string a, .string b] w fun e w' => e = .returned (.int .i64 (cmpS a b)) ∧ w = w' := by
  go_enter Tryd.func119, Tryd.ntmps119
  go_wp2
  all_goals
    go_ret
    refine ⟨ret_int ?_, rfl⟩
    simp_all [cmpS]
theorem Compare_calls (k n : Int) (s : ByteArray) (k' n' : Int) (s' : ByteArray) (w : World) :
    Calls Tryd.prog 101 #[.agg #[.int .i64 k, .int .i64 n, .string s], .agg #[.int .i64 k', .int .i64 n', .string s']] w fun e w' => e = .returned (.int .i64 (cmpV k n s k' n' s')) ∧ Cls w w' := by
  go_enter Tryd.func101, Tryd.ntmps101
  go_wp2_with (first | (go_at_call 117; refine (cmpInt_calls _ _ _).mono ?_; rintro e _ ⟨rfl, rfl⟩) | (go_at_call 118; refine (cmpInt64_calls _ _ _).mono ?_; rintro e _ ⟨rfl, rfl⟩) | (go_at_call 119; refine (cmpStr_calls _ _ _).mono ?_; rintro e _ ⟨rfl, rfl⟩))
  all_goals
    go_ret
    refine ⟨ret_int ?_, Cls.of (((Below.refl _ _).alloc (Nat.le_refl _) _).alloc (by simp) _)⟩
    simp_all [cmpV]
set_option maxHeartbeats 800000 in
theorem rCompare_calls (k n : Int) (s : ByteArray) (k' n' : Int) (s' : ByteArray) (w : World) :
    Calls Tryd.prog 78 #[.agg #[.int .i64 k, .int .i64 n, .string s], .agg #[.int .i64 k', .int .i64 n', .string s']] w fun e w' => e = .returned (.int .i64 (cmpV k n s k' n' s')) ∧ Cls w w' := by
  go_enter Tryd.func78, Tryd.ntmps78
  go_wp2
  all_goals
    go_ret
    refine ⟨ret_int ?_, Cls.of (((Below.refl _ _).alloc (Nat.le_refl _) _).alloc (by simp) _)⟩
    first | (simp only [cmpV, cmpI]; split <;> (try split) <;> (try split) <;> omega) | (simp_all [cmpV, cmpS]; done) | (obtain rfl : k = k' := (by omega); obtain rfl : n = n' := (by omega); simp_all [cmpV, cmpS]; done)
theorem Same_calls (k n : Int) (s : ByteArray) (k' n' : Int) (s' : ByteArray) (w : World) :
    Calls Tryd.prog 73 #[.agg #[.int .i64 k, .int .i64 n, .string s], .agg #[.int .i64 k', .int .i64 n', .string s']] w fun e w' => e = .returned (.bool (sameB k n s k' n' s')) ∧ Cls w w' := by
  go_enter Tryd.func73, Tryd.ntmps73
  go_wp2
  all_goals
    go_ret
    refine ⟨ret_bool ?_, Cls.of (((Below.refl _ _).alloc (Nat.le_refl _) _).alloc (by simp) _)⟩
    first | rw [sameB_yes (by assumption) (by assumption) (by assumption)] | rw [sameB_no (by simp_all)]
theorem rSame_calls (k n : Int) (s : ByteArray) (k' n' : Int) (s' : ByteArray) (w : World) :
    Calls Tryd.prog 40 #[.agg #[.int .i64 k, .int .i64 n, .string s], .agg #[.int .i64 k', .int .i64 n', .string s']] w fun e w' => e = .returned (.bool (sameB k n s k' n' s')) ∧ Cls w w' := by
  go_enter Tryd.func40, Tryd.ntmps40
  go_wp2_with (first | (go_at_call 78; refine (rCompare_calls _ _ _ _ _ _ _).mono ?_; rintro e _ ⟨rfl, x, rfl⟩))
  all_goals
    go_ret
    refine ⟨rfl, ?_⟩
    refine Cls.of ?_
    repeat first | exact Below.refl _ _ | refine Below.setCell ?_ (by first | omega | (simp; done) | (simp; omega)) _ | refine Below.alloc ?_ (by first | omega | (simp; done) | (simp; omega)) _ | refine Below.drew ?_ | refine Ext.on _ ?_ (by first | omega | (simp; done) | (simp; omega))
theorem isNull_calls (k n : Int) (s : ByteArray) (w : World) :
    Calls Tryd.prog 96 #[.agg #[.int .i64 k, .int .i64 n, .string s]] w fun e w' => e = .returned (.bool (k == 0)) ∧ Cls w w' := by
  go_enter Tryd.func96, Tryd.ntmps96
  go_wp2
  all_goals
    go_ret
    exact ⟨rfl, Cls.of ((Below.refl _ _).alloc (Nat.le_refl _) _)⟩
theorem fromBool_calls (b : Bool) (w : World) :
    Calls Tryd.prog 97 #[.bool b] w fun e w' => e = .returned (.agg #[.int .i64 (tvK (b2i b)), .int .i64 (tvN (b2i b)), .string ⟨#[]⟩]) ∧ Cls w w' := by
  cases b
  all_goals
    go_enter Tryd.func97, Tryd.ntmps97
    go_wp2_with (first | (go_at_call 64; refine (Bool_calls _ _).mono ?_; rintro e _ ⟨rfl, x, rfl⟩))
    refine ret_ex rfl ?_
    simp [results, Tryd.results97, go_sem]
    refine ⟨⟨rfl, rfl⟩, ?_⟩
    refine Cls.of ?_
    repeat first | exact Below.refl _ _ | refine Below.setCell ?_ (by first | omega | (simp; done) | (simp; omega)) _ | refine Below.alloc ?_ (by first | omega | (simp; done) | (simp; omega)) _ | refine Below.drew ?_ | refine Ext.on _ ?_ (by first | omega | (simp; done) | (simp; omega))
theorem rOf_calls (b : Bool) (w : World) :
    Calls Tryd.prog 39 #[.bool b] w fun e w' => e = .returned (.agg #[.int .i64 (tvK (b2i b)), .int .i64 (tvN (b2i b)), .string ⟨#[]⟩]) ∧ Cls w w' := by
  cases b
  all_goals
    go_enter Tryd.func39, Tryd.ntmps39
    go_wp2_with (first | (go_at_call 77; refine (rBool_calls _ _).mono ?_; rintro e _ ⟨rfl, x, rfl⟩))
    refine ret_ex rfl ?_
    simp [results, Tryd.results39, go_sem]
    refine ⟨⟨rfl, rfl⟩, ?_⟩
    refine Cls.of ?_
    repeat first | exact Below.refl _ _ | refine Below.setCell ?_ (by first | omega | (simp; done) | (simp; omega)) _ | refine Below.alloc ?_ (by first | omega | (simp; done) | (simp; omega)) _ | refine Below.drew ?_ | refine Ext.on _ ?_ (by first | omega | (simp; done) | (simp; omega))
set_option maxHeartbeats 800000 in
theorem Equal_calls (k n : Int) (s : ByteArray) (k' n' : Int) (s' : ByteArray) (w : World) :
    Calls Tryd.prog 66 #[.agg #[.int .i64 k, .int .i64 n, .string s], .agg #[.int .i64 k', .int .i64 n', .string s']] w fun e w' => e = .returned (.agg #[.int .i64 (tvK (eqT k n s k' n' s')), .int .i64 (tvN (eqT k n s k' n' s')), .string ⟨#[]⟩]) ∧ Cls w w' := by
  by_cases hk : k = 0
  all_goals by_cases hk' : k' = 0
  all_goals
    have hb : (k == 0) = decide (k = 0) := rfl
    have hb' : (k' == 0) = decide (k' = 0) := rfl
    simp only [hk, hk', decide_true, decide_false] at hb hb'
    try subst hk
    try subst hk'
    go_enter Tryd.func66, Tryd.ntmps66
    go_wp2_with (first | (go_at_call 96; first | (with_reducible refine (Cls.call (isNull_calls _ _ _ _)).mono ?_; rintro e _ ⟨rfl, y, rfl⟩) | (refine (isNull_calls _ _ _ _).mono ?_; rintro e _ ⟨rfl, x, rfl⟩)) | (go_at_call 73; first | (with_reducible refine (Cls.call (Same_calls _ _ _ _ _ _ _)).mono ?_; rintro e _ ⟨rfl, y, rfl⟩) | (refine (Same_calls _ _ _ _ _ _ _).mono ?_; rintro e _ ⟨rfl, x, rfl⟩)) | (go_at_call 97; with_reducible refine (Cls.call (fromBool_calls _ _)).mono ?_; rintro e _ ⟨rfl, z, rfl⟩))
    refine ret_ex rfl ?_
    simp [results, Tryd.results66, go_sem]
    refine ⟨?_, ?_⟩
  all_goals first | (simp_all [eqT, tvK, tvN]; done) | skip
  all_goals
    refine Cls.of ?_
    repeat first | exact Below.refl _ _ | refine Below.setCell ?_ (by first | omega | (simp; done) | (simp; omega)) _ | refine Below.alloc ?_ (by first | omega | (simp; done) | (simp; omega)) _ | refine Below.drew ?_ | refine Ext.on _ ?_ (by first | omega | (simp; done) | (simp; omega))
set_option maxHeartbeats 800000 in
theorem Less_calls (k n : Int) (s : ByteArray) (k' n' : Int) (s' : ByteArray) (w : World) :
    Calls Tryd.prog 72 #[.agg #[.int .i64 k, .int .i64 n, .string s], .agg #[.int .i64 k', .int .i64 n', .string s']] w fun e w' => e = .returned (.agg #[.int .i64 (tvK (lessT k n s k' n' s')), .int .i64 (tvN (lessT k n s k' n' s')), .string ⟨#[]⟩]) ∧ Cls w w' := by
  by_cases hk : k = 0
  all_goals by_cases hk' : k' = 0
  all_goals
    have hb : (k == 0) = decide (k = 0) := rfl
    have hb' : (k' == 0) = decide (k' = 0) := rfl
    simp only [hk, hk', decide_true, decide_false] at hb hb'
    try subst hk
    try subst hk'
    go_enter Tryd.func72, Tryd.ntmps72
    go_wp2_with (first | (go_at_call 96; first | (with_reducible refine (Cls.call (isNull_calls _ _ _ _)).mono ?_; rintro e _ ⟨rfl, y, rfl⟩) | (refine (isNull_calls _ _ _ _).mono ?_; rintro e _ ⟨rfl, x, rfl⟩)) | (go_at_call 101; first | (with_reducible refine (Cls.call (Compare_calls _ _ _ _ _ _ _)).mono ?_; rintro e _ ⟨rfl, y, rfl⟩) | (refine (Compare_calls _ _ _ _ _ _ _).mono ?_; rintro e _ ⟨rfl, x, rfl⟩)) | (go_at_call 97; with_reducible refine (Cls.call (fromBool_calls _ _)).mono ?_; rintro e _ ⟨rfl, z, rfl⟩))
    refine ret_ex rfl ?_
    simp [results, Tryd.results72, go_sem]
    refine ⟨?_, ?_⟩
  all_goals first | (simp_all [lessT, tvK, tvN]; done) | skip
  all_goals
    refine Cls.of ?_
    repeat first | exact Below.refl _ _ | refine Below.setCell ?_ (by first | omega | (simp; done) | (simp; omega)) _ | refine Below.alloc ?_ (by first | omega | (simp; done) | (simp; omega)) _ | refine Below.drew ?_ | refine Ext.on _ ?_ (by first | omega | (simp; done) | (simp; omega))
set_option maxHeartbeats 800000 in
theorem rEqual_calls (k n : Int) (s : ByteArray) (k' n' : Int) (s' : ByteArray) (w : World) :
    Calls Tryd.prog 36 #[.agg #[.int .i64 k, .int .i64 n, .string s], .agg #[.int .i64 k', .int .i64 n', .string s']] w fun e w' => e = .returned (.agg #[.int .i64 (tvK (eqT k n s k' n' s')), .int .i64 (tvN (eqT k n s k' n' s')), .string ⟨#[]⟩]) ∧ Cls w w' := by
  by_cases hk : k = 0
  all_goals by_cases hk' : k' = 0
  all_goals
    have hb : (k == 0) = decide (k = 0) := rfl
    have hb' : (k' == 0) = decide (k' = 0) := rfl
    simp only [hk, hk', decide_true, decide_false] at hb hb'
    try subst hk
    try subst hk'
    go_enter Tryd.func36, Tryd.ntmps36
    go_wp2_with (first | (go_at_call 40; first | (with_reducible refine (Cls.call (rSame_calls _ _ _ _ _ _ _)).mono ?_; rintro e _ ⟨rfl, y, rfl⟩) | (refine (rSame_calls _ _ _ _ _ _ _).mono ?_; rintro e _ ⟨rfl, x, rfl⟩)) | (go_at_call 39; with_reducible refine (Cls.call (rOf_calls _ _)).mono ?_; rintro e _ ⟨rfl, z, rfl⟩))
    refine ret_ex rfl ?_
    simp [results, Tryd.results36, go_sem]
    refine ⟨?_, ?_⟩
  all_goals first | (simp_all [eqT, tvK, tvN]; done) | skip
  all_goals
    refine Cls.of ?_
    repeat first | exact Below.refl _ _ | refine Below.setCell ?_ (by first | omega | (simp; done) | (simp; omega)) _ | refine Below.alloc ?_ (by first | omega | (simp; done) | (simp; omega)) _ | refine Below.drew ?_ | refine Ext.on _ ?_ (by first | omega | (simp; done) | (simp; omega))
set_option maxHeartbeats 800000 in
theorem rLess_calls (k n : Int) (s : ByteArray) (k' n' : Int) (s' : ByteArray) (w : World) :
    Calls Tryd.prog 38 #[.agg #[.int .i64 k, .int .i64 n, .string s], .agg #[.int .i64 k', .int .i64 n', .string s']] w fun e w' => e = .returned (.agg #[.int .i64 (tvK (lessT k n s k' n' s')), .int .i64 (tvN (lessT k n s k' n' s')), .string ⟨#[]⟩]) ∧ Cls w w' := by
  by_cases hk : k = 0
  all_goals by_cases hk' : k' = 0
  all_goals
    have hb : (k == 0) = decide (k = 0) := rfl
    have hb' : (k' == 0) = decide (k' = 0) := rfl
    simp only [hk, hk', decide_true, decide_false] at hb hb'
    try subst hk
    try subst hk'
    go_enter Tryd.func38, Tryd.ntmps38
    go_wp2_with (first | (go_at_call 78; first | (with_reducible refine (Cls.call (rCompare_calls _ _ _ _ _ _ _)).mono ?_; rintro e _ ⟨rfl, y, rfl⟩) | (refine (rCompare_calls _ _ _ _ _ _ _).mono ?_; rintro e _ ⟨rfl, x, rfl⟩)) | (go_at_call 39; with_reducible refine (Cls.call (rOf_calls _ _)).mono ?_; rintro e _ ⟨rfl, z, rfl⟩))
    refine ret_ex rfl ?_
    simp [results, Tryd.results38, go_sem]
    refine ⟨?_, ?_⟩
  all_goals first | (simp_all [lessT, tvK, tvN]; done) | skip
  all_goals
    refine Cls.of ?_
    repeat first | exact Below.refl _ _ | refine Below.setCell ?_ (by first | omega | (simp; done) | (simp; omega)) _ | refine Below.alloc ?_ (by first | omega | (simp; done) | (simp; omega)) _ | refine Below.drew ?_ | refine Ext.on _ ?_ (by first | omega | (simp; done) | (simp; omega))
end Go.Proofs.YtonlmhehddbhoaaDoor
set_option linter.unusedVariables false
namespace Go.Proofs.YtonlmhehddbhoaaDoor
open Go Go.RowKit

def byteB (c : Int) : Bool := decide (32 ≤ c) && decide (c ≤ 126) && !(c == 39)
def allB (l : List UInt8) : Bool := l.all fun c => byteB c.toNat
def textB (s : ByteArray) : Bool := decide (s.size ≤ 24) && allB s.data.toList
def vB (k n : Int) (s : ByteArray) : Bool :=
  if k = 0 then n == 0 && s.toList.isEmpty else if k = 1 then decide (-1000000000000 ≤ n) && decide (n ≤ 1000000000000) && s.toList.isEmpty
  else if k = 2 then (n == 0 || n == 1) && s.toList.isEmpty else if k = 3 then n == 0 && textB s else false
theorem take_snoc (s : ByteArray) (k : Nat) (h : k < s.size) : s.data.toList.take (k + 1) = s.data.toList.take k ++ [s[k]] := by
  rw [List.take_succ_eq_append_getElem (by simpa using h)]; rfl
theorem allB_snoc (l : List UInt8) (c : UInt8) : allB (l ++ [c]) = (allB l && byteB c.toNat) := by simp [allB]
theorem allB_no {s : ByteArray} {k : Nat} (h : k < s.size) (hb : byteB (s[k].toNat : Int) = false) : allB s.data.toList = false := by
  unfold allB
  rw [List.all_eq_false]
  exact ⟨s[k], by rw [ByteArray.getElem_eq_getElem_data]; simp, by simp [hb]⟩

theorem byte_calls (c : Int) (w : World) :
    Calls Tryd.prog 126 #[.int .u8 c] w fun e w' => e = .returned (.bool (byteB c)) ∧ w = w' := by
  go_enter Tryd.func126, Tryd.ntmps126
  go_wp2
  all_goals
    go_ret
    refine ⟨ret_bool ?_, rfl⟩
    simp_all [byteB, bne]
    try omega
theorem every_calls (s : ByteArray) (w : World) (hs : s.size ≤ maxLen) :
    Calls Tryd.prog 125 #[.string s, .func (.func 126) #[] #[]] w fun e w' => e = .returned (.bool (allB s.data.toList)) ∧ w = w' := by
  unfold maxLen at hs
  go_enter Tryd.func125, Tryd.ntmps125
  go_wp2_with fail
  go_loop [5] (fun i => ∃ k : Nat, k ≤ s.size ∧ i = .int .i64 k ∧ allB (s.data.toList.take k) = true) (fun i => s.size - (intOf i).toNat)
  case atStart => exact ⟨0, Nat.zero_le _, rfl, by simp [allB]⟩
  case round =>
    obtain ⟨k, hk, rfl, ha⟩ := hrel
    have HA : Hid (allB (s.data.toList.take k) = true) := ha
    clear ha
    by_cases hlt : k < s.size
    · have hts := take_snoc s k hlt
      have HS : Hid (s.data.toList.take (k + 1) = s.data.toList.take k ++ [s[k]]) := hts
      clear hts
      cases hb : byteB (s[k].toNat : Int)
      · have HN : Hid (allB s.data.toList = false) := allB_no hlt hb
        go_wp2_with (go_at_call 126; refine (byte_calls _ _).mono ?_; rintro e _ ⟨rfl, rfl⟩)
        go_ret
        exact ⟨ret_bool HN.out.symm, rfl⟩
      · go_wp2_with (go_at_call 126; refine (byte_calls _ _).mono ?_; rintro e _ ⟨rfl, rfl⟩)
        go_round
        case rel => exact ⟨k + 1, by omega, by go_num, by rw [HS.out, allB_snoc, HA.out, hb]; rfl⟩
        case measure => simp [intOf]; omega
    · go_wp2_with fail
      go_ret
      have e : s.data.toList.take k = s.data.toList := List.take_of_length_le (by simp; omega)
      exact ⟨ret_bool (by rw [← e]; exact HA.out.symm), rfl⟩
theorem validText_calls (s : ByteArray) (w : World) (hs : s.size ≤ maxLen) :
    Calls Tryd.prog 115 #[.string s] w fun e w' => e = .returned (.bool (textB s)) ∧ w = w' := by
  have hs' := hs
  unfold maxLen at hs'
  by_cases h : s.size ≤ 24
  all_goals
    go_enter Tryd.func115, Tryd.ntmps115
    go_wp2_with (go_at_call 125; refine (every_calls _ _ hs).mono ?_; rintro e _ ⟨rfl, rfl⟩)
    go_ret
    exact ⟨ret_bool (by simp [textB, h]), rfl⟩
set_option maxHeartbeats 1000000 in
theorem Valid_calls (k n : Int) (s : ByteArray) (w : World) (hs : s.size ≤ maxLen) :
    Calls Tryd.prog 93 #[.agg #[.int .i64 k, .int .i64 n, .string s]] w fun e w' => e = .returned (.bool (vB k n s)) ∧ Cls w w' := by
  have hm := hs
  unfold maxLen at hm
  go_enter Tryd.func93, Tryd.ntmps93
  go_wp2_with (go_at_call 115; refine (validText_calls _ _ hs).mono ?_; rintro e _ ⟨rfl, rfl⟩)
  all_goals
    go_ret
    refine ⟨ret_bool ?_, Cls.of ((Below.refl _ _).alloc (Nat.le_refl _) _)⟩
    simp_all [vB]
    try omega
set_option maxHeartbeats 1000000 in
theorem rValid_calls (k n : Int) (s : ByteArray) (w : World) (hs : s.size ≤ maxLen) :
    Calls Tryd.prog 14 #[.agg #[.int .i64 k, .int .i64 n, .string s]] w fun e w' => e = .returned (.bool (vB k n s)) ∧ Cls w w' := by
  have hm := hs
  unfold maxLen at hm
  by_cases hk : k = 3 ∧ n = 0 ∧ s.size ≤ 24
  · obtain ⟨rfl, rfl, hsz⟩ := hk
    have hv : vB 3 0 s = allB s.data.toList := by simp [vB, textB, hsz]
    have HV : Hid (vB 3 0 s = allB s.data.toList) := hv
    clear hv
    go_enter Tryd.func14, Tryd.ntmps14
    go_wp2_with fail
    go_loop [3] (fun i => ∃ k : Nat, k ≤ s.size ∧ i = .int .i64 k ∧ allB (s.data.toList.take k) = true) (fun i => s.size - (intOf i).toNat)
    case atStart => exact ⟨0, Nat.zero_le _, rfl, by simp [allB]⟩
    case round =>
      obtain ⟨k, hk, rfl, ha⟩ := hrel
      have HA : Hid (allB (s.data.toList.take k) = true) := ha
      clear ha
      by_cases hlt : k < s.size
      · have HS : Hid (s.data.toList.take (k + 1) = s.data.toList.take k ++ [s[k]]) := take_snoc s k hlt
        cases hb : byteB (s[k].toNat : Int)
        · have HN : Hid (allB s.data.toList = false) := allB_no hlt hb
          have HB : Hid (byteB (s[k].toNat : Int) = false) := hb
          clear hb
          go_wp2_with fail
          all_goals first
            | (go_ret; exact ⟨ret_bool (by rw [HV.out, HN.out]), Cls.of ((Below.refl _ _).alloc (Nat.le_refl _) _)⟩)
            | (exfalso; have := HB.out; simp_all [byteB]; done)
            | (exfalso; have := HB.out; simp_all [byteB]; omega)
        · have HB : Hid (byteB (s[k].toNat : Int) = true) := hb
          clear hb
          go_wp2_with fail
          all_goals first
            | (go_round
               case rel => exact ⟨k + 1, by omega, by go_num, by rw [HS.out, allB_snoc, HA.out, HB.out]; rfl⟩
               case measure => simp [intOf]; omega)
            | (exfalso; have := HB.out; simp_all [byteB]; done)
            | (exfalso; have := HB.out; simp_all [byteB]; omega)
      · go_wp2_with fail
        go_ret
        have e : s.data.toList.take k = s.data.toList := List.take_of_length_le (by simp; omega)
        exact ⟨ret_bool (by rw [HV.out, ← e]; exact HA.out.symm), Cls.of ((Below.refl _ _).alloc (Nat.le_refl _) _)⟩
  · have HK : Hid (¬ (k = 3 ∧ n = 0 ∧ s.size ≤ 24)) := hk
    clear hk
    by_cases h1 : s.size ≤ 24
    all_goals by_cases h2 : n = 0
    all_goals by_cases h3 : k = 3
    all_goals first
      | (exfalso; refine HK.out ?_; omega)
      | (go_enter Tryd.func14, Tryd.ntmps14
         go_wp2_with fail
         all_goals
           go_ret
           refine ⟨ret_bool ?_, Cls.of ((Below.refl _ _).alloc (Nat.le_refl _) _)⟩
           simp_all [vB, textB]
           try omega)
end Go.Proofs.YtonlmhehddbhoaaDoor
