/-
  What the functions of truth values give: Truth, Bool, And, Or, Not of the program and of the reference, for all arguments.
-/
import Derived.Test.YtgmpdngolpkjjaaChecked
import Derived.Test.YtgmpdngolpkjjaaTail
import Derived.Test.YtgmpdngolpkjjaaPlain
import Derived.BigQuiet
namespace Go.Proofs.Ytgmpdngolpkjjaa
open Go Go.RowKit

theorem Truth_calls (k n : Int) (s : ByteArray) (w : World) :
    Calls Try.prog 18 #[.agg #[.int .i64 k, .int .i64 n, .string s]] w fun e w' => e = .returned (.int .i64 (truT k n)) ∧ Cls w w' := by
  go_enter Try.func18, Try.ntmps18
  go_wp2
  all_goals
    go_ret
    refine ⟨?_, Cls.of ((Below.refl _ _).alloc (Nat.le_refl _) _)⟩
    simp_all [truT]
theorem rTruth_calls (k n : Int) (s : ByteArray) (w : World) :
    Calls Try.prog 19 #[.agg #[.int .i64 k, .int .i64 n, .string s]] w fun e w' => e = .returned (.int .i64 (truT k n)) ∧ Cls w w' := by
  go_enter Try.func19, Try.ntmps19
  go_wp2
  all_goals
    go_ret
    refine ⟨?_, Cls.of ((Below.refl _ _).alloc (Nat.le_refl _) _)⟩
    simp_all [truT]
theorem Bool_calls (n : Int) (w : World) :
    Calls Try.prog 20 #[.int .i64 n] w fun e w' => e = .returned (.agg #[.int .i64 (tvK n), .int .i64 (tvN n), .string ⟨#[]⟩]) ∧ Cls w w' := by
  go_enter Try.func20, Try.ntmps20
  go_wp2
  all_goals
    refine ret_ex rfl ?_
    simp [results, Try.results20, go_sem]
    refine ⟨?_, Cls.of ((Below.refl _ _).alloc (Nat.le_refl _) _)⟩
  all_goals simp_all [tvK, tvN]
  all_goals omega
theorem rBool_calls (n : Int) (w : World) :
    Calls Try.prog 21 #[.int .i64 n] w fun e w' => e = .returned (.agg #[.int .i64 (tvK n), .int .i64 (tvN n), .string ⟨#[]⟩]) ∧ Cls w w' := by
  go_enter Try.func21, Try.ntmps21
  go_wp2
  all_goals
    refine ret_ex rfl ?_
    simp [results, Try.results21, go_sem]
    refine ⟨?_, Cls.of ((Below.refl _ _).alloc (Nat.le_refl _) _)⟩
  all_goals simp_all [tvK, tvN]
  all_goals omega
set_option maxHeartbeats 400000 in
theorem decide_and (a b : Int) (w : World) :
    Calls Try.prog 41 #[.int .i64 0, .int .i64 a, .int .i64 b] w fun e w' => e = .returned (.agg #[.int .i64 (tvK (andT a b)), .int .i64 (tvN (andT a b)), .string ⟨#[]⟩]) ∧ Cls w w' := by
  go_enter Try.func41, Try.ntmps41
  go_wp2_with (first | (go_at_call 20; refine (Bool_calls _ _).mono ?_; rintro e _ ⟨rfl, x, rfl⟩))
  all_goals
    refine ret_ex rfl ?_
    simp [results, Try.results41, go_sem]
    refine ⟨?_, ?_⟩
  all_goals first | (simp_all [tvK, tvN]; done) | (simp_all [tvK, tvN, andT]; done) | (simp_all [tvK, tvN, andT]; omega) | skip
  all_goals
    refine Cls.of ?_
    repeat first | exact Below.refl _ _ | refine Below.setCell ?_ (by first | omega | (simp; done) | (simp; omega)) _ | refine Below.alloc ?_ (by first | omega | (simp; done) | (simp; omega)) _ | refine Below.drew ?_ | refine Ext.on _ ?_ (by first | omega | (simp; done) | (simp; omega))
set_option maxHeartbeats 400000 in
theorem decide_or (a b : Int) (w : World) :
    Calls Try.prog 41 #[.int .i64 1, .int .i64 a, .int .i64 b] w fun e w' => e = .returned (.agg #[.int .i64 (tvK (orT a b)), .int .i64 (tvN (orT a b)), .string ⟨#[]⟩]) ∧ Cls w w' := by
  go_enter Try.func41, Try.ntmps41
  go_wp2_with (first | (go_at_call 20; refine (Bool_calls _ _).mono ?_; rintro e _ ⟨rfl, x, rfl⟩))
  all_goals
    refine ret_ex rfl ?_
    simp [results, Try.results41, go_sem]
    refine ⟨?_, ?_⟩
  all_goals first | (simp_all [tvK, tvN]; done) | (simp_all [tvK, tvN, orT]; done) | (simp_all [tvK, tvN, orT]; omega) | skip
  all_goals
    refine Cls.of ?_
    repeat first | exact Below.refl _ _ | refine Below.setCell ?_ (by first | omega | (simp; done) | (simp; omega)) _ | refine Below.alloc ?_ (by first | omega | (simp; done) | (simp; omega)) _ | refine Below.drew ?_ | refine Ext.on _ ?_ (by first | omega | (simp; done) | (simp; omega))
theorem And_calls (k n : Int) (s : ByteArray) (k' n' : Int) (s' : ByteArray) (w : World) :
    Calls Try.prog 26 #[.agg #[.int .i64 k, .int .i64 n, .string s], .agg #[.int .i64 k', .int .i64 n', .string s']] w fun e w' => e = .returned (.agg #[.int .i64 (tvK (andT (truT k n) (truT k' n'))), .int .i64 (tvN (andT (truT k n) (truT k' n'))), .string ⟨#[]⟩]) ∧ Cls w w' := by
  go_enter Try.func26, Try.ntmps26
  go_wp2
  refine wp_region_ext_tail 5 (by kernel_rfl) (by kernel_rfl) ?_
  simp only [List.take_succ_cons, List.take_zero, List.drop_succ_cons, List.drop_zero]
  repeat (go_big_quiet_step (first | (go_at_call 18; exact Cls.call (Truth_calls _ _ _ _)) | (go_at_call 41; exact Cls.call (decide_and _ _ _))))
  refine wpQuiet_nil ?_
  rintro _ ⟨x, rfl⟩
  go_wp2
  refine ret_ex rfl ?_
  simp [results, Try.results26, go_sem]
  refine Cls.of ?_
  repeat first | exact Below.refl _ _ | refine Below.setCell ?_ (by first | omega | (simp; done) | (simp; omega)) _ | refine Below.alloc ?_ (by first | omega | (simp; done) | (simp; omega)) _ | refine Below.drew ?_ | refine Ext.on _ ?_ (by first | omega | (simp; done) | (simp; omega))
theorem Or_calls (k n : Int) (s : ByteArray) (k' n' : Int) (s' : ByteArray) (w : World) :
    Calls Try.prog 28 #[.agg #[.int .i64 k, .int .i64 n, .string s], .agg #[.int .i64 k', .int .i64 n', .string s']] w fun e w' => e = .returned (.agg #[.int .i64 (tvK (orT (truT k n) (truT k' n'))), .int .i64 (tvN (orT (truT k n) (truT k' n'))), .string ⟨#[]⟩]) ∧ Cls w w' := by
  go_enter Try.func28, Try.ntmps28
  go_wp2
  refine wp_region_ext_tail 5 (by kernel_rfl) (by kernel_rfl) ?_
  simp only [List.take_succ_cons, List.take_zero, List.drop_succ_cons, List.drop_zero]
  repeat (go_big_quiet_step (first | (go_at_call 18; exact Cls.call (Truth_calls _ _ _ _)) | (go_at_call 41; exact Cls.call (decide_or _ _ _))))
  refine wpQuiet_nil ?_
  rintro _ ⟨x, rfl⟩
  go_wp2
  refine ret_ex rfl ?_
  simp [results, Try.results28, go_sem]
  refine Cls.of ?_
  repeat first | exact Below.refl _ _ | refine Below.setCell ?_ (by first | omega | (simp; done) | (simp; omega)) _ | refine Below.alloc ?_ (by first | omega | (simp; done) | (simp; omega)) _ | refine Below.drew ?_ | refine Ext.on _ ?_ (by first | omega | (simp; done) | (simp; omega))
set_option maxHeartbeats 400000 in
theorem rAnd_calls (k n : Int) (s : ByteArray) (k' n' : Int) (s' : ByteArray) (w : World) :
    Calls Try.prog 27 #[.agg #[.int .i64 k, .int .i64 n, .string s], .agg #[.int .i64 k', .int .i64 n', .string s']] w fun e w' => e = .returned (.agg #[.int .i64 (tvK (andT (truT k n) (truT k' n'))), .int .i64 (tvN (andT (truT k n) (truT k' n'))), .string ⟨#[]⟩]) ∧ Cls w w' := by
  go_enter Try.func27, Try.ntmps27
  go_wp2
  refine wp_region_ext (by kernel_rfl) (by kernel_rfl) ?_
  repeat (go_big_quiet_step ((go_at_call 19; exact Cls.call (rTruth_calls _ _ _ _))))
  refine wpQuiet_nil ?_
  rintro _ ⟨x, rfl⟩
  go_wp2_with (first | (go_at_call 21; with_reducible refine (Cls.call (rBool_calls _ _)).mono ?_; rintro e _ ⟨rfl, y, rfl⟩))
  all_goals
    refine ret_ex rfl ?_
    simp [results, Try.results27, go_sem]
    refine ⟨?_, ?_⟩
  all_goals first | (simp_all [tvK, tvN]; done) | (simp_all [tvK, tvN, andT]; done) | (simp_all [tvK, tvN, andT]; omega) | skip
  all_goals
    refine Cls.of ?_
    repeat first | exact Below.refl _ _ | refine Below.setCell ?_ (by first | omega | (simp; done) | (simp; omega)) _ | refine Below.alloc ?_ (by first | omega | (simp; done) | (simp; omega)) _ | refine Below.drew ?_ | refine Ext.on _ ?_ (by first | omega | (simp; done) | (simp; omega))
set_option maxHeartbeats 400000 in
theorem rOr_calls (k n : Int) (s : ByteArray) (k' n' : Int) (s' : ByteArray) (w : World) :
    Calls Try.prog 29 #[.agg #[.int .i64 k, .int .i64 n, .string s], .agg #[.int .i64 k', .int .i64 n', .string s']] w fun e w' => e = .returned (.agg #[.int .i64 (tvK (orT (truT k n) (truT k' n'))), .int .i64 (tvN (orT (truT k n) (truT k' n'))), .string ⟨#[]⟩]) ∧ Cls w w' := by
  go_enter Try.func29, Try.ntmps29
  go_wp2
  refine wp_region_ext (by kernel_rfl) (by kernel_rfl) ?_
  repeat (go_big_quiet_step ((go_at_call 19; exact Cls.call (rTruth_calls _ _ _ _))))
  refine wpQuiet_nil ?_
  rintro _ ⟨x, rfl⟩
  go_wp2_with (first | (go_at_call 21; with_reducible refine (Cls.call (rBool_calls _ _)).mono ?_; rintro e _ ⟨rfl, y, rfl⟩))
  all_goals
    refine ret_ex rfl ?_
    simp [results, Try.results29, go_sem]
    refine ⟨?_, ?_⟩
  all_goals first | (simp_all [tvK, tvN]; done) | (simp_all [tvK, tvN, orT]; done) | (simp_all [tvK, tvN, orT]; omega) | skip
  all_goals
    refine Cls.of ?_
    repeat first | exact Below.refl _ _ | refine Below.setCell ?_ (by first | omega | (simp; done) | (simp; omega)) _ | refine Below.alloc ?_ (by first | omega | (simp; done) | (simp; omega)) _ | refine Below.drew ?_ | refine Ext.on _ ?_ (by first | omega | (simp; done) | (simp; omega))
set_option maxHeartbeats 400000 in
theorem Not_calls (k n : Int) (s : ByteArray) (w : World) :
    Calls Try.prog 30 #[.agg #[.int .i64 k, .int .i64 n, .string s]] w fun e w' => e = .returned (.agg #[.int .i64 (tvK (notT (truT k n))), .int .i64 (tvN (notT (truT k n))), .string ⟨#[]⟩]) ∧ Cls w w' := by
  have hT := truT_cases k n
  go_enter Try.func30, Try.ntmps30
  go_wp2_with (first | (go_at_call 18; refine (Truth_calls _ _ _ _).mono ?_; rintro e _ ⟨rfl, x, rfl⟩) | (go_at_call 20; with_reducible refine (Cls.call (Bool_calls _ _)).mono ?_; rintro e _ ⟨rfl, y, rfl⟩))
  all_goals
    refine ret_ex rfl ?_
    simp [results, Try.results30, go_sem]
    refine ⟨?_, ?_⟩
  all_goals first | (simp_all [tvK, tvN]; done) | (simp_all [tvK, tvN, notT]; done) | (simp_all [tvK, tvN, notT]; omega) | skip
  all_goals
    refine Cls.of ?_
    repeat first | exact Below.refl _ _ | refine Below.setCell ?_ (by first | omega | (simp; done) | (simp; omega)) _ | refine Below.alloc ?_ (by first | omega | (simp; done) | (simp; omega)) _ | refine Below.drew ?_ | refine Ext.on _ ?_ (by first | omega | (simp; done) | (simp; omega))
set_option maxHeartbeats 400000 in
theorem rNot_calls (k n : Int) (s : ByteArray) (w : World) :
    Calls Try.prog 31 #[.agg #[.int .i64 k, .int .i64 n, .string s]] w fun e w' => e = .returned (.agg #[.int .i64 (tvK (notT (truT k n))), .int .i64 (tvN (notT (truT k n))), .string ⟨#[]⟩]) ∧ Cls w w' := by
  have hT := truT_cases k n
  go_enter Try.func31, Try.ntmps31
  go_wp2_with (first | (go_at_call 19; refine (rTruth_calls _ _ _ _).mono ?_; rintro e _ ⟨rfl, x, rfl⟩) | (go_at_call 21; with_reducible refine (Cls.call (rBool_calls _ _)).mono ?_; rintro e _ ⟨rfl, y, rfl⟩))
  all_goals
    refine ret_ex rfl ?_
    simp [results, Try.results31, go_sem]
    refine ⟨?_, ?_⟩
  all_goals first | (simp_all [tvK, tvN]; done) | (simp_all [tvK, tvN, notT]; done) | (simp_all [tvK, tvN, notT]; omega) | skip
  all_goals
    refine Cls.of ?_
    repeat first | exact Below.refl _ _ | refine Below.setCell ?_ (by first | omega | (simp; done) | (simp; omega)) _ | refine Below.alloc ?_ (by first | omega | (simp; done) | (simp; omega)) _ | refine Below.drew ?_ | refine Ext.on _ ?_ (by first | omega | (simp; done) | (simp; omega))
end Go.Proofs.Ytgmpdngolpkjjaa
