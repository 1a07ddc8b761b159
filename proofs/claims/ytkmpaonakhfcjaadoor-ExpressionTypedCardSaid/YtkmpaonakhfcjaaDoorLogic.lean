/-
  What the functions of truth values give: Truth, Bool, And, Or, Not of the program and of the reference, for all arguments.
-/
import Derived.Test.YtkmpaonakhfcjaaDoorChecked
import Derived.Test.YtkmpaonakhfcjaaDoorTail
import Derived.Test.YtkmpaonakhfcjaaDoorPlain
import Derived.Test.YtkmpaonakhfcjaaDoorTruth
import Derived.BigQuiet
namespace Go.Proofs.YtkmpaonakhfcjaaDoor
open Go Go.RowKit

theorem rTruth_calls (k n : Int) (s : ByteArray) (w : World) :
    Calls Tryd.prog 48 #[.agg #[.int .i64 k, .int .i64 n, .string s]] w fun e w' => e = .returned (.int .i64 (truT k n)) ∧ Cls w w' := by
  go_enter Tryd.func48, Tryd.ntmps48
  go_wp2
  all_goals
    go_ret
    refine ⟨?_, Cls.of ((Below.refl _ _).alloc (Nat.le_refl _) _)⟩
    simp_all [truT]
set_option maxHeartbeats 400000 in
theorem decide_and (a b : Int) (w : World) :
    Calls Tryd.prog 110 #[.int .i64 0, .int .i64 a, .int .i64 b] w fun e w' => e = .returned (.agg #[.int .i64 (tvK (andT a b)), .int .i64 (tvN (andT a b)), .string ⟨#[]⟩]) ∧ Cls w w' := by
  go_enter Tryd.func110, Tryd.ntmps110
  go_wp2_with (first | (go_at_call 73; refine (Bool_calls _ _).mono ?_; rintro e _ ⟨rfl, x, rfl⟩))
  all_goals
    refine ret_ex rfl ?_
    simp [results, Tryd.results110, go_sem]
    refine ⟨?_, ?_⟩
  all_goals first | (simp_all [tvK, tvN]; done) | (simp_all [tvK, tvN, andT]; done) | (simp_all [tvK, tvN, andT]; omega) | skip
  all_goals
    refine Cls.of ?_
    repeat first | exact Below.refl _ _ | refine Below.setCell ?_ (by first | omega | (simp; done) | (simp; omega)) _ | refine Below.alloc ?_ (by first | omega | (simp; done) | (simp; omega)) _ | refine Below.drew ?_ | refine Ext.on _ ?_ (by first | omega | (simp; done) | (simp; omega))
set_option maxHeartbeats 400000 in
theorem decide_or (a b : Int) (w : World) :
    Calls Tryd.prog 110 #[.int .i64 1, .int .i64 a, .int .i64 b] w fun e w' => e = .returned (.agg #[.int .i64 (tvK (orT a b)), .int .i64 (tvN (orT a b)), .string ⟨#[]⟩]) ∧ Cls w w' := by
  go_enter Tryd.func110, Tryd.ntmps110
  go_wp2_with (first | (go_at_call 73; refine (Bool_calls _ _).mono ?_; rintro e _ ⟨rfl, x, rfl⟩))
  all_goals
    refine ret_ex rfl ?_
    simp [results, Tryd.results110, go_sem]
    refine ⟨?_, ?_⟩
  all_goals first | (simp_all [tvK, tvN]; done) | (simp_all [tvK, tvN, orT]; done) | (simp_all [tvK, tvN, orT]; omega) | skip
  all_goals
    refine Cls.of ?_
    repeat first | exact Below.refl _ _ | refine Below.setCell ?_ (by first | omega | (simp; done) | (simp; omega)) _ | refine Below.alloc ?_ (by first | omega | (simp; done) | (simp; omega)) _ | refine Below.drew ?_ | refine Ext.on _ ?_ (by first | omega | (simp; done) | (simp; omega))
theorem And_calls (k n : Int) (s : ByteArray) (k' n' : Int) (s' : ByteArray) (w : World) :
    Calls Tryd.prog 83 #[.agg #[.int .i64 k, .int .i64 n, .string s], .agg #[.int .i64 k', .int .i64 n', .string s']] w fun e w' => e = .returned (.agg #[.int .i64 (tvK (andT (truT k n) (truT k' n'))), .int .i64 (tvN (andT (truT k n) (truT k' n'))), .string ⟨#[]⟩]) ∧ Cls w w' := by
  go_enter Tryd.func83, Tryd.ntmps83
  go_wp2
  refine wp_region_ext_tail 5 (by kernel_rfl) (by kernel_rfl) ?_
  simp only [List.take_succ_cons, List.take_zero, List.drop_succ_cons, List.drop_zero]
  repeat (go_big_quiet_step (first | (go_at_call 109; exact Cls.call (Truth_calls _ _ _ _)) | (go_at_call 110; exact Cls.call (decide_and _ _ _))))
  refine wpQuiet_nil ?_
  rintro _ ⟨x, rfl⟩
  go_wp2
  refine ret_ex rfl ?_
  simp [results, Tryd.results83, go_sem]
  refine Cls.of ?_
  repeat first | exact Below.refl _ _ | refine Below.setCell ?_ (by first | omega | (simp; done) | (simp; omega)) _ | refine Below.alloc ?_ (by first | omega | (simp; done) | (simp; omega)) _ | refine Below.drew ?_ | refine Ext.on _ ?_ (by first | omega | (simp; done) | (simp; omega))
theorem Or_calls (k n : Int) (s : ByteArray) (k' n' : Int) (s' : ByteArray) (w : World) :
    Calls Tryd.prog 74 #[.agg #[.int .i64 k, .int .i64 n, .string s], .agg #[.int .i64 k', .int .i64 n', .string s']] w fun e w' => e = .returned (.agg #[.int .i64 (tvK (orT (truT k n) (truT k' n'))), .int .i64 (tvN (orT (truT k n) (truT k' n'))), .string ⟨#[]⟩]) ∧ Cls w w' := by
  go_enter Tryd.func74, Tryd.ntmps74
  go_wp2
  refine wp_region_ext_tail 5 (by kernel_rfl) (by kernel_rfl) ?_
  simp only [List.take_succ_cons, List.take_zero, List.drop_succ_cons, List.drop_zero]
  repeat (go_big_quiet_step (first | (go_at_call 109; exact Cls.call (Truth_calls _ _ _ _)) | (go_at_call 110; exact Cls.call (decide_or _ _ _))))
  refine wpQuiet_nil ?_
  rintro _ ⟨x, rfl⟩
  go_wp2
  refine ret_ex rfl ?_
  simp [results, Tryd.results74, go_sem]
  refine Cls.of ?_
  repeat first | exact Below.refl _ _ | refine Below.setCell ?_ (by first | omega | (simp; done) | (simp; omega)) _ | refine Below.alloc ?_ (by first | omega | (simp; done) | (simp; omega)) _ | refine Below.drew ?_ | refine Ext.on _ ?_ (by first | omega | (simp; done) | (simp; omega))
set_option maxHeartbeats 400000 in
theorem rAnd_calls (k n : Int) (s : ByteArray) (k' n' : Int) (s' : ByteArray) (w : World) :
    Calls Tryd.prog 46 #[.agg #[.int .i64 k, .int .i64 n, .string s], .agg #[.int .i64 k', .int .i64 n', .string s']] w fun e w' => e = .returned (.agg #[.int .i64 (tvK (andT (truT k n) (truT k' n'))), .int .i64 (tvN (andT (truT k n) (truT k' n'))), .string ⟨#[]⟩]) ∧ Cls w w' := by
  go_enter Tryd.func46, Tryd.ntmps46
  go_wp2
  refine wp_region_ext (by kernel_rfl) (by kernel_rfl) ?_
  repeat (go_big_quiet_step ((go_at_call 48; exact Cls.call (rTruth_calls _ _ _ _))))
  refine wpQuiet_nil ?_
  rintro _ ⟨x, rfl⟩
  go_wp2_with (first | (go_at_call 86; with_reducible refine (Cls.call (rBool_calls _ _)).mono ?_; rintro e _ ⟨rfl, y, rfl⟩))
  all_goals
    refine ret_ex rfl ?_
    simp [results, Tryd.results46, go_sem]
    refine ⟨?_, ?_⟩
  all_goals first | (simp_all [tvK, tvN]; done) | (simp_all [tvK, tvN, andT]; done) | (simp_all [tvK, tvN, andT]; omega) | skip
  all_goals
    refine Cls.of ?_
    repeat first | exact Below.refl _ _ | refine Below.setCell ?_ (by first | omega | (simp; done) | (simp; omega)) _ | refine Below.alloc ?_ (by first | omega | (simp; done) | (simp; omega)) _ | refine Below.drew ?_ | refine Ext.on _ ?_ (by first | omega | (simp; done) | (simp; omega))
set_option maxHeartbeats 400000 in
theorem rOr_calls (k n : Int) (s : ByteArray) (k' n' : Int) (s' : ByteArray) (w : World) :
    Calls Tryd.prog 47 #[.agg #[.int .i64 k, .int .i64 n, .string s], .agg #[.int .i64 k', .int .i64 n', .string s']] w fun e w' => e = .returned (.agg #[.int .i64 (tvK (orT (truT k n) (truT k' n'))), .int .i64 (tvN (orT (truT k n) (truT k' n'))), .string ⟨#[]⟩]) ∧ Cls w w' := by
  go_enter Tryd.func47, Tryd.ntmps47
  go_wp2
  refine wp_region_ext (by kernel_rfl) (by kernel_rfl) ?_
  repeat (go_big_quiet_step ((go_at_call 48; exact Cls.call (rTruth_calls _ _ _ _))))
  refine wpQuiet_nil ?_
  rintro _ ⟨x, rfl⟩
  go_wp2_with (first | (go_at_call 86; with_reducible refine (Cls.call (rBool_calls _ _)).mono ?_; rintro e _ ⟨rfl, y, rfl⟩))
  all_goals
    refine ret_ex rfl ?_
    simp [results, Tryd.results47, go_sem]
    refine ⟨?_, ?_⟩
  all_goals first | (simp_all [tvK, tvN]; done) | (simp_all [tvK, tvN, orT]; done) | (simp_all [tvK, tvN, orT]; omega) | skip
  all_goals
    refine Cls.of ?_
    repeat first | exact Below.refl _ _ | refine Below.setCell ?_ (by first | omega | (simp; done) | (simp; omega)) _ | refine Below.alloc ?_ (by first | omega | (simp; done) | (simp; omega)) _ | refine Below.drew ?_ | refine Ext.on _ ?_ (by first | omega | (simp; done) | (simp; omega))
set_option maxHeartbeats 400000 in
theorem Not_calls (k n : Int) (s : ByteArray) (w : World) :
    Calls Tryd.prog 80 #[.agg #[.int .i64 k, .int .i64 n, .string s]] w fun e w' => e = .returned (.agg #[.int .i64 (tvK (notT (truT k n))), .int .i64 (tvN (notT (truT k n))), .string ⟨#[]⟩]) ∧ Cls w w' := by
  have hT := truT_cases k n
  go_enter Tryd.func80, Tryd.ntmps80
  go_wp2_with (first | (go_at_call 109; refine (Truth_calls _ _ _ _).mono ?_; rintro e _ ⟨rfl, x, rfl⟩) | (go_at_call 73; with_reducible refine (Cls.call (Bool_calls _ _)).mono ?_; rintro e _ ⟨rfl, y, rfl⟩))
  all_goals
    refine ret_ex rfl ?_
    simp [results, Tryd.results80, go_sem]
    refine ⟨?_, ?_⟩
  all_goals first | (simp_all [tvK, tvN]; done) | (simp_all [tvK, tvN, notT]; done) | (simp_all [tvK, tvN, notT]; omega) | skip
  all_goals
    refine Cls.of ?_
    repeat first | exact Below.refl _ _ | refine Below.setCell ?_ (by first | omega | (simp; done) | (simp; omega)) _ | refine Below.alloc ?_ (by first | omega | (simp; done) | (simp; omega)) _ | refine Below.drew ?_ | refine Ext.on _ ?_ (by first | omega | (simp; done) | (simp; omega))
set_option maxHeartbeats 400000 in
theorem rNot_calls (k n : Int) (s : ByteArray) (w : World) :
    Calls Tryd.prog 42 #[.agg #[.int .i64 k, .int .i64 n, .string s]] w fun e w' => e = .returned (.agg #[.int .i64 (tvK (notT (truT k n))), .int .i64 (tvN (notT (truT k n))), .string ⟨#[]⟩]) ∧ Cls w w' := by
  have hT := truT_cases k n
  go_enter Tryd.func42, Tryd.ntmps42
  go_wp2_with (first | (go_at_call 48; refine (rTruth_calls _ _ _ _).mono ?_; rintro e _ ⟨rfl, x, rfl⟩) | (go_at_call 86; with_reducible refine (Cls.call (rBool_calls _ _)).mono ?_; rintro e _ ⟨rfl, y, rfl⟩))
  all_goals
    refine ret_ex rfl ?_
    simp [results, Tryd.results42, go_sem]
    refine ⟨?_, ?_⟩
  all_goals first | (simp_all [tvK, tvN]; done) | (simp_all [tvK, tvN, notT]; done) | (simp_all [tvK, tvN, notT]; omega) | skip
  all_goals
    refine Cls.of ?_
    repeat first | exact Below.refl _ _ | refine Below.setCell ?_ (by first | omega | (simp; done) | (simp; omega)) _ | refine Below.alloc ?_ (by first | omega | (simp; done) | (simp; omega)) _ | refine Below.drew ?_ | refine Ext.on _ ?_ (by first | omega | (simp; done) | (simp; omega))
end Go.Proofs.YtkmpaonakhfcjaaDoor
