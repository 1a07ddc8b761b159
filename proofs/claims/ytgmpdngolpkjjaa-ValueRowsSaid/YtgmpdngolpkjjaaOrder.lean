/-
  How the program and the reference compare values: Compare, Same, Equal, Less and what they call, for all arguments.
-/
import Derived.Test.YtgmpdngolpkjjaaLogic
import Derived.WalkLawsBesides
namespace Go.Proofs.Ytgmpdngolpkjjaa
open Go Go.RowKit

theorem cmpInt_calls (a b : Int) (w : World) : Calls Try.prog 35 #[.int .i64 a, .int .i64 b] w fun e w' => e = .returned (.int .i64 (cmpI a b)) ∧ w = w' := by
  go_enter Try.func35, Try.ntmps35
  go_wp2
  all_goals
    go_ret
    refine ⟨ret_int ?_, rfl⟩
    unfold cmpI
    repeat (first | rfl | rw [if_pos (by omega)] | rw [if_neg (by omega)])
theorem cmpInt64_calls (a b : Int) (w : World) : Calls Try.prog 36 #[.int .i64 a, .int .i64 b] w fun e w' => e = .returned (.int .i64 (cmpI a b)) ∧ w = w' := by
  go_enter Try.func36, Try.ntmps36
  go_wp2
  all_goals
    go_ret
    refine ⟨ret_int ?_, rfl⟩
    unfold cmpI
    repeat (first | rfl | rw [if_pos (by omega)] | rw [if_neg (by omega)])
theorem cmpStr_calls (a b : ByteArray) (w : World) : Calls Try.prog 37 #[.string a, .string b] w fun e w' => e = .returned (.int .i64 (cmpS a b)) ∧ w = w' := by
  go_enter Try.func37, Try.ntmps37
  go_wp2
  all_goals
    go_ret
    refine ⟨ret_int ?_, rfl⟩
    simp_all [cmpS]
theorem Compare_calls (k n : Int) (s : ByteArray) (k' n' : Int) (s' : ByteArray) (w : World) :
    Calls Try.prog 12 #[.agg #[.int .i64 k, .int .i64 n, .string s], .agg #[.int .i64 k', .int .i64 n', .string s']] w fun e w' => e = .returned (.int .i64 (cmpV k n s k' n' s')) ∧ Cls w w' := by
  go_enter Try.func12, Try.ntmps12
  go_wp2_with (first | (go_at_call 35; refine (cmpInt_calls _ _ _).mono ?_; rintro e _ ⟨rfl, rfl⟩) | (go_at_call 36; refine (cmpInt64_calls _ _ _).mono ?_; rintro e _ ⟨rfl, rfl⟩) | (go_at_call 37; refine (cmpStr_calls _ _ _).mono ?_; rintro e _ ⟨rfl, rfl⟩))
  all_goals
    go_ret
    refine ⟨ret_int ?_, Cls.of (((Below.refl _ _).alloc (Nat.le_refl _) _).alloc (by simp) _)⟩
    simp_all [cmpV]
set_option maxHeartbeats 800000 in
theorem rCompare_calls (k n : Int) (s : ByteArray) (k' n' : Int) (s' : ByteArray) (w : World) :
    Calls Try.prog 14 #[.agg #[.int .i64 k, .int .i64 n, .string s], .agg #[.int .i64 k', .int .i64 n', .string s']] w fun e w' => e = .returned (.int .i64 (cmpV k n s k' n' s')) ∧ Cls w w' := by
  go_enter Try.func14, Try.ntmps14
  go_wp2
  all_goals
    go_ret
    refine ⟨ret_int ?_, Cls.of (((Below.refl _ _).alloc (Nat.le_refl _) _).alloc (by simp) _)⟩
    first | (simp only [cmpV, cmpI]; split <;> (try split) <;> (try split) <;> omega) | (simp_all [cmpV, cmpS]; done) | (obtain rfl : k = k' := (by omega); obtain rfl : n = n' := (by omega); simp_all [cmpV, cmpS]; done)
theorem Same_calls (k n : Int) (s : ByteArray) (k' n' : Int) (s' : ByteArray) (w : World) :
    Calls Try.prog 13 #[.agg #[.int .i64 k, .int .i64 n, .string s], .agg #[.int .i64 k', .int .i64 n', .string s']] w fun e w' => e = .returned (.bool (sameB k n s k' n' s')) ∧ Cls w w' := by
  go_enter Try.func13, Try.ntmps13
  go_wp2
  all_goals
    go_ret
    refine ⟨ret_bool ?_, Cls.of (((Below.refl _ _).alloc (Nat.le_refl _) _).alloc (by simp) _)⟩
    first | rw [sameB_yes (by assumption) (by assumption) (by assumption)] | rw [sameB_no (by simp_all)]
theorem rSame_calls (k n : Int) (s : ByteArray) (k' n' : Int) (s' : ByteArray) (w : World) :
    Calls Try.prog 15 #[.agg #[.int .i64 k, .int .i64 n, .string s], .agg #[.int .i64 k', .int .i64 n', .string s']] w fun e w' => e = .returned (.bool (sameB k n s k' n' s')) ∧ Cls w w' := by
  go_enter Try.func15, Try.ntmps15
  go_wp2_with (first | (go_at_call 14; refine (rCompare_calls _ _ _ _ _ _ _).mono ?_; rintro e _ ⟨rfl, x, rfl⟩))
  all_goals
    go_ret
    refine ⟨rfl, ?_⟩
    refine Cls.of ?_
    repeat first | exact Below.refl _ _ | refine Below.setCell ?_ (by first | omega | (simp; done) | (simp; omega)) _ | refine Below.alloc ?_ (by first | omega | (simp; done) | (simp; omega)) _ | refine Below.drew ?_ | refine Ext.on _ ?_ (by first | omega | (simp; done) | (simp; omega))
theorem isNull_calls (k n : Int) (s : ByteArray) (w : World) :
    Calls Try.prog 38 #[.agg #[.int .i64 k, .int .i64 n, .string s]] w fun e w' => e = .returned (.bool (k == 0)) ∧ Cls w w' := by
  go_enter Try.func38, Try.ntmps38
  go_wp2
  all_goals
    go_ret
    exact ⟨rfl, Cls.of ((Below.refl _ _).alloc (Nat.le_refl _) _)⟩
theorem fromBool_calls (b : Bool) (w : World) :
    Calls Try.prog 39 #[.bool b] w fun e w' => e = .returned (.agg #[.int .i64 (tvK (b2i b)), .int .i64 (tvN (b2i b)), .string ⟨#[]⟩]) ∧ Cls w w' := by
  cases b
  all_goals
    go_enter Try.func39, Try.ntmps39
    go_wp2_with (first | (go_at_call 20; refine (Bool_calls _ _).mono ?_; rintro e _ ⟨rfl, x, rfl⟩))
    refine ret_ex rfl ?_
    simp [results, Try.results39, go_sem]
    refine ⟨⟨rfl, rfl⟩, ?_⟩
    refine Cls.of ?_
    repeat first | exact Below.refl _ _ | refine Below.setCell ?_ (by first | omega | (simp; done) | (simp; omega)) _ | refine Below.alloc ?_ (by first | omega | (simp; done) | (simp; omega)) _ | refine Below.drew ?_ | refine Ext.on _ ?_ (by first | omega | (simp; done) | (simp; omega))
theorem rOf_calls (b : Bool) (w : World) :
    Calls Try.prog 40 #[.bool b] w fun e w' => e = .returned (.agg #[.int .i64 (tvK (b2i b)), .int .i64 (tvN (b2i b)), .string ⟨#[]⟩]) ∧ Cls w w' := by
  cases b
  all_goals
    go_enter Try.func40, Try.ntmps40
    go_wp2_with (first | (go_at_call 21; refine (rBool_calls _ _).mono ?_; rintro e _ ⟨rfl, x, rfl⟩))
    refine ret_ex rfl ?_
    simp [results, Try.results40, go_sem]
    refine ⟨⟨rfl, rfl⟩, ?_⟩
    refine Cls.of ?_
    repeat first | exact Below.refl _ _ | refine Below.setCell ?_ (by first | omega | (simp; done) | (simp; omega)) _ | refine Below.alloc ?_ (by first | omega | (simp; done) | (simp; omega)) _ | refine Below.drew ?_ | refine Ext.on _ ?_ (by first | omega | (simp; done) | (simp; omega))
set_option maxHeartbeats 800000 in
theorem Equal_calls (k n : Int) (s : ByteArray) (k' n' : Int) (s' : ByteArray) (w : World) :
    Calls Try.prog 22 #[.agg #[.int .i64 k, .int .i64 n, .string s], .agg #[.int .i64 k', .int .i64 n', .string s']] w fun e w' => e = .returned (.agg #[.int .i64 (tvK (eqT k n s k' n' s')), .int .i64 (tvN (eqT k n s k' n' s')), .string ⟨#[]⟩]) ∧ Cls w w' := by
  by_cases hk : k = 0
  all_goals by_cases hk' : k' = 0
  all_goals
    have hb : (k == 0) = decide (k = 0) := rfl
    have hb' : (k' == 0) = decide (k' = 0) := rfl
    simp only [hk, hk', decide_true, decide_false] at hb hb'
    try subst hk
    try subst hk'
    go_enter Try.func22, Try.ntmps22
    go_wp2_with (first | (go_at_call 38; first | (with_reducible refine (Cls.call (isNull_calls _ _ _ _)).mono ?_; rintro e _ ⟨rfl, y, rfl⟩) | (refine (isNull_calls _ _ _ _).mono ?_; rintro e _ ⟨rfl, x, rfl⟩)) | (go_at_call 13; first | (with_reducible refine (Cls.call (Same_calls _ _ _ _ _ _ _)).mono ?_; rintro e _ ⟨rfl, y, rfl⟩) | (refine (Same_calls _ _ _ _ _ _ _).mono ?_; rintro e _ ⟨rfl, x, rfl⟩)) | (go_at_call 39; with_reducible refine (Cls.call (fromBool_calls _ _)).mono ?_; rintro e _ ⟨rfl, z, rfl⟩))
    refine ret_ex rfl ?_
    simp [results, Try.results22, go_sem]
    refine ⟨?_, ?_⟩
  all_goals first | (simp_all [eqT, tvK, tvN]; done) | skip
  all_goals
    refine Cls.of ?_
    repeat first | exact Below.refl _ _ | refine Below.setCell ?_ (by first | omega | (simp; done) | (simp; omega)) _ | refine Below.alloc ?_ (by first | omega | (simp; done) | (simp; omega)) _ | refine Below.drew ?_ | refine Ext.on _ ?_ (by first | omega | (simp; done) | (simp; omega))
set_option maxHeartbeats 800000 in
theorem Less_calls (k n : Int) (s : ByteArray) (k' n' : Int) (s' : ByteArray) (w : World) :
    Calls Try.prog 24 #[.agg #[.int .i64 k, .int .i64 n, .string s], .agg #[.int .i64 k', .int .i64 n', .string s']] w fun e w' => e = .returned (.agg #[.int .i64 (tvK (lessT k n s k' n' s')), .int .i64 (tvN (lessT k n s k' n' s')), .string ⟨#[]⟩]) ∧ Cls w w' := by
  by_cases hk : k = 0
  all_goals by_cases hk' : k' = 0
  all_goals
    have hb : (k == 0) = decide (k = 0) := rfl
    have hb' : (k' == 0) = decide (k' = 0) := rfl
    simp only [hk, hk', decide_true, decide_false] at hb hb'
    try subst hk
    try subst hk'
    go_enter Try.func24, Try.ntmps24
    go_wp2_with (first | (go_at_call 38; first | (with_reducible refine (Cls.call (isNull_calls _ _ _ _)).mono ?_; rintro e _ ⟨rfl, y, rfl⟩) | (refine (isNull_calls _ _ _ _).mono ?_; rintro e _ ⟨rfl, x, rfl⟩)) | (go_at_call 12; first | (with_reducible refine (Cls.call (Compare_calls _ _ _ _ _ _ _)).mono ?_; rintro e _ ⟨rfl, y, rfl⟩) | (refine (Compare_calls _ _ _ _ _ _ _).mono ?_; rintro e _ ⟨rfl, x, rfl⟩)) | (go_at_call 39; with_reducible refine (Cls.call (fromBool_calls _ _)).mono ?_; rintro e _ ⟨rfl, z, rfl⟩))
    refine ret_ex rfl ?_
    simp [results, Try.results24, go_sem]
    refine ⟨?_, ?_⟩
  all_goals first | (simp_all [lessT, tvK, tvN]; done) | skip
  all_goals
    refine Cls.of ?_
    repeat first | exact Below.refl _ _ | refine Below.setCell ?_ (by first | omega | (simp; done) | (simp; omega)) _ | refine Below.alloc ?_ (by first | omega | (simp; done) | (simp; omega)) _ | refine Below.drew ?_ | refine Ext.on _ ?_ (by first | omega | (simp; done) | (simp; omega))
set_option maxHeartbeats 800000 in
theorem rEqual_calls (k n : Int) (s : ByteArray) (k' n' : Int) (s' : ByteArray) (w : World) :
    Calls Try.prog 23 #[.agg #[.int .i64 k, .int .i64 n, .string s], .agg #[.int .i64 k', .int .i64 n', .string s']] w fun e w' => e = .returned (.agg #[.int .i64 (tvK (eqT k n s k' n' s')), .int .i64 (tvN (eqT k n s k' n' s')), .string ⟨#[]⟩]) ∧ Cls w w' := by
  by_cases hk : k = 0
  all_goals by_cases hk' : k' = 0
  all_goals
    have hb : (k == 0) = decide (k = 0) := rfl
    have hb' : (k' == 0) = decide (k' = 0) := rfl
    simp only [hk, hk', decide_true, decide_false] at hb hb'
    try subst hk
    try subst hk'
    go_enter Try.func23, Try.ntmps23
    go_wp2_with (first | (go_at_call 15; first | (with_reducible refine (Cls.call (rSame_calls _ _ _ _ _ _ _)).mono ?_; rintro e _ ⟨rfl, y, rfl⟩) | (refine (rSame_calls _ _ _ _ _ _ _).mono ?_; rintro e _ ⟨rfl, x, rfl⟩)) | (go_at_call 40; with_reducible refine (Cls.call (rOf_calls _ _)).mono ?_; rintro e _ ⟨rfl, z, rfl⟩))
    refine ret_ex rfl ?_
    simp [results, Try.results23, go_sem]
    refine ⟨?_, ?_⟩
  all_goals first | (simp_all [eqT, tvK, tvN]; done) | skip
  all_goals
    refine Cls.of ?_
    repeat first | exact Below.refl _ _ | refine Below.setCell ?_ (by first | omega | (simp; done) | (simp; omega)) _ | refine Below.alloc ?_ (by first | omega | (simp; done) | (simp; omega)) _ | refine Below.drew ?_ | refine Ext.on _ ?_ (by first | omega | (simp; done) | (simp; omega))
set_option maxHeartbeats 800000 in
theorem rLess_calls (k n : Int) (s : ByteArray) (k' n' : Int) (s' : ByteArray) (w : World) :
    Calls Try.prog 25 #[.agg #[.int .i64 k, .int .i64 n, .string s], .agg #[.int .i64 k', .int .i64 n', .string s']] w fun e w' => e = .returned (.agg #[.int .i64 (tvK (lessT k n s k' n' s')), .int .i64 (tvN (lessT k n s k' n' s')), .string ⟨#[]⟩]) ∧ Cls w w' := by
  by_cases hk : k = 0
  all_goals by_cases hk' : k' = 0
  all_goals
    have hb : (k == 0) = decide (k = 0) := rfl
    have hb' : (k' == 0) = decide (k' = 0) := rfl
    simp only [hk, hk', decide_true, decide_false] at hb hb'
    try subst hk
    try subst hk'
    go_enter Try.func25, Try.ntmps25
    go_wp2_with (first | (go_at_call 14; first | (with_reducible refine (Cls.call (rCompare_calls _ _ _ _ _ _ _)).mono ?_; rintro e _ ⟨rfl, y, rfl⟩) | (refine (rCompare_calls _ _ _ _ _ _ _).mono ?_; rintro e _ ⟨rfl, x, rfl⟩)) | (go_at_call 40; with_reducible refine (Cls.call (rOf_calls _ _)).mono ?_; rintro e _ ⟨rfl, z, rfl⟩))
    refine ret_ex rfl ?_
    simp [results, Try.results25, go_sem]
    refine ⟨?_, ?_⟩
  all_goals first | (simp_all [lessT, tvK, tvN]; done) | skip
  all_goals
    refine Cls.of ?_
    repeat first | exact Below.refl _ _ | refine Below.setCell ?_ (by first | omega | (simp; done) | (simp; omega)) _ | refine Below.alloc ?_ (by first | omega | (simp; done) | (simp; omega)) _ | refine Below.drew ?_ | refine Ext.on _ ?_ (by first | omega | (simp; done) | (simp; omega))
end Go.Proofs.Ytgmpdngolpkjjaa
