/-
  How the program and the reference compare values: Compare, Same, Equal, Less and what they call, for all arguments.
-/
import Derived.Test.YtkmpaonakhfcjaaDoorLogic
import Derived.WalkLawsBesides
namespace Go.Proofs.YtkmpaonakhfcjaaDoor
open Go Go.RowKit

theorem cmpInt_calls (a b : Int) (w : World) : Calls Tryd.prog 135 #[.int .i64 a, .int .i64 b] w fun e w' => e = .returned (.int .i64 (cmpI a b)) ∧ w = w' := by
  go_enter Tryd.func135, Tryd.ntmps135
  go_wp2
  all_goals
    go_ret
    refine ⟨ret_int ?_, rfl⟩
    unfold cmpI
    repeat (first | rfl | rw [if_pos (by omega)] | rw [if_neg (by omega)])
theorem cmpInt64_calls (a b : Int) (w : World) : Calls Tryd.prog 136 #[.int .i64 a, .int .i64 b] w fun e w' => e = .returned (.int .i64 (cmpI a b)) ∧ w = w' := by
  go_enter Tryd.func136, Tryd.ntmps136
  go_wp2
  all_goals
    go_ret
    refine ⟨ret_int ?_, rfl⟩
    unfold cmpI
    repeat (first | rfl | rw [if_pos (by omega)] | rw [if_neg (by omega)])
theorem cmpStr_calls (a b : ByteArray) (w : World) : Calls Tryd.prog 137 #[.string a, .string b] w fun e w' => e = .returned (.int .i64 (cmpS a b)) ∧ w = w' := by
  go_enter Tryd.func137, Tryd.ntmps137
  go_wp2
  all_goals
    go_ret
    refine ⟨ret_int ?_, rfl⟩
    simp_all [cmpS]
theorem Compare_calls (k n : Int) (s : ByteArray) (k' n' : Int) (s' : ByteArray) (w : World) :
    Calls Tryd.prog 116 #[.agg #[.int .i64 k, .int .i64 n, .string s], .agg #[.int .i64 k', .int .i64 n', .string s']] w fun e w' => e = .returned (.int .i64 (cmpV k n s k' n' s')) ∧ Cls w w' := by
  go_enter Tryd.func116, Tryd.ntmps116
  go_wp2_with (first | (go_at_call 135; refine (cmpInt_calls _ _ _).mono ?_; rintro e _ ⟨rfl, rfl⟩) | (go_at_call 136; refine (cmpInt64_calls _ _ _).mono ?_; rintro e _ ⟨rfl, rfl⟩) | (go_at_call 137; refine (cmpStr_calls _ _ _).mono ?_; rintro e _ ⟨rfl, rfl⟩))
  all_goals
    go_ret
    refine ⟨ret_int ?_, Cls.of (((Below.refl _ _).alloc (Nat.le_refl _) _).alloc (by simp) _)⟩
    simp_all [cmpV]
set_option maxHeartbeats 800000 in
theorem rCompare_calls (k n : Int) (s : ByteArray) (k' n' : Int) (s' : ByteArray) (w : World) :
    Calls Tryd.prog 87 #[.agg #[.int .i64 k, .int .i64 n, .string s], .agg #[.int .i64 k', .int .i64 n', .string s']] w fun e w' => e = .returned (.int .i64 (cmpV k n s k' n' s')) ∧ Cls w w' := by
  go_enter Tryd.func87, Tryd.ntmps87
  go_wp2
  all_goals
    go_ret
    refine ⟨ret_int ?_, Cls.of (((Below.refl _ _).alloc (Nat.le_refl _) _).alloc (by simp) _)⟩
    first | (simp only [cmpV, cmpI]; split <;> (try split) <;> (try split) <;> omega) | (simp_all [cmpV, cmpS]; done) | (obtain rfl : k = k' := (by omega); obtain rfl : n = n' := (by omega); simp_all [cmpV, cmpS]; done)
theorem Same_calls (k n : Int) (s : ByteArray) (k' n' : Int) (s' : ByteArray) (w : World) :
    Calls Tryd.prog 82 #[.agg #[.int .i64 k, .int .i64 n, .string s], .agg #[.int .i64 k', .int .i64 n', .string s']] w fun e w' => e = .returned (.bool (sameB k n s k' n' s')) ∧ Cls w w' := by
  go_enter Tryd.func82, Tryd.ntmps82
  go_wp2
  all_goals
    go_ret
    refine ⟨ret_bool ?_, Cls.of (((Below.refl _ _).alloc (Nat.le_refl _) _).alloc (by simp) _)⟩
    first | rw [sameB_yes (by assumption) (by assumption) (by assumption)] | rw [sameB_no (by simp_all)]
theorem rSame_calls (k n : Int) (s : ByteArray) (k' n' : Int) (s' : ByteArray) (w : World) :
    Calls Tryd.prog 45 #[.agg #[.int .i64 k, .int .i64 n, .string s], .agg #[.int .i64 k', .int .i64 n', .string s']] w fun e w' => e = .returned (.bool (sameB k n s k' n' s')) ∧ Cls w w' := by
  go_enter Tryd.func45, Tryd.ntmps45
  go_wp2_with (first | (go_at_call 87; refine (rCompare_calls _ _ _ _ _ _ _).mono ?_; rintro e _ ⟨rfl, x, rfl⟩))
  all_goals
    go_ret
    refine ⟨rfl, ?_⟩
    refine Cls.of ?_
    repeat first | exact Below.refl _ _ | refine Below.setCell ?_ (by first | omega | (simp; done) | (simp; omega)) _ | refine Below.alloc ?_ (by first | omega | (simp; done) | (simp; omega)) _ | refine Below.drew ?_ | refine Ext.on _ ?_ (by first | omega | (simp; done) | (simp; omega))
theorem isNull_calls (k n : Int) (s : ByteArray) (w : World) :
    Calls Tryd.prog 111 #[.agg #[.int .i64 k, .int .i64 n, .string s]] w fun e w' => e = .returned (.bool (k == 0)) ∧ Cls w w' := by
  go_enter Tryd.func111, Tryd.ntmps111
  go_wp2
  all_goals
    go_ret
    exact ⟨rfl, Cls.of ((Below.refl _ _).alloc (Nat.le_refl _) _)⟩
theorem fromBool_calls (b : Bool) (w : World) :
    Calls Tryd.prog 112 #[.bool b] w fun e w' => e = .returned (.agg #[.int .i64 (tvK (b2i b)), .int .i64 (tvN (b2i b)), .string ⟨#[]⟩]) ∧ Cls w w' := by
  cases b
  all_goals
    go_enter Tryd.func112, Tryd.ntmps112
    go_wp2_with (first | (go_at_call 73; refine (Bool_calls _ _).mono ?_; rintro e _ ⟨rfl, x, rfl⟩))
    refine ret_ex rfl ?_
    simp [results, Tryd.results112, go_sem]
    refine ⟨⟨rfl, rfl⟩, ?_⟩
    refine Cls.of ?_
    repeat first | exact Below.refl _ _ | refine Below.setCell ?_ (by first | omega | (simp; done) | (simp; omega)) _ | refine Below.alloc ?_ (by first | omega | (simp; done) | (simp; omega)) _ | refine Below.drew ?_ | refine Ext.on _ ?_ (by first | omega | (simp; done) | (simp; omega))
theorem rOf_calls (b : Bool) (w : World) :
    Calls Tryd.prog 44 #[.bool b] w fun e w' => e = .returned (.agg #[.int .i64 (tvK (b2i b)), .int .i64 (tvN (b2i b)), .string ⟨#[]⟩]) ∧ Cls w w' := by
  cases b
  all_goals
    go_enter Tryd.func44, Tryd.ntmps44
    go_wp2_with (first | (go_at_call 86; refine (rBool_calls _ _).mono ?_; rintro e _ ⟨rfl, x, rfl⟩))
    refine ret_ex rfl ?_
    simp [results, Tryd.results44, go_sem]
    refine ⟨⟨rfl, rfl⟩, ?_⟩
    refine Cls.of ?_
    repeat first | exact Below.refl _ _ | refine Below.setCell ?_ (by first | omega | (simp; done) | (simp; omega)) _ | refine Below.alloc ?_ (by first | omega | (simp; done) | (simp; omega)) _ | refine Below.drew ?_ | refine Ext.on _ ?_ (by first | omega | (simp; done) | (simp; omega))
set_option maxHeartbeats 800000 in
theorem Equal_calls (k n : Int) (s : ByteArray) (k' n' : Int) (s' : ByteArray) (w : World) :
    Calls Tryd.prog 75 #[.agg #[.int .i64 k, .int .i64 n, .string s], .agg #[.int .i64 k', .int .i64 n', .string s']] w fun e w' => e = .returned (.agg #[.int .i64 (tvK (eqT k n s k' n' s')), .int .i64 (tvN (eqT k n s k' n' s')), .string ⟨#[]⟩]) ∧ Cls w w' := by
  by_cases hk : k = 0
  all_goals by_cases hk' : k' = 0
  all_goals
    have hb : (k == 0) = decide (k = 0) := rfl
    have hb' : (k' == 0) = decide (k' = 0) := rfl
    simp only [hk, hk', decide_true, decide_false] at hb hb'
    try subst hk
    try subst hk'
    go_enter Tryd.func75, Tryd.ntmps75
    go_wp2_with (first | (go_at_call 111; first | (with_reducible refine (Cls.call (isNull_calls _ _ _ _)).mono ?_; rintro e _ ⟨rfl, y, rfl⟩) | (refine (isNull_calls _ _ _ _).mono ?_; rintro e _ ⟨rfl, x, rfl⟩)) | (go_at_call 82; first | (with_reducible refine (Cls.call (Same_calls _ _ _ _ _ _ _)).mono ?_; rintro e _ ⟨rfl, y, rfl⟩) | (refine (Same_calls _ _ _ _ _ _ _).mono ?_; rintro e _ ⟨rfl, x, rfl⟩)) | (go_at_call 112; with_reducible refine (Cls.call (fromBool_calls _ _)).mono ?_; rintro e _ ⟨rfl, z, rfl⟩))
    refine ret_ex rfl ?_
    simp [results, Tryd.results75, go_sem]
    refine ⟨?_, ?_⟩
  all_goals first | (simp_all [eqT, tvK, tvN]; done) | skip
  all_goals
    refine Cls.of ?_
    repeat first | exact Below.refl _ _ | refine Below.setCell ?_ (by first | omega | (simp; done) | (simp; omega)) _ | refine Below.alloc ?_ (by first | omega | (simp; done) | (simp; omega)) _ | refine Below.drew ?_ | refine Ext.on _ ?_ (by first | omega | (simp; done) | (simp; omega))
set_option maxHeartbeats 800000 in
theorem Less_calls (k n : Int) (s : ByteArray) (k' n' : Int) (s' : ByteArray) (w : World) :
    Calls Tryd.prog 81 #[.agg #[.int .i64 k, .int .i64 n, .string s], .agg #[.int .i64 k', .int .i64 n', .string s']] w fun e w' => e = .returned (.agg #[.int .i64 (tvK (lessT k n s k' n' s')), .int .i64 (tvN (lessT k n s k' n' s')), .string ⟨#[]⟩]) ∧ Cls w w' := by
  by_cases hk : k = 0
  all_goals by_cases hk' : k' = 0
  all_goals
    have hb : (k == 0) = decide (k = 0) := rfl
    have hb' : (k' == 0) = decide (k' = 0) := rfl
    simp only [hk, hk', decide_true, decide_false] at hb hb'
    try subst hk
    try subst hk'
    go_enter Tryd.func81, Tryd.ntmps81
    go_wp2_with (first | (go_at_call 111; first | (with_reducible refine (Cls.call (isNull_calls _ _ _ _)).mono ?_; rintro e _ ⟨rfl, y, rfl⟩) | (refine (isNull_calls _ _ _ _).mono ?_; rintro e _ ⟨rfl, x, rfl⟩)) | (go_at_call 116; first | (with_reducible refine (Cls.call (Compare_calls _ _ _ _ _ _ _)).mono ?_; rintro e _ ⟨rfl, y, rfl⟩) | (refine (Compare_calls _ _ _ _ _ _ _).mono ?_; rintro e _ ⟨rfl, x, rfl⟩)) | (go_at_call 112; with_reducible refine (Cls.call (fromBool_calls _ _)).mono ?_; rintro e _ ⟨rfl, z, rfl⟩))
    refine ret_ex rfl ?_
    simp [results, Tryd.results81, go_sem]
    refine ⟨?_, ?_⟩
  all_goals first | (simp_all [lessT, tvK, tvN]; done) | skip
  all_goals
    refine Cls.of ?_
    repeat first | exact Below.refl _ _ | refine Below.setCell ?_ (by first | omega | (simp; done) | (simp; omega)) _ | refine Below.alloc ?_ (by first | omega | (simp; done) | (simp; omega)) _ | refine Below.drew ?_ | refine Ext.on _ ?_ (by first | omega | (simp; done) | (simp; omega))
set_option maxHeartbeats 800000 in
theorem rEqual_calls (k n : Int) (s : ByteArray) (k' n' : Int) (s' : ByteArray) (w : World) :
    Calls Tryd.prog 41 #[.agg #[.int .i64 k, .int .i64 n, .string s], .agg #[.int .i64 k', .int .i64 n', .string s']] w fun e w' => e = .returned (.agg #[.int .i64 (tvK (eqT k n s k' n' s')), .int .i64 (tvN (eqT k n s k' n' s')), .string ⟨#[]⟩]) ∧ Cls w w' := by
  by_cases hk : k = 0
  all_goals by_cases hk' : k' = 0
  all_goals
    have hb : (k == 0) = decide (k = 0) := rfl
    have hb' : (k' == 0) = decide (k' = 0) := rfl
    simp only [hk, hk', decide_true, decide_false] at hb hb'
    try subst hk
    try subst hk'
    go_enter Tryd.func41, Tryd.ntmps41
    go_wp2_with (first | (go_at_call 45; first | (with_reducible refine (Cls.call (rSame_calls _ _ _ _ _ _ _)).mono ?_; rintro e _ ⟨rfl, y, rfl⟩) | (refine (rSame_calls _ _ _ _ _ _ _).mono ?_; rintro e _ ⟨rfl, x, rfl⟩)) | (go_at_call 44; with_reducible refine (Cls.call (rOf_calls _ _)).mono ?_; rintro e _ ⟨rfl, z, rfl⟩))
    refine ret_ex rfl ?_
    simp [results, Tryd.results41, go_sem]
    refine ⟨?_, ?_⟩
  all_goals first | (simp_all [eqT, tvK, tvN]; done) | skip
  all_goals
    refine Cls.of ?_
    repeat first | exact Below.refl _ _ | refine Below.setCell ?_ (by first | omega | (simp; done) | (simp; omega)) _ | refine Below.alloc ?_ (by first | omega | (simp; done) | (simp; omega)) _ | refine Below.drew ?_ | refine Ext.on _ ?_ (by first | omega | (simp; done) | (simp; omega))
set_option maxHeartbeats 800000 in
theorem rLess_calls (k n : Int) (s : ByteArray) (k' n' : Int) (s' : ByteArray) (w : World) :
    Calls Tryd.prog 43 #[.agg #[.int .i64 k, .int .i64 n, .string s], .agg #[.int .i64 k', .int .i64 n', .string s']] w fun e w' => e = .returned (.agg #[.int .i64 (tvK (lessT k n s k' n' s')), .int .i64 (tvN (lessT k n s k' n' s')), .string ⟨#[]⟩]) ∧ Cls w w' := by
  by_cases hk : k = 0
  all_goals by_cases hk' : k' = 0
  all_goals
    have hb : (k == 0) = decide (k = 0) := rfl
    have hb' : (k' == 0) = decide (k' = 0) := rfl
    simp only [hk, hk', decide_true, decide_false] at hb hb'
    try subst hk
    try subst hk'
    go_enter Tryd.func43, Tryd.ntmps43
    go_wp2_with (first | (go_at_call 87; first | (with_reducible refine (Cls.call (rCompare_calls _ _ _ _ _ _ _)).mono ?_; rintro e _ ⟨rfl, y, rfl⟩) | (refine (rCompare_calls _ _ _ _ _ _ _).mono ?_; rintro e _ ⟨rfl, x, rfl⟩)) | (go_at_call 44; with_reducible refine (Cls.call (rOf_calls _ _)).mono ?_; rintro e _ ⟨rfl, z, rfl⟩))
    refine ret_ex rfl ?_
    simp [results, Tryd.results43, go_sem]
    refine ⟨?_, ?_⟩
  all_goals first | (simp_all [lessT, tvK, tvN]; done) | skip
  all_goals
    refine Cls.of ?_
    repeat first | exact Below.refl _ _ | refine Below.setCell ?_ (by first | omega | (simp; done) | (simp; omega)) _ | refine Below.alloc ?_ (by first | omega | (simp; done) | (simp; omega)) _ | refine Below.drew ?_ | refine Ext.on _ ?_ (by first | omega | (simp; done) | (simp; omega))
end Go.Proofs.YtkmpaonakhfcjaaDoor
