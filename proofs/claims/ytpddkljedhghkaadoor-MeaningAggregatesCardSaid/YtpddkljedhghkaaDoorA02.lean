/-
  How the program and the reference compare values: Compare, Same, Equal, Less and what they call, for all arguments. What Valid says, of the program and of the reference, for all values; and what they call. Products of valid numbers, of the program and of the reference: whether they fit, and what they are.
-/
import Derived.Test.YtpddkljedhghkaaDoorA01
import Derived.WalkLawsBesides
import Derived.Test.YtpddkljedhghkaaDoorChecked
import Derived.BigQuiet
import Derived.Lib.Hide
namespace Go.Proofs.YtpddkljedhghkaaDoor
open Go Go.RowKit

theorem cmpInt_calls (a b : Int) (w : World) : Calls Tryd.prog 140 #[.int .i64 a, .int .i64 b] w fun e w' => e = .returned (.int .i64 (cmpI a b)) ∧ w = w' := by
  go_enter Tryd.func140, Tryd.ntmps140
  go_wp2
  all_goals
    go_ret
    refine ⟨ret_int ?_, rfl⟩
    unfold cmpI
    repeat (first | rfl | rw [if_pos (by omega)] | rw [if_neg (by omega)])
theorem cmpInt64_calls (a b : Int) (w : World) : Calls Tryd.prog 141 #[.int .i64 a, .int .i64 b] w fun e w' => e = .returned (.int .i64 (cmpI a b)) ∧ w = w' := by
  go_enter Tryd.func141, Tryd.ntmps141
  go_wp2
  all_goals
    go_ret
    refine ⟨ret_int ?_, rfl⟩
    unfold cmpI
    repeat (first | rfl | rw [if_pos (by omega)] | rw [if_neg (by omega)])
theorem cmpStr_calls (a b : ByteArray) (w : World) : Calls Tryd.prog 142 #[.string a, .string b] w fun e w' => e = .returned (.int .i64 (cmpS a b)) ∧ w = w' := by
  go_enter Tryd.func142, Tryd.ntmps142
  go_wp2
  all_goals
    go_ret
    refine ⟨ret_int ?_, rfl⟩
    simp_all [cmpS]
theorem Compare_calls (k n : Int) (s : ByteArray) (k' n' : Int) (s' : ByteArray) (w : World) :
    Calls Tryd.prog 111 #[.agg #[.int .i64 k, .int .i64 n, .string s], .agg #[.int .i64 k', .int .i64 n', .string s']] w fun e w' => e = .returned (.int .i64 (cmpV k n s k' n' s')) ∧ Cls w w' := by
  go_enter Tryd.func111, Tryd.ntmps111
  go_wp2_with (first | (go_at_call 140; refine (cmpInt_calls _ _ _).mono ?_; rintro e _ ⟨rfl, rfl⟩) | (go_at_call 141; refine (cmpInt64_calls _ _ _).mono ?_; rintro e _ ⟨rfl, rfl⟩) | (go_at_call 142; refine (cmpStr_calls _ _ _).mono ?_; rintro e _ ⟨rfl, rfl⟩))
  all_goals
    go_ret
    refine ⟨ret_int ?_, Cls.of (((Below.refl _ _).alloc (Nat.le_refl _) _).alloc (by simp) _)⟩
    simp_all [cmpV]
set_option maxHeartbeats 800000 in
theorem rCompare_calls (k n : Int) (s : ByteArray) (k' n' : Int) (s' : ByteArray) (w : World) :
    Calls Tryd.prog 94 #[.agg #[.int .i64 k, .int .i64 n, .string s], .agg #[.int .i64 k', .int .i64 n', .string s']] w fun e w' => e = .returned (.int .i64 (cmpV k n s k' n' s')) ∧ Cls w w' := by
  go_enter Tryd.func94, Tryd.ntmps94
  go_wp2
  all_goals
    go_ret
    refine ⟨ret_int ?_, Cls.of (((Below.refl _ _).alloc (Nat.le_refl _) _).alloc (by simp) _)⟩
    first | (simp only [cmpV, cmpI]; split <;> (try split) <;> (try split) <;> omega) | (simp_all [cmpV, cmpS]; done) | (obtain rfl : k = k' := (by omega); obtain rfl : n = n' := (by omega); simp_all [cmpV, cmpS]; done)
theorem Same_calls (k n : Int) (s : ByteArray) (k' n' : Int) (s' : ByteArray) (w : World) :
    Calls Tryd.prog 89 #[.agg #[.int .i64 k, .int .i64 n, .string s], .agg #[.int .i64 k', .int .i64 n', .string s']] w fun e w' => e = .returned (.bool (sameB k n s k' n' s')) ∧ Cls w w' := by
  go_enter Tryd.func89, Tryd.ntmps89
  go_wp2
  all_goals
    go_ret
    refine ⟨ret_bool ?_, Cls.of (((Below.refl _ _).alloc (Nat.le_refl _) _).alloc (by simp) _)⟩
    first | rw [sameB_yes (by assumption) (by assumption) (by assumption)] | rw [sameB_no (by simp_all)]
theorem rSame_calls (k n : Int) (s : ByteArray) (k' n' : Int) (s' : ByteArray) (w : World) :
    Calls Tryd.prog 47 #[.agg #[.int .i64 k, .int .i64 n, .string s], .agg #[.int .i64 k', .int .i64 n', .string s']] w fun e w' => e = .returned (.bool (sameB k n s k' n' s')) ∧ Cls w w' := by
  go_enter Tryd.func47, Tryd.ntmps47
  go_wp2_with (first | (go_at_call 94; refine (rCompare_calls _ _ _ _ _ _ _).mono ?_; rintro e _ ⟨rfl, x, rfl⟩))
  all_goals
    go_ret
    refine ⟨rfl, ?_⟩
    refine Cls.of ?_
    repeat first | exact Below.refl _ _ | refine Below.setCell ?_ (by first | omega | (simp; done) | (simp; omega)) _ | refine Below.alloc ?_ (by first | omega | (simp; done) | (simp; omega)) _ | refine Below.drew ?_ | refine Ext.on _ ?_ (by first | omega | (simp; done) | (simp; omega))
theorem isNull_calls (k n : Int) (s : ByteArray) (w : World) :
    Calls Tryd.prog 120 #[.agg #[.int .i64 k, .int .i64 n, .string s]] w fun e w' => e = .returned (.bool (k == 0)) ∧ Cls w w' := by
  go_enter Tryd.func120, Tryd.ntmps120
  go_wp2
  all_goals
    go_ret
    exact ⟨rfl, Cls.of ((Below.refl _ _).alloc (Nat.le_refl _) _)⟩
theorem fromBool_calls (b : Bool) (w : World) :
    Calls Tryd.prog 121 #[.bool b] w fun e w' => e = .returned (.agg #[.int .i64 (tvK (b2i b)), .int .i64 (tvN (b2i b)), .string ⟨#[]⟩]) ∧ Cls w w' := by
  cases b
  all_goals
    go_enter Tryd.func121, Tryd.ntmps121
    go_wp2_with (first | (go_at_call 80; refine (Bool_calls _ _).mono ?_; rintro e _ ⟨rfl, x, rfl⟩))
    refine ret_ex rfl ?_
    simp [results, Tryd.results121, go_sem]
    refine ⟨⟨rfl, rfl⟩, ?_⟩
    refine Cls.of ?_
    repeat first | exact Below.refl _ _ | refine Below.setCell ?_ (by first | omega | (simp; done) | (simp; omega)) _ | refine Below.alloc ?_ (by first | omega | (simp; done) | (simp; omega)) _ | refine Below.drew ?_ | refine Ext.on _ ?_ (by first | omega | (simp; done) | (simp; omega))
theorem rOf_calls (b : Bool) (w : World) :
    Calls Tryd.prog 46 #[.bool b] w fun e w' => e = .returned (.agg #[.int .i64 (tvK (b2i b)), .int .i64 (tvN (b2i b)), .string ⟨#[]⟩]) ∧ Cls w w' := by
  cases b
  all_goals
    go_enter Tryd.func46, Tryd.ntmps46
    go_wp2_with (first | (go_at_call 93; refine (rBool_calls _ _).mono ?_; rintro e _ ⟨rfl, x, rfl⟩))
    refine ret_ex rfl ?_
    simp [results, Tryd.results46, go_sem]
    refine ⟨⟨rfl, rfl⟩, ?_⟩
    refine Cls.of ?_
    repeat first | exact Below.refl _ _ | refine Below.setCell ?_ (by first | omega | (simp; done) | (simp; omega)) _ | refine Below.alloc ?_ (by first | omega | (simp; done) | (simp; omega)) _ | refine Below.drew ?_ | refine Ext.on _ ?_ (by first | omega | (simp; done) | (simp; omega))
set_option maxHeartbeats 800000 in
theorem Equal_calls (k n : Int) (s : ByteArray) (k' n' : Int) (s' : ByteArray) (w : World) :
    Calls Tryd.prog 82 #[.agg #[.int .i64 k, .int .i64 n, .string s], .agg #[.int .i64 k', .int .i64 n', .string s']] w fun e w' => e = .returned (.agg #[.int .i64 (tvK (eqT k n s k' n' s')), .int .i64 (tvN (eqT k n s k' n' s')), .string ⟨#[]⟩]) ∧ Cls w w' := by
  by_cases hk : k = 0
  all_goals by_cases hk' : k' = 0
  all_goals
    have hb : (k == 0) = decide (k = 0) := rfl
    have hb' : (k' == 0) = decide (k' = 0) := rfl
    simp only [hk, hk', decide_true, decide_false] at hb hb'
    try subst hk
    try subst hk'
    go_enter Tryd.func82, Tryd.ntmps82
    go_wp2_with (first | (go_at_call 120; first | (with_reducible refine (Cls.call (isNull_calls _ _ _ _)).mono ?_; rintro e _ ⟨rfl, y, rfl⟩) | (refine (isNull_calls _ _ _ _).mono ?_; rintro e _ ⟨rfl, x, rfl⟩)) | (go_at_call 89; first | (with_reducible refine (Cls.call (Same_calls _ _ _ _ _ _ _)).mono ?_; rintro e _ ⟨rfl, y, rfl⟩) | (refine (Same_calls _ _ _ _ _ _ _).mono ?_; rintro e _ ⟨rfl, x, rfl⟩)) | (go_at_call 121; with_reducible refine (Cls.call (fromBool_calls _ _)).mono ?_; rintro e _ ⟨rfl, z, rfl⟩))
    refine ret_ex rfl ?_
    simp [results, Tryd.results82, go_sem]
    refine ⟨?_, ?_⟩
  all_goals first | (simp_all [eqT, tvK, tvN]; done) | skip
  all_goals
    refine Cls.of ?_
    repeat first | exact Below.refl _ _ | refine Below.setCell ?_ (by first | omega | (simp; done) | (simp; omega)) _ | refine Below.alloc ?_ (by first | omega | (simp; done) | (simp; omega)) _ | refine Below.drew ?_ | refine Ext.on _ ?_ (by first | omega | (simp; done) | (simp; omega))
set_option maxHeartbeats 800000 in
theorem Less_calls (k n : Int) (s : ByteArray) (k' n' : Int) (s' : ByteArray) (w : World) :
    Calls Tryd.prog 88 #[.agg #[.int .i64 k, .int .i64 n, .string s], .agg #[.int .i64 k', .int .i64 n', .string s']] w fun e w' => e = .returned (.agg #[.int .i64 (tvK (lessT k n s k' n' s')), .int .i64 (tvN (lessT k n s k' n' s')), .string ⟨#[]⟩]) ∧ Cls w w' := by
  by_cases hk : k = 0
  all_goals by_cases hk' : k' = 0
  all_goals
    have hb : (k == 0) = decide (k = 0) := rfl
    have hb' : (k' == 0) = decide (k' = 0) := rfl
    simp only [hk, hk', decide_true, decide_false] at hb hb'
    try subst hk
    try subst hk'
    go_enter Tryd.func88, Tryd.ntmps88
    go_wp2_with (first | (go_at_call 120; first | (with_reducible refine (Cls.call (isNull_calls _ _ _ _)).mono ?_; rintro e _ ⟨rfl, y, rfl⟩) | (refine (isNull_calls _ _ _ _).mono ?_; rintro e _ ⟨rfl, x, rfl⟩)) | (go_at_call 111; first | (with_reducible refine (Cls.call (Compare_calls _ _ _ _ _ _ _)).mono ?_; rintro e _ ⟨rfl, y, rfl⟩) | (refine (Compare_calls _ _ _ _ _ _ _).mono ?_; rintro e _ ⟨rfl, x, rfl⟩)) | (go_at_call 121; with_reducible refine (Cls.call (fromBool_calls _ _)).mono ?_; rintro e _ ⟨rfl, z, rfl⟩))
    refine ret_ex rfl ?_
    simp [results, Tryd.results88, go_sem]
    refine ⟨?_, ?_⟩
  all_goals first | (simp_all [lessT, tvK, tvN]; done) | skip
  all_goals
    refine Cls.of ?_
    repeat first | exact Below.refl _ _ | refine Below.setCell ?_ (by first | omega | (simp; done) | (simp; omega)) _ | refine Below.alloc ?_ (by first | omega | (simp; done) | (simp; omega)) _ | refine Below.drew ?_ | refine Ext.on _ ?_ (by first | omega | (simp; done) | (simp; omega))
set_option maxHeartbeats 800000 in
theorem rEqual_calls (k n : Int) (s : ByteArray) (k' n' : Int) (s' : ByteArray) (w : World) :
    Calls Tryd.prog 43 #[.agg #[.int .i64 k, .int .i64 n, .string s], .agg #[.int .i64 k', .int .i64 n', .string s']] w fun e w' => e = .returned (.agg #[.int .i64 (tvK (eqT k n s k' n' s')), .int .i64 (tvN (eqT k n s k' n' s')), .string ⟨#[]⟩]) ∧ Cls w w' := by
  by_cases hk : k = 0
  all_goals by_cases hk' : k' = 0
  all_goals
    have hb : (k == 0) = decide (k = 0) := rfl
    have hb' : (k' == 0) = decide (k' = 0) := rfl
    simp only [hk, hk', decide_true, decide_false] at hb hb'
    try subst hk
    try subst hk'
    go_enter Tryd.func43, Tryd.ntmps43
    go_wp2_with (first | (go_at_call 47; first | (with_reducible refine (Cls.call (rSame_calls _ _ _ _ _ _ _)).mono ?_; rintro e _ ⟨rfl, y, rfl⟩) | (refine (rSame_calls _ _ _ _ _ _ _).mono ?_; rintro e _ ⟨rfl, x, rfl⟩)) | (go_at_call 46; with_reducible refine (Cls.call (rOf_calls _ _)).mono ?_; rintro e _ ⟨rfl, z, rfl⟩))
    refine ret_ex rfl ?_
    simp [results, Tryd.results43, go_sem]
    refine ⟨?_, ?_⟩
  all_goals first | (simp_all [eqT, tvK, tvN]; done) | skip
  all_goals
    refine Cls.of ?_
    repeat first | exact Below.refl _ _ | refine Below.setCell ?_ (by first | omega | (simp; done) | (simp; omega)) _ | refine Below.alloc ?_ (by first | omega | (simp; done) | (simp; omega)) _ | refine Below.drew ?_ | refine Ext.on _ ?_ (by first | omega | (simp; done) | (simp; omega))
set_option maxHeartbeats 800000 in
theorem rLess_calls (k n : Int) (s : ByteArray) (k' n' : Int) (s' : ByteArray) (w : World) :
    Calls Tryd.prog 45 #[.agg #[.int .i64 k, .int .i64 n, .string s], .agg #[.int .i64 k', .int .i64 n', .string s']] w fun e w' => e = .returned (.agg #[.int .i64 (tvK (lessT k n s k' n' s')), .int .i64 (tvN (lessT k n s k' n' s')), .string ⟨#[]⟩]) ∧ Cls w w' := by
  by_cases hk : k = 0
  all_goals by_cases hk' : k' = 0
  all_goals
    have hb : (k == 0) = decide (k = 0) := rfl
    have hb' : (k' == 0) = decide (k' = 0) := rfl
    simp only [hk, hk', decide_true, decide_false] at hb hb'
    try subst hk
    try subst hk'
    go_enter Tryd.func45, Tryd.ntmps45
    go_wp2_with (first | (go_at_call 94; first | (with_reducible refine (Cls.call (rCompare_calls _ _ _ _ _ _ _)).mono ?_; rintro e _ ⟨rfl, y, rfl⟩) | (refine (rCompare_calls _ _ _ _ _ _ _).mono ?_; rintro e _ ⟨rfl, x, rfl⟩)) | (go_at_call 46; with_reducible refine (Cls.call (rOf_calls _ _)).mono ?_; rintro e _ ⟨rfl, z, rfl⟩))
    refine ret_ex rfl ?_
    simp [results, Tryd.results45, go_sem]
    refine ⟨?_, ?_⟩
  all_goals first | (simp_all [lessT, tvK, tvN]; done) | skip
  all_goals
    refine Cls.of ?_
    repeat first | exact Below.refl _ _ | refine Below.setCell ?_ (by first | omega | (simp; done) | (simp; omega)) _ | refine Below.alloc ?_ (by first | omega | (simp; done) | (simp; omega)) _ | refine Below.drew ?_ | refine Ext.on _ ?_ (by first | omega | (simp; done) | (simp; omega))
end Go.Proofs.YtpddkljedhghkaaDoor
set_option linter.unusedVariables false
namespace Go.Proofs.YtpddkljedhghkaaDoor
open Go Go.RowKit

def byteB (c : Int) : Bool := decide (32 ≤ c) && decide (c ≤ 126) && !(c == 39)
def allB (l : List UInt8) : Bool := l.all fun c => byteB c.toNat
def textB (s : ByteArray) : Bool := decide (s.size ≤ 24) && allB s.data.toList
def vB (k n : Int) (s : ByteArray) : Bool :=
  if k = 0 then n == 0 && s.toList.isEmpty else if k = 1 then decide (-1000000000000 ≤ n) && decide (n ≤ 1000000000000) && s.toList.isEmpty
  else if k = 2 then (n == 0 || n == 1) && s.toList.isEmpty else if k = 3 then n == 0 && textB s else false
theorem take_snoc (s : ByteArray) (k : Nat) (h : k < s.size) : s.data.toList.take (k + 1) = s.data.toList.take k ++ [s[k]] := by
  rw [List.take_succ_eq_append_getElem (by simpa using h)]; rfl
theorem allB_snoc (l : List UInt8) (c : UInt8) : allB (l ++ [c]) = (allB l && byteB c.toNat) := by simp [allB]
theorem allB_no {s : ByteArray} {k : Nat} (h : k < s.size) (hb : byteB (s[k].toNat : Int) = false) : allB s.data.toList = false := by
  unfold allB
  rw [List.all_eq_false]
  exact ⟨s[k], by rw [ByteArray.getElem_eq_getElem_data]; simp, by simp [hb]⟩

theorem byte_calls (c : Int) (w : World) :
    Calls Tryd.prog 167 #[.int .u8 c] w fun e w' => e = .returned (.bool (byteB c)) ∧ w = w' := by
  go_enter Tryd.func167, Tryd.ntmps167
  go_wp2
  all_goals
    go_ret
    refine ⟨ret_bool ?_, rfl⟩
    simp_all [byteB, bne]
    try omega
theorem every_calls (s : ByteArray) (w : World) (hs : s.size ≤ maxLen) :
    Calls Tryd.prog 166 #[.string s, .func (.func 167) #[] #[]] w fun e w' => e = .returned (.bool (allB s.data.toList)) ∧ w = w' := by
  unfold maxLen at hs
  go_enter Tryd.func166, Tryd.ntmps166
  go_wp2_with fail
  go_loop [5] (fun i => ∃ k : Nat, k ≤ s.size ∧ i = .int .i64 k ∧ allB (s.data.toList.take k) = true) (fun i => s.size - (intOf i).toNat)
  case atStart => exact ⟨0, Nat.zero_le _, rfl, by simp [allB]⟩
  case round =>
    obtain ⟨k, hk, rfl, ha⟩ := hrel
    have HA : Hid (allB (s.data.toList.take k) = true) := ha
    clear ha
    by_cases hlt : k < s.size
    · have hts := take_snoc s k hlt
      have HS : Hid (s.data.toList.take (k + 1) = s.data.toList.take k ++ [s[k]]) := hts
      clear hts
      cases hb : byteB (s[k].toNat : Int)
      · have HN : Hid (allB s.data.toList = false) := allB_no hlt hb
        go_wp2_with (go_at_call 167; refine (byte_calls _ _).mono ?_; rintro e _ ⟨rfl, rfl⟩)
        go_ret
        exact ⟨ret_bool HN.out.symm, rfl⟩
      · go_wp2_with (go_at_call 167; refine (byte_calls _ _).mono ?_; rintro e _ ⟨rfl, rfl⟩)
        go_round
        case rel => exact ⟨k + 1, by omega, by go_num, by rw [HS.out, allB_snoc, HA.out, hb]; rfl⟩
        case measure => simp [intOf]; omega
    · go_wp2_with fail
      go_ret
      have e : s.data.toList.take k = s.data.toList := List.take_of_length_le (by simp; omega)
      exact ⟨ret_bool (by rw [← e]; exact HA.out.symm), rfl⟩
theorem validText_calls (s : ByteArray) (w : World) (hs : s.size ≤ maxLen) :
    Calls Tryd.prog 143 #[.string s] w fun e w' => e = .returned (.bool (textB s)) ∧ w = w' := by
  have hs' := hs
  unfold maxLen at hs'
  by_cases h : s.size ≤ 24
  all_goals
    go_enter Tryd.func143, Tryd.ntmps143
    go_wp2_with (go_at_call 166; refine (every_calls _ _ hs).mono ?_; rintro e _ ⟨rfl, rfl⟩)
    go_ret
    exact ⟨ret_bool (by simp [textB, h]), rfl⟩
set_option maxHeartbeats 1000000 in
theorem Valid_calls (k n : Int) (s : ByteArray) (w : World) (hs : s.size ≤ maxLen) :
    Calls Tryd.prog 113 #[.agg #[.int .i64 k, .int .i64 n, .string s]] w fun e w' => e = .returned (.bool (vB k n s)) ∧ Cls w w' := by
  have hm := hs
  unfold maxLen at hm
  go_enter Tryd.func113, Tryd.ntmps113
  go_wp2_with (go_at_call 143; refine (validText_calls _ _ hs).mono ?_; rintro e _ ⟨rfl, rfl⟩)
  all_goals
    go_ret
    refine ⟨ret_bool ?_, Cls.of ((Below.refl _ _).alloc (Nat.le_refl _) _)⟩
    simp_all [vB]
    try omega
set_option maxHeartbeats 1000000 in
theorem rValid_calls (k n : Int) (s : ByteArray) (w : World) (hs : s.size ≤ maxLen) :
    Calls Tryd.prog 15 #[.agg #[.int .i64 k, .int .i64 n, .string s]] w fun e w' => e = .returned (.bool (vB k n s)) ∧ Cls w w' := by
  have hm := hs
  unfold maxLen at hm
  by_cases hk : k = 3 ∧ n = 0 ∧ s.size ≤ 24
  · obtain ⟨rfl, rfl, hsz⟩ := hk
    have hv : vB 3 0 s = allB s.data.toList := by simp [vB, textB, hsz]
    have HV : Hid (vB 3 0 s = allB s.data.toList) := hv
    clear hv
    go_enter Tryd.func15, Tryd.ntmps15
    go_wp2_with fail
    go_loop [3] (fun i => ∃ k : Nat, k ≤ s.size ∧ i = .int .i64 k ∧ allB (s.data.toList.take k) = true) (fun i => s.size - (intOf i).toNat)
    case atStart => exact ⟨0, Nat.zero_le _, rfl, by simp [allB]⟩
    case round =>
      obtain ⟨k, hk, rfl, ha⟩ := hrel
      have HA : Hid (allB (s.data.toList.take k) = true) := ha
      clear ha
      by_cases hlt : k < s.size
      · have HS : Hid (s.data.toList.take (k + 1) = s.data.toList.take k ++ [s[k]]) := take_snoc s k hlt
        cases hb : byteB (s[k].toNat : Int)
        · have HN : Hid (allB s.data.toList = false) := allB_no hlt hb
          have HB : Hid (byteB (s[k].toNat : Int) = false) := hb
          clear hb
          go_wp2_with fail
          all_goals first
            | (go_ret; exact ⟨ret_bool (by rw [HV.out, HN.out]), Cls.of ((Below.refl _ _).alloc (Nat.le_refl _) _)⟩)
            | (exfalso; have := HB.out; simp_all [byteB]; done)
            | (exfalso; have := HB.out; simp_all [byteB]; omega)
        · have HB : Hid (byteB (s[k].toNat : Int) = true) := hb
          clear hb
          go_wp2_with fail
          all_goals first
            | (go_round
               case rel => exact ⟨k + 1, by omega, by go_num, by rw [HS.out, allB_snoc, HA.out, HB.out]; rfl⟩
               case measure => simp [intOf]; omega)
            | (exfalso; have := HB.out; simp_all [byteB]; done)
            | (exfalso; have := HB.out; simp_all [byteB]; omega)
      · go_wp2_with fail
        go_ret
        have e : s.data.toList.take k = s.data.toList := List.take_of_length_le (by simp; omega)
        exact ⟨ret_bool (by rw [HV.out, ← e]; exact HA.out.symm), Cls.of ((Below.refl _ _).alloc (Nat.le_refl _) _)⟩
  · have HK : Hid (¬ (k = 3 ∧ n = 0 ∧ s.size ≤ 24)) := hk
    clear hk
    by_cases h1 : s.size ≤ 24
    all_goals by_cases h2 : n = 0
    all_goals by_cases h3 : k = 3
    all_goals first
      | (exfalso; refine HK.out ?_; omega)
      | (go_enter Tryd.func15, Tryd.ntmps15
         go_wp2_with fail
         all_goals
           go_ret
           refine ⟨ret_bool ?_, Cls.of ((Below.refl _ _).alloc (Nat.le_refl _) _)⟩
           simp_all [vB, textB]
           try omega)
end Go.Proofs.YtpddkljedhghkaaDoor
set_option linter.unusedVariables false
namespace Go.Proofs.YtpddkljedhghkaaDoor
open Go Go.RowKit

def absI (n : Int) : Int := if n < 0 then -n else n
/-- Does the product of two valid numbers fit? -/
def mulOk (a b : Int) : Bool := b == 0 || decide (absI a ≤ 1000000000000 / absI b)
theorem absI_nonneg (a : Int) : 0 ≤ absI a := by unfold absI; split <;> omega
theorem absI_le {a : Int} (h : -1000000000000 ≤ a ∧ a ≤ 1000000000000) : absI a ≤ 1000000000000 := by unfold absI; split <;> omega
theorem absI_mul (a b : Int) : absI (a * b) = absI a * absI b := by
  unfold absI
  rcases Int.lt_or_le a 0 with ha | ha <;> rcases Int.lt_or_le b 0 with hb | hb
  · have := Int.mul_pos_of_neg_of_neg ha hb
    rw [if_pos ha, if_pos hb, if_neg (by omega), Int.neg_mul_neg]
  · rcases Int.lt_or_eq_of_le hb with hb' | hb'
    · have := Int.mul_neg_of_neg_of_pos ha hb'
      rw [if_pos this, if_pos ha, if_neg (show ¬ b < 0 by omega), Int.neg_mul]
    · subst hb'; simp
  · rcases Int.lt_or_eq_of_le ha with ha' | ha'
    · have := Int.mul_neg_of_pos_of_neg ha' hb
      rw [if_pos this, if_pos hb, if_neg (show ¬ a < 0 by omega), Int.mul_neg]
    · subst ha'; simp
  · have := Int.mul_nonneg ha hb
    rw [if_neg (by omega), if_neg (by omega), if_neg (by omega)]
theorem absI_bd {a : Int} (h : absI a ≤ 1000000000000) : -1000000000000 ≤ a ∧ a ≤ 1000000000000 := by unfold absI at h; split at h <;> omega
theorem mulOk_bd {a b : Int} (h : mulOk a b = true) : -1000000000000 ≤ a * b ∧ a * b ≤ 1000000000000 := by
  apply absI_bd
  rw [absI_mul]
  unfold mulOk at h
  simp only [Bool.or_eq_true, beq_iff_eq, decide_eq_true_eq] at h
  rcases h with rfl | h
  · simp [absI]
  · rcases Int.lt_or_eq_of_le (absI_nonneg b) with hb | hb
    · exact (Int.le_ediv_iff_mul_le hb).1 h
    · rw [← hb]; simp
theorem absI_one {b : Int} (h : ¬ b = 0) : 1 ≤ absI b := by unfold absI; split <;> omega

theorem mag_calls (n : Int) (w : World) (h : -1000000000000 ≤ n ∧ n ≤ 1000000000000) :
    Calls Tryd.prog 168 #[.int .i64 n] w fun e w' => e = .returned (.int .i64 (absI n)) ∧ w = w' := by
  obtain ⟨h1, h2⟩ := h
  by_cases hn : n < 0
  all_goals
    go_enter Tryd.func168, Tryd.ntmps168
    go_wp2
    go_ret
    exact ⟨ret_int (by unfold absI; split <;> omega), rfl⟩
theorem ret_pair {k : IntKind} {a b : Int} {x y : Bool} (h : a = b) (h' : x = y) : Ending.returned (.tuple #[.int k a, .bool x]) = .returned (.tuple #[.int k b, .bool y]) := by rw [h, h']
set_option maxHeartbeats 1000000 in
theorem mult_calls (a b : Int) (w : World) (h : -1000000000000 ≤ a ∧ a ≤ 1000000000000) (h' : -1000000000000 ≤ b ∧ b ≤ 1000000000000) :
    Calls Tryd.prog 146 #[.int .i64 a, .int .i64 b] w fun e w' => e = .returned (.tuple #[.int .i64 (if mulOk a b = true then a * b else 0), .bool (mulOk a b)]) ∧ w = w' := by
  have ha1 := absI_nonneg a
  have ha2 := absI_le h
  have hb2 := absI_le h'
  by_cases hb : b = 0
  · subst hb
    go_enter Tryd.func146, Tryd.ntmps146
    go_wp2_with fail
    go_ret2
    exact ⟨ret_pair (by simp []) (by simp []), rfl⟩
  · have hb1 := absI_one hb
    have hne : (b == 0) = false := by simpa using hb
    cases hm : mulOk a b
    · have hlt : 1000000000000 / absI b < absI a := by
        unfold mulOk at hm
        simp only [hne, Bool.false_or, decide_eq_false_iff_not] at hm
        omega
      have HM : Hid (mulOk a b = false) := hm
      clear hm
      have hq : 0 ≤ 1000000000000 / absI b := Int.ediv_nonneg (by omega) (by omega)
      go_enter Tryd.func146, Tryd.ntmps146
      go_wp2_with (go_at_call 168; first | ((with_reducible refine (mag_calls a _ h).mono ?_); rintro e _ ⟨rfl, rfl⟩) | ((with_reducible refine (mag_calls b _ h').mono ?_); rintro e _ ⟨rfl, rfl⟩))
      go_ret2
      exact ⟨rfl, rfl⟩
    · have hle : absI a ≤ 1000000000000 / absI b := by
        unfold mulOk at hm
        simp only [hne, Bool.false_or, decide_eq_true_eq] at hm
        exact hm
      obtain ⟨p1, p2⟩ := mulOk_bd hm
      have HM : Hid (mulOk a b = true) := hm
      clear hm
      go_enter Tryd.func146, Tryd.ntmps146
      go_wp2_with (go_at_call 168; first | ((with_reducible refine (mag_calls a _ h).mono ?_); rintro e _ ⟨rfl, rfl⟩) | ((with_reducible refine (mag_calls b _ h').mono ?_); rintro e _ ⟨rfl, rfl⟩))
      go_ret2
      exact ⟨rfl, rfl⟩
set_option maxHeartbeats 1000000 in
theorem prod_calls (a b : Int) (w : World) (h : -1000000000000 ≤ a ∧ a ≤ 1000000000000) (h' : -1000000000000 ≤ b ∧ b ≤ 1000000000000) :
    Calls Tryd.prog 92 #[.int .i64 a, .int .i64 b] w fun e w' => e = .returned (.tuple #[.int .i64 (if mulOk a b = true then a * b else 0), .bool (mulOk a b)]) ∧ w = w' := by
  have HF : Hid (absI a = (if a < 0 then -a else a) ∧ absI b = (if b < 0 then -b else b)) := ⟨rfl, rfl⟩
  by_cases h0 : a = 0 ∨ b = 0
  · have hm : mulOk a b = true := by rcases h0 with rfl | rfl <;> simp [mulOk, absI]; · right; split <;> exact Int.ediv_nonneg (by omega) (by omega)
    have hz : a * b = 0 := by rcases h0 with rfl | rfl <;> simp
    have HZ : Hid (Ending.returned (.tuple #[.int .i64 0, .bool true]) = Ending.returned (.tuple #[.int .i64 (if mulOk a b = true then a * b else 0), .bool (mulOk a b)])) := Lib.hid (by rw [hm, if_pos rfl, hz])
    clear hm hz
    rw [← HZ.out]
    clear HZ HF
    by_cases ha : a = 0
    · subst ha
      go_enter Tryd.func92, Tryd.ntmps92
      go_wp2_with fail
      go_ret2
      exact ⟨rfl, rfl⟩
    · have hb : b = 0 := by omega
      subst hb
      clear h0
      go_enter Tryd.func92, Tryd.ntmps92
      go_wp2_with fail
      go_ret2
      exact ⟨rfl, rfl⟩
  · have ha : ¬ a = 0 := fun e => h0 (.inl e)
    have hb : ¬ b = 0 := fun e => h0 (.inr e)
    clear h0
    have ea : (a == 0) = false := by simpa using ha
    have eb : (b == 0) = false := by simpa using hb
    have hb1 := absI_one hb
    have ha1 := absI_nonneg a
    have ha2 := absI_le h
    have hb2 := absI_le h'
    cases hm : mulOk a b
    all_goals
      have HM := hm
      unfold mulOk at hm
      rw [show (b == 0) = false by simpa using hb] at hm
      simp only [Bool.false_or, decide_eq_false_iff_not, decide_eq_true_eq] at hm
      have HM' := Lib.hid HM
      clear HM
    · have hlt : 1000000000000 / absI b < absI a := by omega
      clear hm
      obtain ⟨e1, e2⟩ := HF.out
      rw [e1, e2] at hlt
      clear e1 e2 HF hb1 ha1 ha2 hb2
      obtain ⟨h1, h2⟩ := h
      obtain ⟨h3, h4⟩ := h'
      clear ha hb HM'
      by_cases sa : a < 0
      all_goals by_cases sb : b < 0
      all_goals simp only [sa, sb, if_true, if_false] at hlt
      all_goals first
        | (obtain ⟨c, rfl⟩ : ∃ c, b = -c := ⟨-b, by omega⟩
           have hc : 1 ≤ c := by omega
           rw [Int.neg_neg] at hlt
           have hc2 : (-c == 0) = false := eb
           have hc3 : (c == 0) = false := by simp; omega
           clear eb
           go_enter Tryd.func92, Tryd.ntmps92
           go_wp2_with fail
           go_ret2
           exact ⟨rfl, rfl⟩)
        | (have hb0 : 0 ≤ b := by omega
           have hb1 : 1 ≤ b := by (have := beq_eq_false_iff_ne.1 eb; omega)
           go_enter Tryd.func92, Tryd.ntmps92
           go_wp2_with fail
           go_ret2
           exact ⟨rfl, rfl⟩)
    · obtain ⟨p1, p2⟩ := mulOk_bd HM'.out
      obtain ⟨e1, e2⟩ := HF.out
      rw [e1, e2] at hm
      clear e1 e2 HF hb1 ha1 ha2 hb2
      obtain ⟨h1, h2⟩ := h
      obtain ⟨h3, h4⟩ := h'
      clear ha hb HM'
      by_cases sa : a < 0
      all_goals by_cases sb : b < 0
      all_goals simp only [sa, sb, if_true, if_false] at hm
      all_goals first
        | (obtain ⟨c, rfl⟩ : ∃ c, b = -c := ⟨-b, by omega⟩
           have hc : 1 ≤ c := by omega
           rw [Int.neg_neg] at hm
           have hc2 : (-c == 0) = false := eb
           have hc3 : (c == 0) = false := by simp; omega
           clear eb
           go_enter Tryd.func92, Tryd.ntmps92
           go_wp2_with fail
           go_ret2
           exact ⟨rfl, rfl⟩)
        | (have hb0 : 0 ≤ b := by omega
           have hb1 : 1 ≤ b := by (have := beq_eq_false_iff_ne.1 eb; omega)
           go_enter Tryd.func92, Tryd.ntmps92
           go_wp2_with fail
           go_ret2
           exact ⟨rfl, rfl⟩)
end Go.Proofs.YtpddkljedhghkaaDoor
