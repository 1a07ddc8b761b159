/-
  How the program and the reference compare values.
-/
import Derived.Test.YtdmhmlnfoocnjaaGreatDoorK02
import Derived.WalkLawsBesides
import Derived.Test.YtdmhmlnfoocnjaaGreatDoorChecked
import Derived.Test.YtdmhmlnfoocnjaaGreatDoorK01
import Derived.BigQuiet
import Derived.Lib.Hide
namespace Go.Proofs.YtdmhmlnfoocnjaaGreatDoor
open Go Go.RowKit

theorem cmpInt_calls (a b : Int) (w : World) : Calls Tryz.prog 168 #[.int .i64 a, .int .i64 b] w fun e w' => e = .returned (.int .i64 (cmpI a b)) ∧ w = w' := by
  go_enter Tryz.func168, Tryz.ntmps168
  go_wp2
  all_goals
    go_ret
    refine ⟨ret_int ?_, rfl⟩
    unfold cmpI
    repeat (first | rfl | rw [if_pos (by omega)] | rw [if_neg (by omega)])
theorem cmpInt64_calls (a b : Int) (w : World) : Calls Tryz.prog 169 #[.int .i64 a, .int .i64 b] w fun e w' => e = .returned (.int .i64 (cmpI a b)) ∧ w = w' := by
  go_enter Tryz.func169, Tryz.ntmps169
  go_wp2
  all_goals
    go_ret
    refine ⟨ret_int ?_, rfl⟩
    unfold cmpI
    repeat (first | rfl | rw [if_pos (by omega)] | rw [if_neg (by omega)])
theorem cmpStr_calls (a b : ByteArray) (w : World) : Calls Tryz.prog 170 #[.string a, .string b] w fun e w' => e = .returned (.int .i64 (cmpS a b)) ∧ w = w' := by
  go_enter Tryz.func170, Tryz.ntmps170
  go_wp2
  all_goals
    go_ret
    refine ⟨ret_int ?_, rfl⟩
    simp_all [cmpS]
theorem Compare_calls (k n : Int) (s : ByteArray) (k' n' : Int) (s' : ByteArray) (w : World) :
    Calls Tryz.prog 163 #[.agg #[.int .i64 k, .int .i64 n, .string s], .agg #[.int .i64 k', .int .i64 n', .string s']] w fun e w' => e = .returned (.int .i64 (cmpV k n s k' n' s')) ∧ Cls w w' := by
  go_enter Tryz.func163, Tryz.ntmps163
  go_wp2_with (first | (go_at_call 168; refine (cmpInt_calls _ _ _).mono ?_; rintro e _ ⟨rfl, rfl⟩) | (go_at_call 169; refine (cmpInt64_calls _ _ _).mono ?_; rintro e _ ⟨rfl, rfl⟩) | (go_at_call 170; refine (cmpStr_calls _ _ _).mono ?_; rintro e _ ⟨rfl, rfl⟩))
  all_goals
    go_ret
    refine ⟨ret_int ?_, Cls.of (((Below.refl _ _).alloc (Nat.le_refl _) _).alloc (by simp) _)⟩
    simp_all [cmpV]
theorem Same_calls (k n : Int) (s : ByteArray) (k' n' : Int) (s' : ByteArray) (w : World) :
    Calls Tryz.prog 147 #[.agg #[.int .i64 k, .int .i64 n, .string s], .agg #[.int .i64 k', .int .i64 n', .string s']] w fun e w' => e = .returned (.bool (sameB k n s k' n' s')) ∧ Cls w w' := by
  go_enter Tryz.func147, Tryz.ntmps147
  go_wp2
  all_goals
    go_ret
    refine ⟨ret_bool ?_, Cls.of (((Below.refl _ _).alloc (Nat.le_refl _) _).alloc (by simp) _)⟩
    first | rw [sameB_yes (by assumption) (by assumption) (by assumption)] | rw [sameB_no (by simp_all)]
theorem isNull_calls (k n : Int) (s : ByteArray) (w : World) :
    Calls Tryz.prog 158 #[.agg #[.int .i64 k, .int .i64 n, .string s]] w fun e w' => e = .returned (.bool (k == 0)) ∧ Cls w w' := by
  go_enter Tryz.func158, Tryz.ntmps158
  go_wp2
  all_goals
    go_ret
    exact ⟨rfl, Cls.of ((Below.refl _ _).alloc (Nat.le_refl _) _)⟩
theorem fromBool_calls (b : Bool) (w : World) :
    Calls Tryz.prog 159 #[.bool b] w fun e w' => e = .returned (.agg #[.int .i64 (tvK (b2i b)), .int .i64 (tvN (b2i b)), .string ⟨#[]⟩]) ∧ Cls w w' := by
  cases b
  all_goals
    go_enter Tryz.func159, Tryz.ntmps159
    go_wp2_with (first | (go_at_call 138; refine (Bool_calls _ _).mono ?_; rintro e _ ⟨rfl, x, rfl⟩))
    refine ret_ex rfl ?_
    simp [results, Tryz.results159, go_sem]
    refine ⟨⟨rfl, rfl⟩, ?_⟩
    refine Cls.of ?_
    repeat first | exact Below.refl _ _ | refine Below.setCell ?_ (by first | omega | (simp; done) | (simp; omega)) _ | refine Below.alloc ?_ (by first | omega | (simp; done) | (simp; omega)) _ | refine Below.drew ?_ | refine Ext.on _ ?_ (by first | omega | (simp; done) | (simp; omega))
set_option maxHeartbeats 800000 in
theorem Equal_calls (k n : Int) (s : ByteArray) (k' n' : Int) (s' : ByteArray) (w : World) :
    Calls Tryz.prog 140 #[.agg #[.int .i64 k, .int .i64 n, .string s], .agg #[.int .i64 k', .int .i64 n', .string s']] w fun e w' => e = .returned (.agg #[.int .i64 (tvK (eqT k n s k' n' s')), .int .i64 (tvN (eqT k n s k' n' s')), .string ⟨#[]⟩]) ∧ Cls w w' := by
  by_cases hk : k = 0
  all_goals by_cases hk' : k' = 0
  all_goals
    have hb : (k == 0) = decide (k = 0) := rfl
    have hb' : (k' == 0) = decide (k' = 0) := rfl
    simp only [hk, hk', decide_true, decide_false] at hb hb'
    try subst hk
    try subst hk'
    go_enter Tryz.func140, Tryz.ntmps140
    go_wp2_with (first | (go_at_call 158; first | (with_reducible refine (Cls.call (isNull_calls _ _ _ _)).mono ?_; rintro e _ ⟨rfl, y, rfl⟩) | (refine (isNull_calls _ _ _ _).mono ?_; rintro e _ ⟨rfl, x, rfl⟩)) | (go_at_call 147; first | (with_reducible refine (Cls.call (Same_calls _ _ _ _ _ _ _)).mono ?_; rintro e _ ⟨rfl, y, rfl⟩) | (refine (Same_calls _ _ _ _ _ _ _).mono ?_; rintro e _ ⟨rfl, x, rfl⟩)) | (go_at_call 159; with_reducible refine (Cls.call (fromBool_calls _ _)).mono ?_; rintro e _ ⟨rfl, z, rfl⟩))
    refine ret_ex rfl ?_
    simp [results, Tryz.results140, go_sem]
    refine ⟨?_, ?_⟩
  all_goals first | (simp_all [eqT, tvK, tvN]; done) | skip
  all_goals
    refine Cls.of ?_
    repeat first | exact Below.refl _ _ | refine Below.setCell ?_ (by first | omega | (simp; done) | (simp; omega)) _ | refine Below.alloc ?_ (by first | omega | (simp; done) | (simp; omega)) _ | refine Below.drew ?_ | refine Ext.on _ ?_ (by first | omega | (simp; done) | (simp; omega))
set_option maxHeartbeats 800000 in
theorem Less_calls (k n : Int) (s : ByteArray) (k' n' : Int) (s' : ByteArray) (w : World) :
    Calls Tryz.prog 146 #[.agg #[.int .i64 k, .int .i64 n, .string s], .agg #[.int .i64 k', .int .i64 n', .string s']] w fun e w' => e = .returned (.agg #[.int .i64 (tvK (lessT k n s k' n' s')), .int .i64 (tvN (lessT k n s k' n' s')), .string ⟨#[]⟩]) ∧ Cls w w' := by
  by_cases hk : k = 0
  all_goals by_cases hk' : k' = 0
  all_goals
    have hb : (k == 0) = decide (k = 0) := rfl
    have hb' : (k' == 0) = decide (k' = 0) := rfl
    simp only [hk, hk', decide_true, decide_false] at hb hb'
    try subst hk
    try subst hk'
    go_enter Tryz.func146, Tryz.ntmps146
    go_wp2_with (first | (go_at_call 158; first | (with_reducible refine (Cls.call (isNull_calls _ _ _ _)).mono ?_; rintro e _ ⟨rfl, y, rfl⟩) | (refine (isNull_calls _ _ _ _).mono ?_; rintro e _ ⟨rfl, x, rfl⟩)) | (go_at_call 163; first | (with_reducible refine (Cls.call (Compare_calls _ _ _ _ _ _ _)).mono ?_; rintro e _ ⟨rfl, y, rfl⟩) | (refine (Compare_calls _ _ _ _ _ _ _).mono ?_; rintro e _ ⟨rfl, x, rfl⟩)) | (go_at_call 159; with_reducible refine (Cls.call (fromBool_calls _ _)).mono ?_; rintro e _ ⟨rfl, z, rfl⟩))
    refine ret_ex rfl ?_
    simp [results, Tryz.results146, go_sem]
    refine ⟨?_, ?_⟩
  all_goals first | (simp_all [lessT, tvK, tvN]; done) | skip
  all_goals
    refine Cls.of ?_
    repeat first | exact Below.refl _ _ | refine Below.setCell ?_ (by first | omega | (simp; done) | (simp; omega)) _ | refine Below.alloc ?_ (by first | omega | (simp; done) | (simp; omega)) _ | refine Below.drew ?_ | refine Ext.on _ ?_ (by first | omega | (simp; done) | (simp; omega))
end Go.Proofs.YtdmhmlnfoocnjaaGreatDoor
set_option linter.unusedVariables false
namespace Go.Proofs.YtdmhmlnfoocnjaaGreatDoor
open Go Go.RowKit

def byteB (c : Int) : Bool := decide (32 ≤ c) && decide (c ≤ 126) && !(c == 39)
def allB (l : List UInt8) : Bool := l.all fun c => byteB c.toNat
def textB (s : ByteArray) : Bool := decide (s.size ≤ 24) && allB s.data.toList
def vB (k n : Int) (s : ByteArray) : Bool :=
  if k = 0 then n == 0 && s.toList.isEmpty else if k = 1 then decide (-1000000000000 ≤ n) && decide (n ≤ 1000000000000) && s.toList.isEmpty
  else if k = 2 then (n == 0 || n == 1) && s.toList.isEmpty else if k = 3 then n == 0 && textB s else false
theorem take_snoc (s : ByteArray) (k : Nat) (h : k < s.size) : s.data.toList.take (k + 1) = s.data.toList.take k ++ [s[k]] := by
  rw [List.take_succ_eq_append_getElem (by simpa using h)]; rfl
theorem allB_snoc (l : List UInt8) (c : UInt8) : allB (l ++ [c]) = (allB l && byteB c.toNat) := by simp [allB]
theorem allB_no {s : ByteArray} {k : Nat} (h : k < s.size) (hb : byteB (s[k].toNat : Int) = false) : allB s.data.toList = false := by
  unfold allB
  rw [List.all_eq_false]
  exact ⟨s[k], by rw [ByteArray.getElem_eq_getElem_data]; simp, by simp [hb]⟩

theorem byte_calls (c : Int) (w : World) :
    Calls Tryz.prog 166 #[.int .u8 c] w fun e w' => e = .returned (.bool (byteB c)) ∧ w = w' := by
  go_enter Tryz.func166, Tryz.ntmps166
  go_wp2
  all_goals
    go_ret
    refine ⟨ret_bool ?_, rfl⟩
    simp_all [byteB, bne]
    try omega
theorem every_calls (s : ByteArray) (w : World) (hs : s.size ≤ maxLen) :
    Calls Tryz.prog 165 #[.string s, .func (.func 166) #[] #[]] w fun e w' => e = .returned (.bool (allB s.data.toList)) ∧ w = w' := by
  unfold maxLen at hs
  go_enter Tryz.func165, Tryz.ntmps165
  go_wp2_with fail
  go_loop [5] (fun i => ∃ k : Nat, k ≤ s.size ∧ i = .int .i64 k ∧ allB (s.data.toList.take k) = true) (fun i => s.size - (intOf i).toNat)
  case atStart => exact ⟨0, Nat.zero_le _, rfl, by simp [allB]⟩
  case round =>
    obtain ⟨k, hk, rfl, ha⟩ := hrel
    have HA : Hid (allB (s.data.toList.take k) = true) := ha
    clear ha
    by_cases hlt : k < s.size
    · have hts := take_snoc s k hlt
      have HS : Hid (s.data.toList.take (k + 1) = s.data.toList.take k ++ [s[k]]) := hts
      clear hts
      cases hb : byteB (s[k].toNat : Int)
      · have HN : Hid (allB s.data.toList = false) := allB_no hlt hb
        go_wp2_with (go_at_call 166; refine (byte_calls _ _).mono ?_; rintro e _ ⟨rfl, rfl⟩)
        go_ret
        exact ⟨ret_bool HN.out.symm, rfl⟩
      · go_wp2_with (go_at_call 166; refine (byte_calls _ _).mono ?_; rintro e _ ⟨rfl, rfl⟩)
        go_round
        case rel => exact ⟨k + 1, by omega, by go_num, by rw [HS.out, allB_snoc, HA.out, hb]; rfl⟩
        case measure => simp [intOf]; omega
    · go_wp2_with fail
      go_ret
      have e : s.data.toList.take k = s.data.toList := List.take_of_length_le (by simp; omega)
      exact ⟨ret_bool (by rw [← e]; exact HA.out.symm), rfl⟩
theorem validText_calls (s : ByteArray) (w : World) (hs : s.size ≤ maxLen) :
    Calls Tryz.prog 156 #[.string s] w fun e w' => e = .returned (.bool (textB s)) ∧ w = w' := by
  have hs' := hs
  unfold maxLen at hs'
  by_cases h : s.size ≤ 24
  all_goals
    go_enter Tryz.func156, Tryz.ntmps156
    go_wp2_with (go_at_call 165; refine (every_calls _ _ hs).mono ?_; rintro e _ ⟨rfl, rfl⟩)
    go_ret
    exact ⟨ret_bool (by simp [textB, h]), rfl⟩
set_option maxHeartbeats 1000000 in
theorem Valid_calls (k n : Int) (s : ByteArray) (w : World) (hs : s.size ≤ maxLen) :
    Calls Tryz.prog 136 #[.agg #[.int .i64 k, .int .i64 n, .string s]] w fun e w' => e = .returned (.bool (vB k n s)) ∧ Cls w w' := by
  have hm := hs
  unfold maxLen at hm
  go_enter Tryz.func136, Tryz.ntmps136
  go_wp2_with (go_at_call 156; refine (validText_calls _ _ hs).mono ?_; rintro e _ ⟨rfl, rfl⟩)
  all_goals
    go_ret
    refine ⟨ret_bool ?_, Cls.of ((Below.refl _ _).alloc (Nat.le_refl _) _)⟩
    simp_all [vB]
    try omega
set_option maxHeartbeats 1000000 in
theorem rValid_calls (k n : Int) (s : ByteArray) (w : World) (hs : s.size ≤ maxLen) :
    Calls Tryz.prog 53 #[.agg #[.int .i64 k, .int .i64 n, .string s]] w fun e w' => e = .returned (.bool (vB k n s)) ∧ Cls w w' := by
  have hm := hs
  unfold maxLen at hm
  by_cases hk : k = 3 ∧ n = 0 ∧ s.size ≤ 24
  · obtain ⟨rfl, rfl, hsz⟩ := hk
    have hv : vB 3 0 s = allB s.data.toList := by simp [vB, textB, hsz]
    have HV : Hid (vB 3 0 s = allB s.data.toList) := hv
    clear hv
    go_enter Tryz.func53, Tryz.ntmps53
    go_wp2_with fail
    go_loop [3] (fun i => ∃ k : Nat, k ≤ s.size ∧ i = .int .i64 k ∧ allB (s.data.toList.take k) = true) (fun i => s.size - (intOf i).toNat)
    case atStart => exact ⟨0, Nat.zero_le _, rfl, by simp [allB]⟩
    case round =>
      obtain ⟨k, hk, rfl, ha⟩ := hrel
      have HA : Hid (allB (s.data.toList.take k) = true) := ha
      clear ha
      by_cases hlt : k < s.size
      · have HS : Hid (s.data.toList.take (k + 1) = s.data.toList.take k ++ [s[k]]) := take_snoc s k hlt
        cases hb : byteB (s[k].toNat : Int)
        · have HN : Hid (allB s.data.toList = false) := allB_no hlt hb
          have HB : Hid (byteB (s[k].toNat : Int) = false) := hb
          clear hb
          go_wp2_with fail
          all_goals first
            | (go_ret; exact ⟨ret_bool (by rw [HV.out, HN.out]), Cls.of ((Below.refl _ _).alloc (Nat.le_refl _) _)⟩)
            | (exfalso; have := HB.out; simp_all [byteB]; done)
            | (exfalso; have := HB.out; simp_all [byteB]; omega)
        · have HB : Hid (byteB (s[k].toNat : Int) = true) := hb
          clear hb
          go_wp2_with fail
          all_goals first
            | (go_round
               case rel => exact ⟨k + 1, by omega, by go_num, by rw [HS.out, allB_snoc, HA.out, HB.out]; rfl⟩
               case measure => simp [intOf]; omega)
            | (exfalso; have := HB.out; simp_all [byteB]; done)
            | (exfalso; have := HB.out; simp_all [byteB]; omega)
      · go_wp2_with fail
        go_ret
        have e : s.data.toList.take k = s.data.toList := List.take_of_length_le (by simp; omega)
        exact ⟨ret_bool (by rw [HV.out, ← e]; exact HA.out.symm), Cls.of ((Below.refl _ _).alloc (Nat.le_refl _) _)⟩
  · have HK : Hid (¬ (k = 3 ∧ n = 0 ∧ s.size ≤ 24)) := hk
    clear hk
    by_cases h1 : s.size ≤ 24
    all_goals by_cases h2 : n = 0
    all_goals by_cases h3 : k = 3
    all_goals first
      | (exfalso; refine HK.out ?_; omega)
      | (go_enter Tryz.func53, Tryz.ntmps53
         go_wp2_with fail
         all_goals
           go_ret
           refine ⟨ret_bool ?_, Cls.of ((Below.refl _ _).alloc (Nat.le_refl _) _)⟩
           simp_all [vB, textB]
           try omega)
end Go.Proofs.YtdmhmlnfoocnjaaGreatDoor
set_option linter.unusedVariables false
namespace Go.Proofs.YtdmhmlnfoocnjaaGreatDoor
open Go Go.RowKit

def absI (n : Int) : Int := if n < 0 then -n else n
def mulOk (a b : Int) : Bool := b == 0 || decide (absI a ≤ 1000000000000 / absI b)
theorem absI_nonneg (a : Int) : 0 ≤ absI a := by unfold absI; split <;> omega
theorem absI_le {a : Int} (h : -1000000000000 ≤ a ∧ a ≤ 1000000000000) : absI a ≤ 1000000000000 := by unfold absI; split <;> omega
theorem absI_mul (a b : Int) : absI (a * b) = absI a * absI b := by
  unfold absI
  rcases Int.lt_or_le a 0 with ha | ha <;> rcases Int.lt_or_le b 0 with hb | hb
  · have := Int.mul_pos_of_neg_of_neg ha hb
    rw [if_pos ha, if_pos hb, if_neg (by omega), Int.neg_mul_neg]
  · rcases Int.lt_or_eq_of_le hb with hb' | hb'
    · have := Int.mul_neg_of_neg_of_pos ha hb'
      rw [if_pos this, if_pos ha, if_neg (show ¬ b < 0 by omega), Int.neg_mul]
    · subst hb'; simp
  · rcases Int.lt_or_eq_of_le ha with ha' | ha'
    · have := Int.mul_neg_of_pos_of_neg ha' hb
      rw [if_pos this, if_pos hb, if_neg (show ¬ a < 0 by omega), Int.mul_neg]
    · subst ha'; simp
  · have := Int.mul_nonneg ha hb
    rw [if_neg (by omega), if_neg (by omega), if_neg (by omega)]
theorem absI_bd {a : Int} (h : absI a ≤ 1000000000000) : -1000000000000 ≤ a ∧ a ≤ 1000000000000 := by unfold absI at h; split at h <;> omega
theorem mulOk_bd {a b : Int} (h : mulOk a b = true) : -1000000000000 ≤ a * b ∧ a * b ≤ 1000000000000 := by
  apply absI_bd
  rw [absI_mul]
  unfold mulOk at h
  simp only [Bool.or_eq_true, beq_iff_eq, decide_eq_true_eq] at h
  rcases h with rfl | h
  · simp [absI]
  · rcases Int.lt_or_eq_of_le (absI_nonneg b) with hb | hb
    · exact (Int.le_ediv_iff_mul_le hb).1 h
    · rw [← hb]; simp
theorem absI_one {b : Int} (h : ¬ b = 0) : 1 ≤ absI b := by unfold absI; split <;> omega

theorem mag_calls (n : Int) (w : World) (h : -1000000000000 ≤ n ∧ n ≤ 1000000000000) :
    Calls Tryz.prog 171 #[.int .i64 n] w fun e w' => e = .returned (.int .i64 (absI n)) ∧ w = w' := by
  obtain ⟨h1, h2⟩ := h
  by_cases hn : n < 0
  all_goals
    go_enter Tryz.func171, Tryz.ntmps171
    go_wp2
    go_ret
    exact ⟨ret_int (by unfold absI; split <;> omega), rfl⟩
theorem ret_pair {k : IntKind} {a b : Int} {x y : Bool} (h : a = b) (h' : x = y) : Ending.returned (.tuple #[.int k a, .bool x]) = .returned (.tuple #[.int k b, .bool y]) := by rw [h, h']
set_option maxHeartbeats 1000000 in
theorem mult_calls (a b : Int) (w : World) (h : -1000000000000 ≤ a ∧ a ≤ 1000000000000) (h' : -1000000000000 ≤ b ∧ b ≤ 1000000000000) :
    Calls Tryz.prog 167 #[.int .i64 a, .int .i64 b] w fun e w' => e = .returned (.tuple #[.int .i64 (if mulOk a b = true then a * b else 0), .bool (mulOk a b)]) ∧ w = w' := by
  have ha1 := absI_nonneg a
  have ha2 := absI_le h
  have hb2 := absI_le h'
  by_cases hb : b = 0
  · subst hb
    go_enter Tryz.func167, Tryz.ntmps167
    go_wp2_with fail
    go_ret2
    exact ⟨ret_pair (by simp []) (by simp []), rfl⟩
  · have hb1 := absI_one hb
    have hne : (b == 0) = false := by simpa using hb
    cases hm : mulOk a b
    · have hlt : 1000000000000 / absI b < absI a := by
        unfold mulOk at hm
        simp only [hne, Bool.false_or, decide_eq_false_iff_not] at hm
        omega
      have HM : Hid (mulOk a b = false) := hm
      clear hm
      have hq : 0 ≤ 1000000000000 / absI b := Int.ediv_nonneg (by omega) (by omega)
      go_enter Tryz.func167, Tryz.ntmps167
      go_wp2_with (go_at_call 171; first | ((with_reducible refine (mag_calls a _ h).mono ?_); rintro e _ ⟨rfl, rfl⟩) | ((with_reducible refine (mag_calls b _ h').mono ?_); rintro e _ ⟨rfl, rfl⟩))
      go_ret2
      exact ⟨rfl, rfl⟩
    · have hle : absI a ≤ 1000000000000 / absI b := by
        unfold mulOk at hm
        simp only [hne, Bool.false_or, decide_eq_true_eq] at hm
        exact hm
      obtain ⟨p1, p2⟩ := mulOk_bd hm
      have HM : Hid (mulOk a b = true) := hm
      clear hm
      go_enter Tryz.func167, Tryz.ntmps167
      go_wp2_with (go_at_call 171; first | ((with_reducible refine (mag_calls a _ h).mono ?_); rintro e _ ⟨rfl, rfl⟩) | ((with_reducible refine (mag_calls b _ h').mono ?_); rintro e _ ⟨rfl, rfl⟩))
      go_ret2
      exact ⟨rfl, rfl⟩
end Go.Proofs.YtdmhmlnfoocnjaaGreatDoor
