/-
  What the functions of truth values give: Truth, Bool, And, Or, Not of the program and of the reference, for all arguments. How the program and the reference compare values: Compare, Same, Equal, Less and what they call, for all arguments. What Valid says, of the program and of the reference, for all values; and what they call.
-/
import Derived.Test.YtpddkljedhghkaaDoorChecked
import Derived.Test.YtpddkljedhghkaaDoorJ01
import Derived.Test.YtpddkljedhghkaaDoorJ08
import Derived.BigQuiet
import Derived.WalkLawsBesides
namespace Go.Proofs.YtpddkljedhghkaaDoor
open Go Go.RowKit

end Go.Proofs.YtpddkljedhghkaaDoor
namespace Go.Proofs.YtpddkljedhghkaaDoor
open Go Go.RowKit

end Go.Proofs.YtpddkljedhghkaaDoor
set_option linter.unusedVariables false
namespace Go.Proofs.YtpddkljedhghkaaDoor
open Go Go.RowKit

def byteB (c : Int) : Bool := decide (32 ≤ c) && decide (c ≤ 126) && !(c == 39)
def allB (l : List UInt8) : Bool := l.all fun c => byteB c.toNat
def textB (s : ByteArray) : Bool := decide (s.size ≤ 24) && allB s.data.toList
def vB (k n : Int) (s : ByteArray) : Bool :=
  if k = 0 then n == 0 && s.toList.isEmpty else if k = 1 then decide (-1000000000000 ≤ n) && decide (n ≤ 1000000000000) && s.toList.isEmpty
  else if k = 2 then (n == 0 || n == 1) && s.toList.isEmpty else if k = 3 then n == 0 && textB s else false
theorem take_snoc (s : ByteArray) (k : Nat) (h : k < s.size) : s.data.toList.take (k + 1) = s.data.toList.take k ++ [s[k]] := by
  rw [List.take_succ_eq_append_getElem (by simpa using h)]; rfl
theorem allB_snoc (l : List UInt8) (c : UInt8) : allB (l ++ [c]) = (allB l && byteB c.toNat) := by simp [allB]
theorem allB_no {s : ByteArray} {k : Nat} (h : k < s.size) (hb : byteB (s[k].toNat : Int) = false) : allB s.data.toList = false := by
  unfold allB
  rw [List.all_eq_false]
  exact ⟨s[k], by rw [ByteArray.getElem_eq_getElem_data]; simp, by simp [hb]⟩

theorem byte_calls (c : Int) (w : World) :
    Calls Tryd.prog 167 #[.int .u8 c] w fun e w' => e = .returned (.bool (byteB c)) ∧ w = w' := by
  go_enter Tryd.func167, Tryd.ntmps167
  go_wp2
  all_goals
    go_ret
    refine ⟨ret_bool ?_, rfl⟩
    simp_all [byteB, bne]
    try omega
theorem every_calls (s : ByteArray) (w : World) (hs : s.size ≤ maxLen) :
    Calls Tryd.prog 166 #[.string s, .func (.func 167) #[] #[]] w fun e w' => e = .returned (.bool (allB s.data.toList)) ∧ w = w' := by
  unfold maxLen at hs
  go_enter Tryd.func166, Tryd.ntmps166
  go_wp2_with fail
  go_loop [5] (fun i => ∃ k : Nat, k ≤ s.size ∧ i = .int .i64 k ∧ allB (s.data.toList.take k) = true) (fun i => s.size - (intOf i).toNat)
  case atStart => exact ⟨0, Nat.zero_le _, rfl, by simp [allB]⟩
  case round =>
    obtain ⟨k, hk, rfl, ha⟩ := hrel
    have HA : Hid (allB (s.data.toList.take k) = true) := ha
    clear ha
    by_cases hlt : k < s.size
    · have hts := take_snoc s k hlt
      have HS : Hid (s.data.toList.take (k + 1) = s.data.toList.take k ++ [s[k]]) := hts
      clear hts
      cases hb : byteB (s[k].toNat : Int)
      · have HN : Hid (allB s.data.toList = false) := allB_no hlt hb
        go_wp2_with (go_at_call 167; refine (byte_calls _ _).mono ?_; rintro e _ ⟨rfl, rfl⟩)
        go_ret
        exact ⟨ret_bool HN.out.symm, rfl⟩
      · go_wp2_with (go_at_call 167; refine (byte_calls _ _).mono ?_; rintro e _ ⟨rfl, rfl⟩)
        go_round
        case rel => exact ⟨k + 1, by omega, by go_num, by rw [HS.out, allB_snoc, HA.out, hb]; rfl⟩
        case measure => simp [intOf]; omega
    · go_wp2_with fail
      go_ret
      have e : s.data.toList.take k = s.data.toList := List.take_of_length_le (by simp; omega)
      exact ⟨ret_bool (by rw [← e]; exact HA.out.symm), rfl⟩
theorem validText_calls (s : ByteArray) (w : World) (hs : s.size ≤ maxLen) :
    Calls Tryd.prog 143 #[.string s] w fun e w' => e = .returned (.bool (textB s)) ∧ w = w' := by
  have hs' := hs
  unfold maxLen at hs'
  by_cases h : s.size ≤ 24
  all_goals
    go_enter Tryd.func143, Tryd.ntmps143
    go_wp2_with (go_at_call 166; refine (every_calls _ _ hs).mono ?_; rintro e _ ⟨rfl, rfl⟩)
    go_ret
    exact ⟨ret_bool (by simp [textB, h]), rfl⟩
set_option maxHeartbeats 1000000 in
theorem Valid_calls (k n : Int) (s : ByteArray) (w : World) (hs : s.size ≤ maxLen) :
    Calls Tryd.prog 113 #[.agg #[.int .i64 k, .int .i64 n, .string s]] w fun e w' => e = .returned (.bool (vB k n s)) ∧ Cls w w' := by
  have hm := hs
  unfold maxLen at hm
  go_enter Tryd.func113, Tryd.ntmps113
  go_wp2_with (go_at_call 143; refine (validText_calls _ _ hs).mono ?_; rintro e _ ⟨rfl, rfl⟩)
  all_goals
    go_ret
    refine ⟨ret_bool ?_, Cls.of ((Below.refl _ _).alloc (Nat.le_refl _) _)⟩
    simp_all [vB]
    try omega
set_option maxHeartbeats 1000000 in
theorem rValid_calls (k n : Int) (s : ByteArray) (w : World) (hs : s.size ≤ maxLen) :
    Calls Tryd.prog 15 #[.agg #[.int .i64 k, .int .i64 n, .string s]] w fun e w' => e = .returned (.bool (vB k n s)) ∧ Cls w w' := by
  have hm := hs
  unfold maxLen at hm
  by_cases hk : k = 3 ∧ n = 0 ∧ s.size ≤ 24
  · obtain ⟨rfl, rfl, hsz⟩ := hk
    have hv : vB 3 0 s = allB s.data.toList := by simp [vB, textB, hsz]
    have HV : Hid (vB 3 0 s = allB s.data.toList) := hv
    clear hv
    go_enter Tryd.func15, Tryd.ntmps15
    go_wp2_with fail
    go_loop [3] (fun i => ∃ k : Nat, k ≤ s.size ∧ i = .int .i64 k ∧ allB (s.data.toList.take k) = true) (fun i => s.size - (intOf i).toNat)
    case atStart => exact ⟨0, Nat.zero_le _, rfl, by simp [allB]⟩
    case round =>
      obtain ⟨k, hk, rfl, ha⟩ := hrel
      have HA : Hid (allB (s.data.toList.take k) = true) := ha
      clear ha
      by_cases hlt : k < s.size
      · have HS : Hid (s.data.toList.take (k + 1) = s.data.toList.take k ++ [s[k]]) := take_snoc s k hlt
        cases hb : byteB (s[k].toNat : Int)
        · have HN : Hid (allB s.data.toList = false) := allB_no hlt hb
          have HB : Hid (byteB (s[k].toNat : Int) = false) := hb
          clear hb
          go_wp2_with fail
          all_goals first
            | (go_ret; exact ⟨ret_bool (by rw [HV.out, HN.out]), Cls.of ((Below.refl _ _).alloc (Nat.le_refl _) _)⟩)
            | (exfalso; have := HB.out; simp_all [byteB]; done)
            | (exfalso; have := HB.out; simp_all [byteB]; omega)
        · have HB : Hid (byteB (s[k].toNat : Int) = true) := hb
          clear hb
          go_wp2_with fail
          all_goals first
            | (go_round
               case rel => exact ⟨k + 1, by omega, by go_num, by rw [HS.out, allB_snoc, HA.out, HB.out]; rfl⟩
               case measure => simp [intOf]; omega)
            | (exfalso; have := HB.out; simp_all [byteB]; done)
            | (exfalso; have := HB.out; simp_all [byteB]; omega)
      · go_wp2_with fail
        go_ret
        have e : s.data.toList.take k = s.data.toList := List.take_of_length_le (by simp; omega)
        exact ⟨ret_bool (by rw [HV.out, ← e]; exact HA.out.symm), Cls.of ((Below.refl _ _).alloc (Nat.le_refl _) _)⟩
  · have HK : Hid (¬ (k = 3 ∧ n = 0 ∧ s.size ≤ 24)) := hk
    clear hk
    by_cases h1 : s.size ≤ 24
    all_goals by_cases h2 : n = 0
    all_goals by_cases h3 : k = 3
    all_goals first
      | (exfalso; refine HK.out ?_; omega)
      | (go_enter Tryd.func15, Tryd.ntmps15
         go_wp2_with fail
         all_goals
           go_ret
           refine ⟨ret_bool ?_, Cls.of ((Below.refl _ _).alloc (Nat.le_refl _) _)⟩
           simp_all [vB, textB]
           try omega)
end Go.Proofs.YtpddkljedhghkaaDoor
