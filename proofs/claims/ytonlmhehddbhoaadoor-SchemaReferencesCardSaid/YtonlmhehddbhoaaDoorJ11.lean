/-
  Products of valid numbers, of the program and of the reference: whether they fit, and what they are.
-/
import Derived.Test.YtonlmhehddbhoaaDoorJ10
import Derived.Lib.Hide
set_option linter.unusedVariables false
namespace Go.Proofs.YtonlmhehddbhoaaDoor
open Go Go.RowKit

def absI (n : Int) : Int := if n < 0 then -n else n
/-- Does the product of two valid numbers fit? -/
def mulOk (a b : Int) : Bool := b == 0 || decide (absI a ≤ 1000000000000 / absI b)
theorem absI_nonneg (a : Int) : 0 ≤ absI a := by unfold absI; split <;> omega
theorem absI_le {a : Int} (h : -1000000000000 ≤ a ∧ a ≤ 1000000000000) : absI a ≤ 1000000000000 := by unfold absI; split <;> omega
theorem absI_mul (a b : Int) : absI (a * b) = absI a * absI b := by
  unfold absI
  rcases Int.lt_or_le a 0 with ha | ha <;> rcases Int.lt_or_le b 0 with hb | hb
  · have := Int.mul_pos_of_neg_of_neg ha hb
    rw [if_pos ha, if_pos hb, if_neg (by omega), Int.neg_mul_neg]
  · rcases Int.lt_or_eq_of_le hb with hb' | hb'
    · have := Int.mul_neg_of_neg_of_pos ha hb'
      rw [if_pos this, if_pos ha, if_neg (show ¬ b < 0 by omega), Int.neg_mul]
    · subst hb'; simp
  · rcases Int.lt_or_eq_of_le ha with ha' | ha'
    · have := Int.mul_neg_of_pos_of_neg ha' hb
      rw [if_pos this, if_pos hb, if_neg (show ¬ a < 0 by omega), Int.mul_neg]
    · subst ha'; simp
  · have := Int.mul_nonneg ha hb
    rw [if_neg (by omega), if_neg (by omega), if_neg (by omega)]
theorem absI_bd {a : Int} (h : absI a ≤ 1000000000000) : -1000000000000 ≤ a ∧ a ≤ 1000000000000 := by unfold absI at h; split at h <;> omega
theorem mulOk_bd {a b : Int} (h : mulOk a b = true) : -1000000000000 ≤ a * b ∧ a * b ≤ 1000000000000 := by
  apply absI_bd
  rw [absI_mul]
  unfold mulOk at h
  simp only [Bool.or_eq_true, beq_iff_eq, decide_eq_true_eq] at h
  rcases h with rfl | h
  · simp [absI]
  · rcases Int.lt_or_eq_of_le (absI_nonneg b) with hb | hb
    · exact (Int.le_ediv_iff_mul_le hb).1 h
    · rw [← hb]; simp
theorem absI_one {b : Int} (h : ¬ b = 0) : 1 ≤ absI b := by unfold absI; split <;> omega

theorem mag_calls (n : Int) (w : World) (h : -1000000000000 ≤ n ∧ n ≤ 1000000000000) :
    Calls Tryd.prog 127 #[.int .i64 n] w fun e w' => e = .returned (.int .i64 (absI n)) ∧ w = w' := by
  obtain ⟨h1, h2⟩ := h
  by_cases hn : n < 0
  all_goals
    go_enter Tryd.func127, Tryd.ntmps127
    go_wp2
    go_ret
    exact ⟨ret_int (by unfold absI; split <;> omega), rfl⟩
theorem ret_pair {k : IntKind} {a b : Int} {x y : Bool} (h : a = b) (h' : x = y) : Ending.returned (.tuple #[.int k a, .bool x]) = .returned (.tuple #[.int k b, .bool y]) := by rw [h, h']
set_option maxHeartbeats 1000000 in
theorem mult_calls (a b : Int) (w : World) (h : -1000000000000 ≤ a ∧ a ≤ 1000000000000) (h' : -1000000000000 ≤ b ∧ b ≤ 1000000000000) :
    Calls Tryd.prog 116 #[.int .i64 a, .int .i64 b] w fun e w' => e = .returned (.tuple #[.int .i64 (if mulOk a b = true then a * b else 0), .bool (mulOk a b)]) ∧ w = w' := by
  have ha1 := absI_nonneg a
  have ha2 := absI_le h
  have hb2 := absI_le h'
  by_cases hb : b = 0
  · subst hb
    go_enter Tryd.func116, Tryd.ntmps116
    go_wp2_with fail
    go_ret2
    exact ⟨ret_pair (by simp []) (by simp []), rfl⟩
  · have hb1 := absI_one hb
    have hne : (b == 0) = false := by simpa using hb
    cases hm : mulOk a b
    · have hlt : 1000000000000 / absI b < absI a := by
        unfold mulOk at hm
        simp only [hne, Bool.false_or, decide_eq_false_iff_not] at hm
        omega
      have HM : Hid (mulOk a b = false) := hm
      clear hm
      have hq : 0 ≤ 1000000000000 / absI b := Int.ediv_nonneg (by omega) (by omega)
      go_enter Tryd.func116, Tryd.ntmps116
      go_wp2_with (go_at_call 127; first | ((with_reducible refine (mag_calls a _ h).mono ?_); rintro e _ ⟨rfl, rfl⟩) | ((with_reducible refine (mag_calls b _ h').mono ?_); rintro e _ ⟨rfl, rfl⟩))
      go_ret2
      exact ⟨rfl, rfl⟩
    · have hle : absI a ≤ 1000000000000 / absI b := by
        unfold mulOk at hm
        simp only [hne, Bool.false_or, decide_eq_true_eq] at hm
        exact hm
      obtain ⟨p1, p2⟩ := mulOk_bd hm
      have HM : Hid (mulOk a b = true) := hm
      clear hm
      go_enter Tryd.func116, Tryd.ntmps116
      go_wp2_with (go_at_call 127; first | ((with_reducible refine (mag_calls a _ h).mono ?_); rintro e _ ⟨rfl, rfl⟩) | ((with_reducible refine (mag_calls b _ h').mono ?_); rintro e _ ⟨rfl, rfl⟩))
      go_ret2
      exact ⟨rfl, rfl⟩
set_option maxHeartbeats 1000000 in
theorem prod_calls (a b : Int) (w : World) (h : -1000000000000 ≤ a ∧ a ≤ 1000000000000) (h' : -1000000000000 ≤ b ∧ b ≤ 1000000000000) :
    Calls Tryd.prog 76 #[.int .i64 a, .int .i64 b] w fun e w' => e = .returned (.tuple #[.int .i64 (if mulOk a b = true then a * b else 0), .bool (mulOk a b)]) ∧ w = w' := by
  have HF : Hid (absI a = (if a < 0 then -a else a) ∧ absI b = (if b < 0 then -b else b)) := ⟨rfl, rfl⟩
  by_cases h0 : a = 0 ∨ b = 0
  · have hm : mulOk a b = true := by rcases h0 with rfl | rfl <;> simp [mulOk, absI]; · right; split <;> exact Int.ediv_nonneg (by omega) (by omega)
    have hz : a * b = 0 := by rcases h0 with rfl | rfl <;> simp
    have HZ : Hid (Ending.returned (.tuple #[.int .i64 0, .bool true]) = Ending.returned (.tuple #[.int .i64 (if mulOk a b = true then a * b else 0), .bool (mulOk a b)])) := Lib.hid (by rw [hm, if_pos rfl, hz])
    clear hm hz
    rw [← HZ.out]
    clear HZ HF
    by_cases ha : a = 0
    · subst ha
      go_enter Tryd.func76, Tryd.ntmps76
      go_wp2_with fail
      go_ret2
      exact ⟨rfl, rfl⟩
    · have hb : b = 0 := by omega
      subst hb
      clear h0
      go_enter Tryd.func76, Tryd.ntmps76
      go_wp2_with fail
      go_ret2
      exact ⟨rfl, rfl⟩
  · have ha : ¬ a = 0 := fun e => h0 (.inl e)
    have hb : ¬ b = 0 := fun e => h0 (.inr e)
    clear h0
    have ea : (a == 0) = false := by simpa using ha
    have eb : (b == 0) = false := by simpa using hb
    have hb1 := absI_one hb
    have ha1 := absI_nonneg a
    have ha2 := absI_le h
    have hb2 := absI_le h'
    cases hm : mulOk a b
    all_goals
      have HM := hm
      unfold mulOk at hm
      rw [show (b == 0) = false by simpa using hb] at hm
      simp only [Bool.false_or, decide_eq_false_iff_not, decide_eq_true_eq] at hm
      have HM' := Lib.hid HM
      clear HM
    · have hlt : 1000000000000 / absI b < absI a := by omega
      clear hm
      obtain ⟨e1, e2⟩ := HF.out
      rw [e1, e2] at hlt
      clear e1 e2 HF hb1 ha1 ha2 hb2
      obtain ⟨h1, h2⟩ := h
      obtain ⟨h3, h4⟩ := h'
      clear ha hb HM'
      by_cases sa : a < 0
      all_goals by_cases sb : b < 0
      all_goals simp only [sa, sb, if_true, if_false] at hlt
      all_goals first
        | (obtain ⟨c, rfl⟩ : ∃ c, b = -c := ⟨-b, by omega⟩
           have hc : 1 ≤ c := by omega
           rw [Int.neg_neg] at hlt
           have hc2 : (-c == 0) = false := eb
           have hc3 : (c == 0) = false := by simp; omega
           clear eb
           go_enter Tryd.func76, Tryd.ntmps76
           go_wp2_with fail
           go_ret2
           exact ⟨rfl, rfl⟩)
        | (have hb0 : 0 ≤ b := by omega
           have hb1 : 1 ≤ b := by (have := beq_eq_false_iff_ne.1 eb; omega)
           go_enter Tryd.func76, Tryd.ntmps76
           go_wp2_with fail
           go_ret2
           exact ⟨rfl, rfl⟩)
    · obtain ⟨p1, p2⟩ := mulOk_bd HM'.out
      obtain ⟨e1, e2⟩ := HF.out
      rw [e1, e2] at hm
      clear e1 e2 HF hb1 ha1 ha2 hb2
      obtain ⟨h1, h2⟩ := h
      obtain ⟨h3, h4⟩ := h'
      clear ha hb HM'
      by_cases sa : a < 0
      all_goals by_cases sb : b < 0
      all_goals simp only [sa, sb, if_true, if_false] at hm
      all_goals first
        | (obtain ⟨c, rfl⟩ : ∃ c, b = -c := ⟨-b, by omega⟩
           have hc : 1 ≤ c := by omega
           rw [Int.neg_neg] at hm
           have hc2 : (-c == 0) = false := eb
           have hc3 : (c == 0) = false := by simp; omega
           clear eb
           go_enter Tryd.func76, Tryd.ntmps76
           go_wp2_with fail
           go_ret2
           exact ⟨rfl, rfl⟩)
        | (have hb0 : 0 ≤ b := by omega
           have hb1 : 1 ≤ b := by (have := beq_eq_false_iff_ne.1 eb; omega)
           go_enter Tryd.func76, Tryd.ntmps76
           go_wp2_with fail
           go_ret2
           exact ⟨rfl, rfl⟩)
end Go.Proofs.YtonlmhehddbhoaaDoor
