/-
  Products of valid numbers, of the program and of the reference: whether they fit, and what they are. What arithmetic gives, of the program and of the reference, for all operations and values.
-/
import Derived.Test.YtpddkljedhghkaaDoorJ09
import Derived.Lib.Hide
set_option linter.unusedVariables false
namespace Go.Proofs.YtpddkljedhghkaaDoor
open Go Go.RowKit

def absI (n : Int) : Int := if n < 0 then -n else n
/-- Does the product of two valid numbers fit? -/
def mulOk (a b : Int) : Bool := b == 0 || decide (absI a ≤ 1000000000000 / absI b)
theorem absI_nonneg (a : Int) : 0 ≤ absI a := by unfold absI; split <;> omega
theorem absI_mul (a b : Int) : absI (a * b) = absI a * absI b := by
  unfold absI
  rcases Int.lt_or_le a 0 with ha | ha <;> rcases Int.lt_or_le b 0 with hb | hb
  · have := Int.mul_pos_of_neg_of_neg ha hb
    rw [if_pos ha, if_pos hb, if_neg (by omega), Int.neg_mul_neg]
  · rcases Int.lt_or_eq_of_le hb with hb' | hb'
    · have := Int.mul_neg_of_neg_of_pos ha hb'
      rw [if_pos this, if_pos ha, if_neg (show ¬ b < 0 by omega), Int.neg_mul]
    · subst hb'; simp
  · rcases Int.lt_or_eq_of_le ha with ha' | ha'
    · have := Int.mul_neg_of_pos_of_neg ha' hb
      rw [if_pos this, if_pos hb, if_neg (show ¬ a < 0 by omega), Int.mul_neg]
    · subst ha'; simp
  · have := Int.mul_nonneg ha hb
    rw [if_neg (by omega), if_neg (by omega), if_neg (by omega)]
theorem absI_bd {a : Int} (h : absI a ≤ 1000000000000) : -1000000000000 ≤ a ∧ a ≤ 1000000000000 := by unfold absI at h; split at h <;> omega
theorem mulOk_bd {a b : Int} (h : mulOk a b = true) : -1000000000000 ≤ a * b ∧ a * b ≤ 1000000000000 := by
  apply absI_bd
  rw [absI_mul]
  unfold mulOk at h
  simp only [Bool.or_eq_true, beq_iff_eq, decide_eq_true_eq] at h
  rcases h with rfl | h
  · simp [absI]
  · rcases Int.lt_or_eq_of_le (absI_nonneg b) with hb | hb
    · exact (Int.le_ediv_iff_mul_le hb).1 h
    · rw [← hb]; simp
end Go.Proofs.YtpddkljedhghkaaDoor
set_option linter.unusedVariables false
namespace Go.Proofs.YtpddkljedhghkaaDoor
open Go Go.RowKit

def fitB (n : Int) : Bool := decide (-1000000000000 ≤ n) && decide (n ≤ 1000000000000)
def numOk (op n n' : Int) : Bool := if op = 6 then fitB (n + n') else if op = 7 then fitB (n - n') else if op = 8 then mulOk n n' else if op = 9 then !(n' == 0) else if op = 10 then !(n' == 0) else false
def numV (op n n' : Int) : Int := if op = 6 then n + n' else if op = 7 then n - n' else if op = 8 then n * n' else if op = 9 then n.tdiv n' else n.tmod n'
def arOk (op k n : Int) (s : ByteArray) (k' n' : Int) (s' : ByteArray) : Bool :=
  vB k n s && vB k' n' s' && (if op = 12 then k == 3 && k' == 3 && textB (s ++ s') else k == 1 && k' == 1 && numOk op n n')
def arK (op k n : Int) (s : ByteArray) (k' n' : Int) (s' : ByteArray) : Int := if arOk op k n s k' n' s' = true then if op = 12 then 3 else 1 else 0
def arN (op k n : Int) (s : ByteArray) (k' n' : Int) (s' : ByteArray) : Int := if arOk op k n s k' n' s' = true then if op = 12 then 0 else numV op n n' else 0
def arS (op k n : Int) (s : ByteArray) (k' n' : Int) (s' : ByteArray) : ByteArray := if arOk op k n s k' n' s' = true then if op = 12 then s ++ s' else ⟨#[]⟩ else ⟨#[]⟩
theorem vB_num {n : Int} {s : ByteArray} (h : vB 1 n s = true) : -1000000000000 ≤ n ∧ n ≤ 1000000000000 := by simp [vB] at h; exact h.1
theorem vB_text {n : Int} {s : ByteArray} (h : vB 3 n s = true) : n = 0 ∧ s.size ≤ 24 := by simp [vB, textB] at h; exact ⟨h.1, h.2.1⟩
theorem vB_one (n : Int) : vB 1 n ⟨#[]⟩ = fitB n := by simp [vB, fitB]
theorem tdiv_bd {n n' : Int} (h : -1000000000000 ≤ n ∧ n ≤ 1000000000000) : -1000000000000 ≤ n.tdiv n' ∧ n.tdiv n' ≤ 1000000000000 := by
  have := Int.natAbs_tdiv_le_natAbs n n'
  omega
theorem tmod_bd {n n' : Int} (h : -1000000000000 ≤ n ∧ n ≤ 1000000000000) : -1000000000000 ≤ n.tmod n' ∧ n.tmod n' ≤ 1000000000000 := by
  have : (n.tmod n').natAbs ≤ n.natAbs := by rw [Int.natAbs_tmod]; exact Nat.mod_le _ _
  omega
/-- What compute hands back: the number, and whether there is one. -/
def compOk (op n n' : Int) : Bool := if op = 6 then true else if op = 7 then true else if op = 8 then mulOk n n' else if n' = 0 then false else if op = 9 then true else if op = 10 then true else false
end Go.Proofs.YtpddkljedhghkaaDoor
