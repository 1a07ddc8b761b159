/-
  The program's fractions: the fraction of two numbers.
-/
import Derived.Test.YtogjollefllajaaFFloor
import Derived.Test.YtogjollefllajaaFRedM
set_option linter.unusedVariables false
namespace Go.Proofs.Ytogjollefllajaa
open Go Go.RowKit Go.Deep
def In64 (n : Int) : Prop := -9223372036854775808 ≤ n ∧ n ≤ 9223372036854775807
def frOk (N : Int) (D : Nat) : Bool := decide ((frI N D).natAbs ≤ 100000000000000000) && decide (frd N D ≤ 100000000000000000)
def frN (N : Int) (D : Nat) : Int := if frOk N D = true then frI N D else 0
def frD (N : Int) (D : Nat) : Int := if frOk N D = true then (frd N D : Int) else 0
def frE (N : Int) (D : Nat) : Int := if frOk N D = true then 0 else 8
def frV (N : Int) (D : Nat) : Value := .tuple #[.agg #[.int .i64 (frN N D), .int .i64 (frD N D)], .int .i64 (frE N D)]
theorem frV_ok {N : Int} {D : Nat} (h1 : (frI N D).natAbs ≤ 100000000000000000) (h2 : frd N D ≤ 100000000000000000) : frV N D = .tuple #[.agg #[.int .i64 (frI N D), .int .i64 ((frd N D : Nat) : Int)], .int .i64 0] := by
  have h : frOk N D = true := by simp [frOk, h1, h2]
  simp [frV, frN, frD, frE, h]
theorem frV_no {N : Int} {D : Nat} (h : ¬ ((frI N D).natAbs ≤ 100000000000000000 ∧ frd N D ≤ 100000000000000000)) : frV N D = .tuple #[.agg #[.int .i64 0, .int .i64 0], .int .i64 8] := by
  have h : frOk N D = false := by
    unfold frOk
    rw [Bool.and_eq_false_iff, decide_eq_false_iff_not, decide_eq_false_iff_not]
    omega
  simp [frV, frN, frD, frE, h]
def turned (num den : Int) : Int := if den < 0 then -num else num
theorem turned_abs (num den : Int) : (turned num den).natAbs = num.natAbs := by unfold turned; split <;> simp
theorem of_num {num den : Int} (hd : den ≠ 0) : frI (turned num den) den.natAbs = if (decide (num < 0) != decide (den < 0)) = true then -((num.natAbs / Nat.gcd num.natAbs den.natAbs : Nat) : Int) else ((num.natAbs / Nat.gcd num.natAbs den.natAbs : Nat) : Int) := by
  have h1 := frI_abs (turned num den) den.natAbs
  have h2 := frI_neg (N := turned num den) (D := den.natAbs) (by omega)
  rw [turned_abs] at h1
  have h3 : num = 0 → num.natAbs / Nat.gcd num.natAbs den.natAbs = 0 := by rintro rfl; simp
  generalize frI (turned num den) den.natAbs = v at *
  generalize num.natAbs / Nat.gcd num.natAbs den.natAbs = m at *
  unfold turned at h2
  by_cases a1 : num < 0 <;> by_cases a2 : den < 0
  · rw [if_pos a2] at h2
    rw [decide_eq_true a1, decide_eq_true a2]
    simp
    omega
  · rw [if_neg a2] at h2
    rw [decide_eq_true a1, decide_eq_false a2]
    simp
    omega
  · rw [if_pos a2] at h2
    rw [decide_eq_false a1, decide_eq_true a2]
    simp
    omega
  · rw [if_neg a2] at h2
    rw [decide_eq_false a1, decide_eq_false a2]
    simp
    omega
theorem of_den (num den : Int) : frd (turned num den) den.natAbs = den.natAbs / Nat.gcd num.natAbs den.natAbs := by unfold frd; rw [turned_abs]
theorem of_abs (num den : Int) : (frI (turned num den) den.natAbs).natAbs = num.natAbs / Nat.gcd num.natAbs den.natAbs := by rw [frI_abs, turned_abs]
theorem tdiv_nat (x g : Nat) : (x : Int).tdiv (g : Int) = ((x / g : Nat) : Int) := by rw [Int.tdiv_eq_ediv_of_nonneg (by omega)]; omega
end Go.Proofs.Ytogjollefllajaa
