/-
  What Arith gives of the program and of the reference for two valid values, case by case.
-/
import Derived.Test.YtpddkljedhghkaaDoorJ10
set_option linter.unusedVariables false
namespace Go.Proofs.YtpddkljedhghkaaDoor
open Go Go.RowKit

theorem fitB_iff {n : Int} : fitB n = true ↔ -1000000000000 ≤ n ∧ n ≤ 1000000000000 := by simp [fitB]
theorem numOk_eq (op n n' : Int) (h : -1000000000000 ≤ n ∧ n ≤ 1000000000000) : numOk op n n' = (compOk op n n' && fitB (numV op n n')) := by
  unfold numOk compOk numV
  by_cases h6 : op = 6
  · simp [h6]
  · by_cases h7 : op = 7
    · simp [h7]
    · by_cases h8 : op = 8
      · subst h8
        simp only [h6, h7, if_true, if_false]
        cases hm : mulOk n n'
        · simp
        · simp [fitB_iff.2 (mulOk_bd hm)]
      · by_cases h9 : op = 9
        · subst h9
          simp only [h6, h7, h8, if_true, if_false, fitB_iff.2 (tdiv_bd h)]
          by_cases hz : n' = 0 <;> simp [hz]
        · by_cases h10 : op = 10
          · subst h10
            simp only [h6, h7, h8, h9, if_true, if_false, fitB_iff.2 (tmod_bd h)]
            by_cases hz : n' = 0 <;> simp [hz]
          · simp only [h6, h7, h8, h9, h10, if_false]
            by_cases hz : n' = 0 <;> simp [hz]
end Go.Proofs.YtpddkljedhghkaaDoor
