/-
  What the program's Eval gives: the value that evalE names.
-/
import Derived.Test.YtpddkljedhghkaaDoorJ13
set_option linter.unusedVariables false
namespace Go.Proofs.YtpddkljedhghkaaDoor
open Go Go.RowKit
theorem has_ok (n : Nat) (h1 : 1 ≤ n) (h2 : n < 29) : (oRow n).has = 0 ∨ (oRow n).has = 1 ∨ (oRow n).has = 2 ∨ (oRow n).has = 3 ∨ (oRow n).has = 4 ∨ (oRow n).has = 5 ∨ (oRow n).has = 6 ∨ (oRow n).has = 7 := by
  have : n = 1 ∨ n = 2 ∨ n = 3 ∨ n = 4 ∨ n = 5 ∨ n = 6 ∨ n = 7 ∨ n = 8 ∨ n = 9 ∨ n = 10 ∨ n = 11 ∨ n = 12 ∨ n = 13 ∨ n = 14 ∨ n = 15 ∨ n = 16 ∨ n = 17 ∨ n = 18 ∨ n = 19 ∨ n = 20 ∨ n = 21 ∨ n = 22 ∨ n = 23 ∨ n = 24 ∨ n = 25 ∨ n = 26 ∨ n = 27 ∨ n = 28 := by omega
  rcases this with rfl | rfl | rfl | rfl | rfl | rfl | rfl | rfl | rfl | rfl | rfl | rfl | rfl | rfl | rfl | rfl | rfl | rfl | rfl | rfl | rfl | rfl | rfl | rfl | rfl | rfl | rfl | rfl <;> decide
end Go.Proofs.YtpddkljedhghkaaDoor
