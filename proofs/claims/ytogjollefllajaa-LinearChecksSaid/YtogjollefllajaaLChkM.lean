/-
  What CheckSolution gives.
-/
import Derived.Test.YtogjollefllajaaLVal3
import Derived.Test.YtogjollefllajaaLTot
set_option linter.unusedVariables false
namespace Go.Proofs.Ytogjollefllajaa
open Go Go.RowKit Go.Deep
def fdN (fd : Nat → Int) (i : Nat) : Nat := (fd i).natAbs
/-- A fraction that is no value of a variable. -/
def bX (y : Sy) (fn fd : Nat → Int) (k : Nat) : Bool := !vaB (fn k) (fd k) || (decide (fn k < 0) || decide (y.up k * fd k < fn k))
/-- An equation that does not hold. -/
def bE (y : Sy) (fn fd : Nat → Int) (n i : Nat) : Bool := !decide (totN (y.co i) fn (fdN fd) n = y.rt i * (totD (fdN fd) n : Int))
def csB (y : Sy) (n : Nat) (fn fd : Nat → Int) : Bool := (vaS y == 0) && ((((n : Nat) : Int) == ((y.U.len : Nat) : Int)) && (!anyB (bX y fn fd) n && !anyB (bE y fn fd n) y.R.len))
structure VaS (y : Sy) : Prop where
  u : y.U.len ≤ 200
  r : y.R.len ≤ 100
  b : y.B.len = y.R.len
  row : ∀ i, i < y.R.len → (y.row i).len = y.U.len
  up : ∀ i, i < y.U.len → 0 ≤ y.up i ∧ y.up i ≤ 1000000000
  rt : ∀ i, i < y.R.len → -1000000000 ≤ y.rt i ∧ y.rt i ≤ 1000000000
  co : ∀ i, i < y.R.len → ∀ k, k < y.U.len → -1000000 ≤ y.co i k ∧ y.co i k ≤ 1000000
theorem vaS_zero {y : Sy} (h : vaS y = 0) : VaS y := by
  unfold vaS at h
  cases hl : limB y with
  | false => simp [hl] at h
  | true =>
    cases hr : rectB y with
    | false => simp [hl, hr] at h
    | true =>
      simp only [limB, Bool.and_eq_true, decide_eq_true_eq, Bool.not_eq_true', anyB_no] at hl
      simp only [rectB, Bool.and_eq_true, beq_iff_eq, Bool.not_eq_true', anyB_no] at hr
      obtain ⟨h1, h2, h3, h4, h5⟩ := hl
      obtain ⟨h6, h7⟩ := hr
      have h8 : ∀ i, i < y.R.len → (y.row i).len = y.U.len := fun i hi => by
        have := h7 i hi
        unfold lenB at this
        simp at this
        omega
      refine ⟨h1, h2, by omega, h8, fun i hi => outB_no.1 (h5 i hi), fun i hi => outB_no.1 (h4 i (by omega)), fun i hi k hk => ?_⟩
      have h9 := h3 i hi
      unfold rowOut at h9
      exact outB_no.1 (anyB_no.1 h9 k (by rw [h8 i hi]; exact hk))
theorem whole_va {n : Int} (h1 : -1000000000 ≤ n) (h2 : n ≤ 1000000000) : vaB n 1 = true := by
  unfold vaB rngB
  simp
  omega
theorem cp_up {fn fd up : Int} (hv : vaB fn fd = true) (h1 : 0 ≤ up) (h2 : up ≤ 1000000000) : decide (0 < cpF fn fd up 1) = decide (up * fd < fn) := by
  rw [cpF_val hv (whole_va (by omega) h2), Bool.eq_iff_iff, decide_eq_true_iff, decide_eq_true_iff]
  unfold crs cmpI
  rw [Int.mul_one]
  split <;> (try split) <;> omega
theorem cmp_zero (a b : Int) : (cmpI a b != 0) = !decide (a = b) := by
  rw [Bool.eq_iff_iff]
  unfold cmpI
  split <;> (try split) <;> simp <;> omega
theorem tot_co {co ns : Nat → Int} {y : Sy} (h : VaS y) (i : Nat) (hi : i < y.R.len) : ∀ k, k < y.U.len → (y.co i k).natAbs < 9223372036854775808 := fun k hk => by have := h.co i hi k hk; omega
end Go.Proofs.Ytogjollefllajaa
