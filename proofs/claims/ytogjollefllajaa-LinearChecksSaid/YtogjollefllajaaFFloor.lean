/-
  The program's fractions: rounded down.
-/
import Derived.Test.YtogjollefllajaaFCmp
set_option linter.unusedVariables false
namespace Go.Proofs.Ytogjollefllajaa
open Go Go.RowKit Go.Deep
def flF (n d : Int) : Int := if vaB n d = true then n / d else 0
theorem floor_neg {n d : Int} (hd : 1 ≤ d) (h : n.tmod d < 0) : n.tdiv d - 1 = n / d := by
  have h1 := Int.mul_tdiv_add_tmod n d
  have h2 := Int.mul_ediv_add_emod n d
  have h3 := Int.emod_nonneg n (show d ≠ 0 by omega)
  have h4 := Int.emod_lt_of_pos n (show 0 < d by omega)
  have h5 : -d < n.tmod d := by
    have := Int.lt_tmod_of_pos n (show 0 < d by omega)
    omega
  generalize n.tmod d = r at *
  generalize n % d = s at *
  generalize n.tdiv d = p at *
  generalize n / d = q at *
  have e : d * (p - 1 - q) = s - r - d := by
    rw [Int.mul_sub, Int.mul_sub]; omega
  rcases Int.lt_trichotomy (p - 1 - q) 0 with h6 | h6 | h6
  · have : d * (p - 1 - q) ≤ d * (-1) := Int.mul_le_mul_of_nonneg_left (by omega) (by omega)
    omega
  · omega
  · have : d * 1 ≤ d * (p - 1 - q) := Int.mul_le_mul_of_nonneg_left (by omega) (by omega)
    omega
theorem floor_pos {n d : Int} (hd : 1 ≤ d) (h : ¬ n.tmod d < 0) : n.tdiv d = n / d := by
  have h1 := Int.mul_tdiv_add_tmod n d
  have h2 := Int.mul_ediv_add_emod n d
  have h3 := Int.emod_nonneg n (show d ≠ 0 by omega)
  have h4 := Int.emod_lt_of_pos n (show 0 < d by omega)
  have h5 : n.tmod d < d := Int.tmod_lt_of_pos n (by omega)
  generalize n.tmod d = r at *
  generalize n % d = s at *
  generalize n.tdiv d = p at *
  generalize n / d = q at *
  have e : d * (p - q) = s - r := by
    rw [Int.mul_sub]; omega
  rcases Int.lt_trichotomy (p - q) 0 with h6 | h6 | h6
  · have : d * (p - q) ≤ d * (-1) := Int.mul_le_mul_of_nonneg_left (by omega) (by omega)
    omega
  · omega
  · have : d * 1 ≤ d * (p - q) := Int.mul_le_mul_of_nonneg_left (by omega) (by omega)
    omega
theorem vaB_rng {n d : Int} (h : vaB n d = true) : 1 ≤ d ∧ d ≤ 100000000000000000 ∧ -100000000000000000 ≤ n ∧ n ≤ 100000000000000000 := rngB_all (by unfold vaB at h; simp at h; exact h.1)
theorem tdiv_in {n d : Int} (hn : -100000000000000000 ≤ n ∧ n ≤ 100000000000000000) : -100000000000000000 ≤ n.tdiv d ∧ n.tdiv d ≤ 100000000000000000 := by
  have := Int.natAbs_tdiv_le_natAbs n d
  omega
theorem floor_in {n d : Int} (hn : -100000000000000000 ≤ n ∧ n ≤ 100000000000000000) (hd : 1 ≤ d) : -100000000000000001 ≤ n / d ∧ n / d ≤ 100000000000000000 := by
  have := tdiv_in (d := d) hn
  by_cases h : n.tmod d < 0
  · rw [← floor_neg hd h]; omega
  · rw [← floor_pos hd h]; omega
end Go.Proofs.Ytogjollefllajaa
