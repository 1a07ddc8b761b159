/-
  What the long division of numbers by doubling reckons; Euclid's rounds.
-/
import Derived.Test.YtogjollefllajaaFMath
namespace Go.Proofs.Ytogjollefllajaa
theorem two_pow_gt (k : Nat) : k < 2 ^ k := Nat.lt_two_pow_self
theorem le_of_pow_mul {y k x : Nat} (hy : 0 < y) (h : y * 2 ^ k ≤ x) : k < x := by
  have h1 := two_pow_gt k
  have h2 : 1 * 2 ^ k ≤ y * 2 ^ k := Nat.mul_le_mul_right _ hy
  omega
theorem pow9_le (n : Nat) : 1000000000 ^ n ≤ 2 ^ (30 * n) := by
  rw [Nat.pow_mul]
  exact Nat.pow_le_pow_left (by decide) n
theorem len_bound {y k x n : Nat} (hy : 0 < y) (h : y * 2 ^ k ≤ x) (hx : (digs x).length ≤ n) : k < 30 * n := by
  have h1 := lt_pow_len x
  have h2 : 1000000000 ^ (digs x).length ≤ 1000000000 ^ n := Nat.pow_le_pow_right (by omega) hx
  have h3 := pow9_le n
  have h4 : 1 * 2 ^ k ≤ y * 2 ^ k := Nat.mul_le_mul_right _ hy
  rcases Nat.lt_or_ge k (30 * n) with h5 | h5
  · exact h5
  · have := Nat.pow_le_pow_right (n := 2) (by omega) h5
    omega
theorem digs_mono {a b : Nat} (h : a ≤ b) : (digs a).length ≤ (digs b).length := by
  rcases Nat.lt_or_ge (digs b).length (digs a).length with h' | h'
  · have := lt_of_len_lt h'; omega
  · exact h'
theorem digs_double (a : Nat) : (digs (a + a)).length ≤ (digs a).length + 1 := by
  refine digs_len_le ?_
  have := lt_pow_len a
  rw [Nat.pow_succ]; omega
theorem pow_step (y k : Nat) : y * 2 ^ (k + 1) = y * 2 ^ k + y * 2 ^ k := by rw [Nat.pow_succ, ← Nat.mul_assoc]; omega
/-- The state of the second loop. -/
structure DivI (x y j q r : Nat) : Prop where
  eq : x = q * (y * 2 ^ j) + r
  lt : r < y * 2 ^ j
theorem DivI.start {x y k : Nat} (h : x < y * 2 ^ k) : DivI x y k 0 x := ⟨by omega, h⟩
theorem DivI.no {x y j q r : Nat} (h : DivI x y (j + 1) q r) (hr : r < y * 2 ^ j) : DivI x y j (q + q) r := by
  obtain ⟨h1, h2⟩ := h
  rw [pow_step] at h1
  refine ⟨?_, hr⟩
  rw [Nat.mul_add] at h1
  rw [Nat.add_mul]; exact h1
theorem DivI.yes {x y j q r : Nat} (h : DivI x y (j + 1) q r) (hr : y * 2 ^ j ≤ r) : DivI x y j (q + q + 1) (r - y * 2 ^ j) := by
  obtain ⟨h1, h2⟩ := h
  rw [pow_step] at h1 h2
  refine ⟨?_, by omega⟩
  rw [Nat.mul_add] at h1
  rw [Nat.add_mul, Nat.add_mul, Nat.one_mul]; omega
theorem DivI.q_le {x y j q r : Nat} (h : DivI x y j q r) (hy : 0 < y) : q ≤ x := by
  have h1 : 0 < y * 2 ^ j := Nat.mul_pos hy (Nat.two_pow_pos _)
  have h2 : q * 1 ≤ q * (y * 2 ^ j) := Nat.mul_le_mul_left _ h1
  have := h.eq
  omega
theorem DivI.r_le {x y j q r : Nat} (h : DivI x y j q r) : r ≤ x := by have := h.eq; omega
theorem DivI.qq_le {x y j q r : Nat} (h : DivI x y (j + 1) q r) (hy : 0 < y) : q + q ≤ x := by
  have h1 : 0 < y * 2 ^ j := Nat.mul_pos hy (Nat.two_pow_pos _)
  have h2 : q * 2 ≤ q * (y * 2 ^ (j + 1)) := Nat.mul_le_mul_left _ (by rw [pow_step]; omega)
  have := h.eq
  omega
theorem DivI.end {x y q r : Nat} (h : DivI x y 0 q r) (hy : 0 < y) : q = x / y ∧ r = x % y := by
  obtain ⟨h1, h2⟩ := h
  simp only [Nat.pow_zero, Nat.mul_one] at h1 h2
  subst h1
  rw [Nat.mul_comm, Nat.mul_add_div hy, Nat.mul_add_mod, Nat.div_eq_of_lt h2, Nat.mod_eq_of_lt h2]
  simp
theorem gcd_step (a b : Nat) (_ : 0 < b) : Nat.gcd b (a % b) = Nat.gcd a b := by
  rw [Nat.gcd_comm a b, Nat.gcd_rec b a, Nat.gcd_comm]
end Go.Proofs.Ytogjollefllajaa
