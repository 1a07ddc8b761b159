/-
  A quotient of two digits by one, digit by digit of 32 bits: what the loops of Div64 find. Plain natural numbers.
-/
namespace Go.Proofs.Ytogjollefllajaa
/-- One digit of the quotient: u * 2^32 + d by y, where y = h * 2^32 + l is at least 2^63; q: the guess, r: its rest. -/
structure KnI (u d h l q r : Nat) : Prop where
  eq : q * h + r = u
  ge : (u * 4294967296 + d) / (h * 4294967296 + l) ≤ q
  le : q ≤ 4294967297
theorem KnI.start {u d h l : Nat} (hh : 2147483648 ≤ h) (hh2 : h < 4294967296) (hd : d < 4294967296) (hu : u < h * 4294967296 + l) (hl : l < 4294967296) : KnI u d h l (u / h) (u % h) := by
  have h0 : 0 < h := by omega
  refine ⟨by rw [Nat.mul_comm]; exact Nat.div_add_mod u h, ?_, ?_⟩
  · have hy : 0 < h * 4294967296 + l := by omega
    refine (Nat.le_div_iff_mul_le h0).2 ?_
    have h1 : (u * 4294967296 + d) / (h * 4294967296 + l) * (h * 4294967296 + l) ≤ u * 4294967296 + d := Nat.div_mul_le_self _ _
    generalize (u * 4294967296 + d) / (h * 4294967296 + l) = Q at *
    rw [Nat.mul_add] at h1
    have h2 : Q * (h * 4294967296) = Q * h * 4294967296 := by rw [Nat.mul_assoc]
    rw [h2] at h1
    generalize Q * h = a at *
    generalize Q * l = b at *
    omega
  · have h1 : u / h * h ≤ u := Nat.div_mul_le_self _ _
    rcases Nat.lt_or_ge 4294967297 (u / h) with h2 | h2
    · exfalso
      have h3 : 4294967298 * h ≤ u / h * h := Nat.mul_le_mul_right _ h2
      omega
    · exact h2
/-- The guess is too great: the next lower one. -/
theorem KnI.step {u d h l q r : Nat} (_ : 2147483648 ≤ h) (hd : d < 4294967296) (hu : u < h * 4294967296 + l) (H : KnI u d h l q r) (hc : 4294967296 ≤ q ∨ 4294967296 * r + d < q * l) : 0 < q ∧ KnI u d h l (q - 1) (r + h) := by
  obtain ⟨h1, h2, h3⟩ := H
  have hy : 0 < h * 4294967296 + l := by omega
  have hlt : (u * 4294967296 + d) / (h * 4294967296 + l) < q := by
    rcases hc with hc | hc
    · have : (u * 4294967296 + d) / (h * 4294967296 + l) < 4294967296 := by
        rw [Nat.div_lt_iff_lt_mul hy]
        omega
      omega
    · rw [Nat.div_lt_iff_lt_mul hy, Nat.mul_add, ← Nat.mul_assoc, ← h1]
      generalize q * h = a at *
      generalize q * l = b at *
      omega
  have hq : 0 < q := Nat.lt_of_le_of_lt (Nat.zero_le _) hlt
  refine ⟨hq, ?_, Nat.le_sub_one_of_lt hlt, by omega⟩
  obtain ⟨k, rfl⟩ : ∃ k, q = k + 1 := ⟨q - 1, by omega⟩
  rw [Nat.add_mul, Nat.one_mul] at h1
  simp only [Nat.add_sub_cancel]
  omega
/-- The guess is right. -/
theorem KnI.end {u d h l q r : Nat} (hh : 2147483648 ≤ h) (H : KnI u d h l q r) (hc : q * l ≤ 4294967296 * r + d) : q = (u * 4294967296 + d) / (h * 4294967296 + l) := by
  obtain ⟨h1, h2, h3⟩ := H
  have hy : 0 < h * 4294967296 + l := by omega
  refine Nat.le_antisymm ?_ h2
  refine (Nat.le_div_iff_mul_le hy).2 ?_
  rw [Nat.mul_add, ← Nat.mul_assoc, ← h1]
  generalize q * h = a at *
  generalize q * l = b at *
  omega
theorem KnI.out {u d h l q r : Nat} (hh : 2147483648 ≤ h) (hl : l < 4294967296) (H : KnI u d h l q r) (hq : q ≤ 4294967296) (hr : 4294967296 ≤ r) : q = (u * 4294967296 + d) / (h * 4294967296 + l) := by
  refine H.end hh ?_
  have h1 : q * l ≤ 4294967296 * r := Nat.mul_le_mul hq (by omega)
  exact Nat.le_trans h1 (Nat.le_add_right _ _)
theorem KnI.mul_le {u d h l q r : Nat} (hl : l < 4294967296) (H : KnI u d h l q r) : q * l ≤ 18446744073709551615 := by
  have h1 : q * l ≤ 4294967297 * 4294967295 := Nat.mul_le_mul H.le (by omega)
  simpa using h1
theorem two_digits (b u1 d1 d0 y : Nat) (hy : 0 < y) : ((u1 * b + d1) * b + d0) / y = (u1 * b + d1) / y * b + ((u1 * b + d1) % y * b + d0) / y ∧
    ((u1 * b + d1) * b + d0) % y = ((u1 * b + d1) % y * b + d0) % y := by
  have h1 := Nat.div_add_mod (u1 * b + d1) y
  generalize (u1 * b + d1) / y = q at *
  generalize (u1 * b + d1) % y = r at *
  rw [← h1]
  have e : (y * q + r) * b + d0 = y * (q * b) + (r * b + d0) := by
    rw [Nat.add_mul, Nat.mul_assoc]; omega
  rw [e, Nat.mul_add_div hy, Nat.mul_add_mod]
  exact ⟨rfl, rfl⟩
/-- Two digits make the whole quotient. -/
theorem knuth_two (u1 d1 d0 y : Nat) (hy : 0 < y) : ((u1 * 4294967296 + d1) * 4294967296 + d0) / y = (u1 * 4294967296 + d1) / y * 4294967296 + ((u1 * 4294967296 + d1) % y * 4294967296 + d0) / y ∧
    ((u1 * 4294967296 + d1) * 4294967296 + d0) % y = ((u1 * 4294967296 + d1) % y * 4294967296 + d0) % y := two_digits 4294967296 u1 d1 d0 y hy
/-- A quotient by a shifted divisor. -/
theorem shift_div (u y p : Nat) (hp : 0 < p) : u * p / (y * p) = u / y ∧ u * p % (y * p) = u % y * p := by
  constructor
  · exact Nat.mul_div_mul_right u y hp
  · exact Nat.mul_mod_mul_right p u y
end Go.Proofs.Ytogjollefllajaa
