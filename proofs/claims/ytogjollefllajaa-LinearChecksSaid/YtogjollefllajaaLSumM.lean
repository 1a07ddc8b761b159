/-
  Sums of fractions over the least common denominator, as the program reckons them. Plain integers.
-/
import Derived.Test.YtogjollefllajaaLMath
import Derived.Test.YtogjollefllajaaFRedM
set_option linter.unusedVariables false
namespace Go.Proofs.Ytogjollefllajaa
/-- A number with k words stays below. -/
def wp (k : Nat) : Nat := 18446744073709551616 ^ k
theorem wp_pos (k : Nat) : 0 < wp k := Nat.pow_pos (by omega)
theorem wp_mul {a b j k : Nat} (ha : a < wp j) (hb : b < wp k) : a * b < wp (j + k) := by
  unfold wp at *; rw [Nat.pow_add]; exact Nat.mul_lt_mul_of_lt_of_lt ha hb
theorem wp_mono {a j k : Nat} (ha : a < wp j) (h : j ≤ k) : a < wp k := by
  unfold wp at *; exact Nat.lt_of_lt_of_le ha (Nat.pow_le_pow_right (by omega) h)
theorem wp_le {a b k : Nat} (ha : a ≤ b) (hb : b < wp k) : a < wp k := Nat.lt_of_le_of_lt ha hb
theorem wp_one {a : Nat} (ha : a < 18446744073709551616) : a < wp 1 := by unfold wp; simpa using ha
theorem wp_add {a b k : Nat} (ha : a < wp k) (hb : b < wp k) : a + b < wp (k + 1) := by
  unfold wp at *; rw [Nat.pow_succ]; generalize 18446744073709551616 ^ k = p at *; omega
theorem wp_len {n k : Nat} (h : n < wp k) : (wdigs n).length ≤ k := wdigs_len_le h
def sgB (g : Bool) (m : Nat) : Int := if g = true then -(m : Int) else m
theorem sgB_times (g : Bool) (m : Nat) (k : Int) : sgB (!(g == decide (k < 0))) (m * k.natAbs) = sgB g m * k := by
  by_cases hk : k < 0
  · rw [decide_eq_true hk]
    obtain ⟨q, rfl⟩ : ∃ q : Nat, k = -(q : Int) := ⟨k.natAbs, by omega⟩
    rw [Int.natAbs_neg, Int.natAbs_natCast]
    cases g <;> simp [sgB, Int.natCast_mul, Int.mul_neg, Int.neg_mul]
  · rw [decide_eq_false hk]
    obtain ⟨q, rfl⟩ : ∃ q : Nat, k = (q : Int) := ⟨k.natAbs, by omega⟩
    rw [Int.natAbs_natCast]
    cases g <;> simp [sgB, Int.natCast_mul, Int.neg_mul]
theorem sgB_abs (g : Bool) (m : Nat) : (sgB g m).natAbs = m := by cases g <;> simp [sgB]
theorem sgB_same (g : Bool) (m n : Nat) : sgB g (m + n) = sgB g m + sgB g n := by cases g <;> simp [sgB]; omega
theorem sgB_more {g g' : Bool} (hg : (g == g') = false) {m n : Nat} (h : n ≤ m) : sgB g (m - n) = sgB g m + sgB g' n := by
  cases g <;> cases g' <;> simp [sgB] at * <;> omega
theorem sgB_less {g g' : Bool} (hg : (g == g') = false) {m n : Nat} (h : m < n) : sgB g' (n - m) = sgB g m + sgB g' n := by
  cases g <;> cases g' <;> simp [sgB] at * <;> omega
theorem sgB_over {g : Bool} {m u : Nat} (h : u ∣ m) : (u : Int) * sgB g (m / u) = sgB g m := by
  obtain ⟨q, rfl⟩ := h
  rcases Nat.eq_zero_or_pos u with rfl | hu
  · cases g <;> simp [sgB]
  · rw [Nat.mul_div_cancel_left _ hu]
    cases g <;> simp [sgB, Int.mul_neg]
/-- The sign and the size of N. -/
def SgOf (g : Bool) (N : Int) : Prop := sgB g N.natAbs = N
theorem SgOf.of (g : Bool) (m : Nat) : SgOf g (sgB g m) := by unfold SgOf; rw [sgB_abs]
theorem SgOf.false_nat (m : Nat) : SgOf false (m : Int) := by simp [SgOf, sgB]
theorem fr_cross' (N : Int) (D : Nat) : frI N D * D = N * frd N D := by
  have h1 := frI_mul N D
  have h2 := frd_mul N D
  generalize Nat.gcd N.natAbs D = g at *
  generalize frI N D = v at *
  generalize frd N D = d at *
  rw [← h1, ← h2, Int.natCast_mul]; ac_rfl
theorem fr_scale {c : Nat} (hc : 0 < c) (N : Int) {D : Nat} (hD : 0 < D) : frI ((c : Int) * N) (c * D) = frI N D ∧ frd ((c : Int) * N) (c * D) = frd N D := by
  refine fr_unique (Nat.mul_pos hc hD) (frd_pos N hD) (fr_coprime N hD) ?_
  have := fr_cross' N D
  rw [Int.natCast_mul, Int.mul_assoc, ← this]
  ac_rfl
/-- One more term: n times a / b, where what n and b have in common is divided out first. -/
theorem term_lowest {P : Int} {Q : Nat} {n a : Int} {b : Nat} (hQ : 0 < Q) (hb : 0 < b) (hc : Nat.gcd P.natAbs Q = 1) (ha : Nat.gcd a.natAbs b = 1)
    {c : Nat} (hcc : c = Nat.gcd b n.natAbs) {n' : Int} {b' : Nat} (hn : (c : Int) * n' = n) (hb' : c * b' = b)
    {s l r : Nat} (hs : s = Nat.gcd Q b') (hl : s * l = Q) (hr : s * r = b') {num : Int} (hnum : num = P * r + n' * a * l)
    {d : Nat} (hd : d = Nat.gcd num.natAbs s) {v : Int} (hv : (d : Int) * v = num) {u : Nat} (hu : d * u = b') :
    frI (P * b + n * a * Q) (Q * b) = v ∧ frd (P * b + n * a * Q) (Q * b) = l * u := by
  have hc0 : 0 < c := by rw [hcc]; exact Nat.gcd_pos_of_pos_left _ hb
  have hb0 : 0 < b' := by
    rcases Nat.eq_zero_or_pos b' with h | h
    · rw [h, Nat.mul_zero] at hb'; omega
    · exact h
  have h1 : Nat.gcd (n' * a).natAbs b' = 1 := by
    rw [Int.natAbs_mul]
    refine Nat.Coprime.mul_left ?_ (Nat.Coprime.coprime_dvd_right ⟨c, by rw [← hb', Nat.mul_comm]⟩ ha)
    have e : c * n'.natAbs = n.natAbs := by rw [← hn, Int.natAbs_mul, Int.natAbs_natCast]
    have h := Nat.gcd_mul_left c b' n'.natAbs
    rw [hb', e, ← hcc] at h
    have h2 : c * 1 = c * Nat.gcd b' n'.natAbs := by omega
    have h3 := (Nat.eq_of_mul_eq_mul_left hc0 h2).symm
    unfold Nat.Coprime
    rw [Nat.gcd_comm]; exact h3
  have hw := sum_wide hQ hb0 hc h1 hs hl hr hnum hd hv hu
  have hsc := fr_scale hc0 (P * b' + n' * a * Q) (Nat.mul_pos hQ hb0)
  have e1 : (c : Int) * (P * b' + n' * a * Q) = P * b + n * a * Q := by
    rw [Int.mul_add, ← hn, ← hb', Int.natCast_mul]
    congr 1 <;> ac_rfl
  have e2 : c * (Q * b') = Q * b := by rw [← hb']; ac_rfl
  rw [e1, e2] at hsc
  exact ⟨hsc.1.trans hw.1, hsc.2.trans hw.2⟩
theorem term_none {P : Int} {Q : Nat} {n a : Int} {b : Nat} (hQ : 0 < Q) (hb : 0 < b) (hc : Nat.gcd P.natAbs Q = 1) (h : n = 0 ∨ a = 0) :
    frI (P * b + n * a * Q) (Q * b) = P ∧ frd (P * b + n * a * Q) (Q * b) = Q := by
  have e : n * a = 0 := by rcases h with rfl | rfl <;> simp
  rw [e, Int.zero_mul, Int.add_zero]
  refine fr_unique (Nat.mul_pos hQ hb) hQ hc ?_
  rw [Int.natCast_mul]; ac_rfl
end Go.Proofs.Ytogjollefllajaa
