/-
  The program's sums of fractions: any term.
-/
import Derived.Test.YtogjollefllajaaLSum
set_option linter.unusedVariables false
namespace Go.Proofs.Ytogjollefllajaa
open Go Go.RowKit Go.Deep
theorem lsum_calls (g : Bool) (a : Option Addr) (n c : Nat) (a' : Option Addr) (n' c' : Nat) (P : Int) (Q : Nat) (k fn : Int) (fd : Nat) (w : World) (h : IAt w g ⟨a, n, c⟩ P) (h' : NatAt w ⟨a', n', c'⟩ Q) (hQ : 0 < Q) (hc : Nat.gcd P.natAbs Q = 1) (hP : P.natAbs < wp 200) (hQw : Q < wp 200) (hk : k.natAbs < 9223372036854775808) (hf : vaB fn fd = true) :
    Calls Try.prog 51 #[.agg #[.bool g, .slice a n c, .slice a' n' c'], .int .i64 k, .agg #[.int .i64 fn, .int .i64 fd]] w (SumR w (P * fd + k * fn * Q) (Q * fd)) := by
  obtain ⟨f1, f2, f3, f4⟩ := vaB_rng hf
  have hfd : 0 < fd := by omega
  have hco : Nat.gcd fn.natAbs fd = 1 := by
    have h := hf
    unfold vaB at h
    simp only [Bool.and_eq_true, beq_iff_eq, Int.natAbs_natCast] at h
    exact h.2
  by_cases hk0 : k = 0
  · subst hk0
    exact lsum_none1 g a n c a' n' c' P Q fn fd w h h' hQ hfd hc
  by_cases hf0 : fn = 0
  · subst hf0
    exact lsum_none2 g a n c a' n' c' P Q k fd w h h' hQ hfd hc hk0
  have a1 : 0 < Nat.gcd fd k.natAbs := Nat.gcd_pos_of_pos_left _ hfd
  have a2 : Nat.gcd fd k.natAbs * (fd / Nat.gcd fd k.natAbs) = fd := Nat.mul_div_cancel' (Nat.gcd_dvd_left _ _)
  have a3 : ((Nat.gcd fd k.natAbs : Nat) : Int) * (k / ((Nat.gcd fd k.natAbs : Nat) : Int)) = k := Int.mul_ediv_cancel' (natCast_dvd'.2 (Nat.gcd_dvd_right _ _))
  generalize hcm : Nat.gcd fd k.natAbs = cm at *
  generalize fd / cm = b' at *
  generalize k / (cm : Int) = k' at *
  have b0 : 0 < b' := by
    rcases Nat.eq_zero_or_pos b' with h0 | h0
    · rw [h0, Nat.mul_zero] at a2; omega
    · exact h0
  have a4 : 0 < Nat.gcd Q b' := Nat.gcd_pos_of_pos_left _ hQ
  have a5 : Nat.gcd Q b' * (Q / Nat.gcd Q b') = Q := Nat.mul_div_cancel' (Nat.gcd_dvd_left _ _)
  have a6 : Nat.gcd Q b' * (b' / Nat.gcd Q b') = b' := Nat.mul_div_cancel' (Nat.gcd_dvd_right _ _)
  generalize hsh : Nat.gcd Q b' = sh at *
  generalize Q / sh = l at *
  generalize b' / sh = r at *
  have l0 : 0 < l := by
    rcases Nat.eq_zero_or_pos l with h0 | h0
    · rw [h0, Nat.mul_zero] at a5; omega
    · exact h0
  obtain ⟨num, hnum⟩ : ∃ num, P * r + (l : Int) * k' * fn = num := ⟨_, rfl⟩
  have a7 : 0 < Nat.gcd num.natAbs sh := Nat.gcd_pos_of_pos_right _ a4
  have a8 : ((Nat.gcd num.natAbs sh : Nat) : Int) * (num / ((Nat.gcd num.natAbs sh : Nat) : Int)) = num := Int.mul_ediv_cancel' (natCast_dvd'.2 (Nat.gcd_dvd_left _ _))
  have a9 : Nat.gcd num.natAbs sh * (b' / Nat.gcd num.natAbs sh) = b' := Nat.mul_div_cancel' (Nat.dvd_trans (Nat.gcd_dvd_right _ _) ⟨r, a6.symm⟩)
  generalize hd : Nat.gcd num.natAbs sh = d at *
  generalize num / (d : Int) = v at *
  generalize b' / d = u at *
  have e := term_lowest hQ hfd hc hco hcm.symm a3 a2 hsh.symm a5 a6 (by rw [← hnum]; congr 1; ac_rfl) hd.symm a8 a9
  exact lsum_main g a n c a' n' c' P Q k fn fd w h h' hP hQw hk (by unfold In64; omega) (by omega) hk0 hf0 cm b' sh l r d u k' num v b0 a1 a4 a7 l0 hcm a3 a2 hsh a5 a6 hnum hd a8 a9 e.1 e.2
/-- The sum of the numbers times the fractions, over the product of the denominators. -/
def totN (ns fn : Nat → Int) (fd : Nat → Nat) : Nat → Int
  | 0 => 0
  | k + 1 => totN ns fn fd k * fd k + ns k * fn k * (totD fd k : Int)
where totD (fd : Nat → Nat) : Nat → Nat
  | 0 => 1
  | k + 1 => totD fd k * fd k
abbrev totD := totN.totD
theorem totD_pos {fd : Nat → Nat} : ∀ (k : Nat), (∀ i, i < k → 0 < fd i) → 0 < totD fd k
  | 0, _ => Nat.one_pos
  | k + 1, h => Nat.mul_pos (totD_pos k fun i hi => h i (by omega)) (h k (by omega))
theorem totD_lt {fd : Nat → Nat} : ∀ (k : Nat), (∀ i, i < k → fd i < 18446744073709551616) → totD fd k < wp (k + 1)
  | 0, _ => by show 1 < wp 1; unfold wp; omega
  | k + 1, h => wp_mul (j := k + 1) (totD_lt k fun i hi => h i (by omega)) (wp_one (h k (by omega)))
theorem totN_lt {ns fn : Nat → Int} {fd : Nat → Nat} : ∀ (k : Nat), (∀ i, i < k → fd i < 18446744073709551616 ∧ (ns i).natAbs < 18446744073709551616 ∧ (fn i).natAbs < 18446744073709551616) → (totN ns fn fd k).natAbs < wp (2 * k + 2)
  | 0, _ => by show 0 < wp 2; exact wp_pos _
  | k + 1, h => by
    have h1 := totN_lt k fun i hi => h i (by omega)
    have h2 := totD_lt k fun i hi => (h i (by omega)).1
    obtain ⟨b1, b2, b3⟩ := h k (by omega)
    have e1 : (totN ns fn fd k * (fd k : Int)).natAbs < wp (2 * k + 3) := by
      rw [Int.natAbs_mul, Int.natAbs_natCast]; exact wp_mono (wp_mul h1 (wp_one b1)) (by omega)
    have e2 : (ns k * fn k * (totD fd k : Int)).natAbs < wp (2 * k + 3) := by
      rw [Int.natAbs_mul, Int.natAbs_mul, Int.natAbs_natCast]
      exact wp_mono (wp_mul (wp_mul (wp_one b2) (wp_one b3)) h2) (by omega)
    exact wp_le (Int.natAbs_add_le _ _) (wp_add e1 e2)
/-- One step of a sum in lowest terms. -/
theorem fr_step (N : Int) {D : Nat} (hD : 0 < D) (n a : Int) {b : Nat} (hb : 0 < b) :
    frI (frI N D * b + n * a * (frd N D : Int)) (frd N D * b) = frI (N * b + n * a * D) (D * b) ∧ frd (frI N D * b + n * a * (frd N D : Int)) (frd N D * b) = frd (N * b + n * a * D) (D * b) := by
  have h1 := frI_mul N D
  have h2 := frd_mul N D
  have hg := gcd_pos_right (a := N.natAbs) hD
  have h4 := frd_pos N hD
  generalize frI N D = v at *
  generalize frd N D = d at *
  generalize Nat.gcd N.natAbs D = c at *
  have hs := fr_scale hg (v * b + n * a * d) (Nat.mul_pos h4 hb)
  have e1 : (c : Int) * (v * b + n * a * d) = N * b + n * a * D := by
    rw [Int.mul_add, ← h1, ← h2, Int.natCast_mul]
    congr 1 <;> ac_rfl
  have e2 : c * (d * b) = D * b := by rw [← h2]; ac_rfl
  rw [e1, e2] at hs
  exact ⟨hs.1.symm, hs.2.symm⟩
theorem frI_lt {N : Int} {D k : Nat} (h : N.natAbs < wp k) : (frI N D).natAbs < wp k := by
  rw [frI_abs]; exact wp_le (Nat.div_le_self _ _) h
theorem frd_lt {N : Int} {D k : Nat} (h : D < wp k) : frd N D < wp k := wp_le (Nat.div_le_self _ _) h
end Go.Proofs.Ytogjollefllajaa
