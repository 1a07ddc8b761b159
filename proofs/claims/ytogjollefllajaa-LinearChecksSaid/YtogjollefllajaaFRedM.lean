/-
  Fractions in lowest terms: what sums and products come to, whichever way they are reckoned. Plain integers.
-/
import Derived.Test.YtogjollefllajaaFMath
namespace Go.Proofs.Ytogjollefllajaa
/-- Numerator and denominator of N / D in lowest terms. -/
def frI (N : Int) (D : Nat) : Int := N / ((Nat.gcd N.natAbs D : Nat) : Int)
def frd (N : Int) (D : Nat) : Nat := D / Nat.gcd N.natAbs D
theorem natCast_dvd' {m : Nat} {n : Int} : (m : Int) ∣ n ↔ m ∣ n.natAbs := by rw [← Int.dvd_natAbs, Int.natCast_dvd_natCast]
theorem gcd_pos_right {a b : Nat} (h : 0 < b) : 0 < Nat.gcd a b := Nat.gcd_pos_of_pos_right _ h
theorem frI_mul (N : Int) (D : Nat) : ((Nat.gcd N.natAbs D : Nat) : Int) * frI N D = N := by
  unfold frI
  refine Int.mul_ediv_cancel' ?_
  exact natCast_dvd'.2 (Nat.gcd_dvd_left _ _)
theorem frd_mul (N : Int) (D : Nat) : Nat.gcd N.natAbs D * frd N D = D := by
  unfold frd
  exact Nat.mul_div_cancel' (Nat.gcd_dvd_right _ _)
theorem frI_abs (N : Int) (D : Nat) : (frI N D).natAbs = N.natAbs / Nat.gcd N.natAbs D := by
  unfold frI
  rw [Int.natAbs_ediv_of_dvd (natCast_dvd'.2 (Nat.gcd_dvd_left _ _))]
  simp
theorem fr_coprime (N : Int) {D : Nat} (h : 0 < D) : Nat.gcd (frI N D).natAbs (frd N D) = 1 := by
  rw [frI_abs]
  unfold frd
  exact Nat.coprime_div_gcd_div_gcd (gcd_pos_right h)
theorem frd_pos (N : Int) {D : Nat} (h : 0 < D) : 0 < frd N D := by
  unfold frd
  exact Nat.div_pos (Nat.le_of_dvd h (Nat.gcd_dvd_right _ _)) (gcd_pos_right h)
theorem frI_neg {N : Int} {D : Nat} (h : 0 < D) : (frI N D < 0) ↔ N < 0 := by
  have h1 := frI_mul N D
  have h2 : (0 : Int) < ((Nat.gcd N.natAbs D : Nat) : Int) := by have := gcd_pos_right (a := N.natAbs) h; omega
  constructor
  · intro h3
    rw [← h1]
    exact Int.mul_neg_of_pos_of_neg h2 h3
  · intro h3
    rcases Int.lt_or_le (frI N D) 0 with h4 | h4
    · exact h4
    · have := Int.mul_nonneg (Int.le_of_lt h2) h4
      omega
/-- There is one way only to write a fraction in lowest terms. -/
theorem fr_unique {N v : Int} {D d : Nat} (hD : 0 < D) (hd : 0 < d) (hc : Nat.gcd v.natAbs d = 1) (h : N * d = v * D) : frI N D = v ∧ frd N D = d := by
  have h1 := frI_mul N D
  have h2 := frd_mul N D
  have h3 := fr_coprime N hD
  have hg := gcd_pos_right (a := N.natAbs) hD
  have h4 := frd_pos N hD
  generalize frI N D = v0 at *
  generalize frd N D = d0 at *
  generalize Nat.gcd N.natAbs D = g at *
  subst h2
  rw [← h1] at h
  have e : (g : Int) * (v0 * d) = (g : Int) * (v * d0) := by
    rw [← Int.mul_assoc, h, Int.natCast_mul]; ac_rfl
  have e1 : v0 * d = v * d0 := Int.eq_of_mul_eq_mul_left (by omega) e
  have e2 : v0.natAbs * d = v.natAbs * d0 := by
    have := congrArg Int.natAbs e1
    rwa [Int.natAbs_mul, Int.natAbs_mul, Int.natAbs_natCast, Int.natAbs_natCast] at this
  have a1 : d0 ∣ d := by
    have c : Nat.Coprime d0 v0.natAbs := by unfold Nat.Coprime; rw [Nat.gcd_comm]; exact h3
    exact c.dvd_of_dvd_mul_left ⟨v.natAbs, by rw [e2, Nat.mul_comm]⟩
  have a2 : d ∣ d0 := by
    have c : Nat.Coprime d v.natAbs := by unfold Nat.Coprime; rw [Nat.gcd_comm]; exact hc
    exact c.dvd_of_dvd_mul_left ⟨v0.natAbs, by rw [← e2, Nat.mul_comm]⟩
  have hdd : d0 = d := Nat.dvd_antisymm a1 a2
  subst hdd
  exact ⟨Int.eq_of_mul_eq_mul_right (by omega) e1, rfl⟩
theorem frI_zero (D : Nat) : frI 0 D = 0 := by unfold frI; simp
theorem frd_zero {D : Nat} (h : 0 < D) : frd 0 D = 1 := by unfold frd; simp; exact Nat.div_self h
/-- The numerator over the least common denominator has no divisor in common with what is left of one of the two. -/
theorem cop_left {an : Int} {p q : Nat} {x : Int} (h1 : Nat.gcd an.natAbs p = 1) (h2 : Nat.gcd p q = 1) : Nat.gcd (an * q + x * p).natAbs p = 1 := by
  have hl : Nat.gcd (an * q + x * p).natAbs p ∣ p := Nat.gcd_dvd_right _ _
  have hn : Nat.gcd (an * q + x * p).natAbs p ∣ (an * q + x * p).natAbs := Nat.gcd_dvd_left _ _
  generalize Nat.gcd (an * q + x * p).natAbs p = e at *
  have h3 : (e : Int) ∣ an * q + x * p := natCast_dvd'.2 hn
  have h4 : (e : Int) ∣ x * p := Int.dvd_trans (Int.natCast_dvd_natCast.2 hl) (Int.dvd_mul_left _ _)
  have h5 : (e : Int) ∣ an * q := by
    have := Int.dvd_sub h3 h4
    rwa [show an * q + x * p - x * p = an * q by omega] at this
  have h6 : e ∣ an.natAbs * q := by
    have := natCast_dvd'.1 h5
    rwa [Int.natAbs_mul, Int.natAbs_natCast] at this
  have c1 : Nat.Coprime e an.natAbs := by
    have : Nat.Coprime p an.natAbs := by unfold Nat.Coprime; rw [Nat.gcd_comm]; exact h1
    exact Nat.Coprime.coprime_dvd_left hl this
  have c2 : Nat.Coprime e q := Nat.Coprime.coprime_dvd_left hl h2
  exact c2.eq_one_of_dvd (c1.dvd_of_dvd_mul_left h6)
/-- A sum over the least common denominator. -/
theorem sum_wide {an bn : Int} {ad bd : Nat} (ha : 0 < ad) (hb : 0 < bd) (h1 : Nat.gcd an.natAbs ad = 1) (h2 : Nat.gcd bn.natAbs bd = 1) {s l r c : Nat} (hs : s = Nat.gcd ad bd) (hl : s * l = ad) (hr : s * r = bd) {num : Int} (hnum : num = an * r + bn * l) (hc : c = Nat.gcd num.natAbs s) {v : Int} (hv : (c : Int) * v = num) {u : Nat} (hu : c * u = bd) :
    frI (an * bd + bn * ad) (ad * bd) = v ∧ frd (an * bd + bn * ad) (ad * bd) = l * u := by
  have hs0 : 0 < s := by rw [hs]; exact gcd_pos_right hb
  have hl0 : 0 < l := by
    rcases Nat.eq_zero_or_pos l with h | h
    · rw [h, Nat.mul_zero] at hl; omega
    · exact h
  have hr0 : 0 < r := by
    rcases Nat.eq_zero_or_pos r with h | h
    · rw [h, Nat.mul_zero] at hr; omega
    · exact h
  have hu0 : 0 < u := by
    rcases Nat.eq_zero_or_pos u with h | h
    · rw [h, Nat.mul_zero] at hu; omega
    · exact h
  have hc0 : 0 < c := by rw [hc]; exact gcd_pos_right hs0
  have hlr : Nat.gcd l r = 1 := by
    have h := Nat.gcd_mul_left s l r
    rw [hl, hr, ← hs] at h
    have : s * 1 = s * Nat.gcd l r := by omega
    exact (Nat.eq_of_mul_eq_mul_left hs0 this).symm
  have al : Nat.gcd an.natAbs l = 1 := Nat.Coprime.coprime_dvd_right (⟨s, by rw [← hl, Nat.mul_comm]⟩ : l ∣ ad) h1
  have br : Nat.gcd bn.natAbs r = 1 := Nat.Coprime.coprime_dvd_right (⟨s, by rw [← hr, Nat.mul_comm]⟩ : r ∣ bd) h2
  have cl : Nat.gcd num.natAbs l = 1 := by rw [hnum]; exact cop_left al hlr
  have cr : Nat.gcd num.natAbs r = 1 := by
    rw [hnum, Int.add_comm]; exact cop_left br (by rw [Nat.gcd_comm]; exact hlr)
  have hvd : v.natAbs ∣ num.natAbs := ⟨c, by rw [← hv, Int.natAbs_mul, Int.natAbs_natCast, Nat.mul_comm]⟩
  have hcs : c ∣ s := by rw [hc]; exact Nat.gcd_dvd_right _ _
  obtain ⟨t, ht⟩ := hcs
  have hut : u = r * t := by
    have : c * u = c * (r * t) := by rw [hu, ← hr, ht]; ac_rfl
    exact Nat.eq_of_mul_eq_mul_left hc0 this
  have cvt : Nat.gcd v.natAbs t = 1 := by
    have h := Nat.gcd_mul_left c v.natAbs t
    have e1 : c * v.natAbs = num.natAbs := by rw [← hv, Int.natAbs_mul, Int.natAbs_natCast]
    rw [e1, ← ht, ← hc] at h
    have : c * 1 = c * Nat.gcd v.natAbs t := by omega
    exact (Nat.eq_of_mul_eq_mul_left hc0 this).symm
  have cvl : Nat.Coprime v.natAbs l := Nat.Coprime.coprime_dvd_left hvd cl
  have cvr : Nat.Coprime v.natAbs r := Nat.Coprime.coprime_dvd_left hvd cr
  have cvu : Nat.Coprime v.natAbs u := by rw [hut]; exact Nat.Coprime.mul_right cvr cvt
  refine fr_unique (Nat.mul_pos ha hb) (Nat.mul_pos hl0 hu0) (Nat.Coprime.mul_right cvl cvu) ?_
  have e1 : an * bd + bn * ad = s * num := by
    rw [hnum, ← hl, ← hr, Int.natCast_mul, Int.natCast_mul, Int.mul_add]
    congr 1 <;> ac_rfl
  rw [e1, ← hv]
  have e2 : ((ad * bd : Nat) : Int) = (s * l : Nat) * (c * u : Nat) := by rw [hl, hu, Int.natCast_mul]
  rw [e2, Int.natCast_mul, Int.natCast_mul, Int.natCast_mul]
  ac_rfl
/-- A product with what is in common divided out crosswise. -/
theorem prod_wide {an bn : Int} {ad bd : Nat} (ha : 0 < ad) (hb : 0 < bd) (h1 : Nat.gcd an.natAbs ad = 1) (h2 : Nat.gcd bn.natAbs bd = 1) {o p : Nat} (ho : o = Nat.gcd an.natAbs bd) (hp : p = Nat.gcd bn.natAbs ad) {x y : Int} (hx : (o : Int) * x = an) (hy : (p : Int) * y = bn) {u t : Nat} (hu : p * u = ad) (ht : o * t = bd) :
    frI (an * bn) (ad * bd) = x * y ∧ frd (an * bn) (ad * bd) = u * t := by
  have ho0 : 0 < o := by rw [ho]; exact gcd_pos_right hb
  have hp0 : 0 < p := by rw [hp]; exact gcd_pos_right ha
  have hu0 : 0 < u := by
    rcases Nat.eq_zero_or_pos u with h | h
    · rw [h, Nat.mul_zero] at hu; omega
    · exact h
  have ht0 : 0 < t := by
    rcases Nat.eq_zero_or_pos t with h | h
    · rw [h, Nat.mul_zero] at ht; omega
    · exact h
  have ex : o * x.natAbs = an.natAbs := by rw [← hx, Int.natAbs_mul, Int.natAbs_natCast]
  have ey : p * y.natAbs = bn.natAbs := by rw [← hy, Int.natAbs_mul, Int.natAbs_natCast]
  have cxt : Nat.Coprime x.natAbs t := by
    have h := Nat.gcd_mul_left o x.natAbs t
    rw [ex, ht, ← ho] at h
    have : o * 1 = o * Nat.gcd x.natAbs t := by omega
    exact (Nat.eq_of_mul_eq_mul_left ho0 this).symm
  have cyu : Nat.Coprime y.natAbs u := by
    have h := Nat.gcd_mul_left p y.natAbs u
    rw [ey, hu, ← hp] at h
    have : p * 1 = p * Nat.gcd y.natAbs u := by omega
    exact (Nat.eq_of_mul_eq_mul_left hp0 this).symm
  have cxu : Nat.Coprime x.natAbs u := Nat.Coprime.coprime_dvd_left ⟨o, by rw [← ex, Nat.mul_comm]⟩ (Nat.Coprime.coprime_dvd_right ⟨p, by rw [← hu, Nat.mul_comm]⟩ h1)
  have cyt : Nat.Coprime y.natAbs t := Nat.Coprime.coprime_dvd_left ⟨p, by rw [← ey, Nat.mul_comm]⟩ (Nat.Coprime.coprime_dvd_right ⟨o, by rw [← ht, Nat.mul_comm]⟩ h2)
  refine fr_unique (Nat.mul_pos ha hb) (Nat.mul_pos hu0 ht0) ?_ ?_
  · rw [Int.natAbs_mul]
    exact Nat.Coprime.mul_left (Nat.Coprime.mul_right cxu cxt) (Nat.Coprime.mul_right cyu cyt)
  · have e2 : ((ad * bd : Nat) : Int) = (p * u : Nat) * (o * t : Nat) := by rw [hu, ht, Int.natCast_mul]
    rw [e2, ← hx, ← hy, Int.natCast_mul, Int.natCast_mul, Int.natCast_mul]
    ac_rfl
end Go.Proofs.Ytogjollefllajaa
