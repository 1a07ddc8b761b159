/-
  Fractions in order: plain integers.
-/
import Derived.Test.YtogjollefllajaaFFloor
namespace Go.Proofs.Ytogjollefllajaa
theorem cmpI_cases (a b : Int) : cmpI a b = -1 ∧ a < b ∨ cmpI a b = 0 ∧ a = b ∨ cmpI a b = 1 ∧ b < a := by
  unfold cmpI; split <;> (try split) <;> omega
theorem cmpI_anti (a b : Int) : cmpI b a = -cmpI a b := by
  rcases cmpI_cases a b with ⟨h, _⟩ | ⟨h, _⟩ | ⟨h, _⟩ <;> rcases cmpI_cases b a with ⟨h', _⟩ | ⟨h', _⟩ | ⟨h', _⟩ <;> omega
theorem cmpI_same (a : Int) : cmpI a a = 0 := by
  rcases cmpI_cases a a with ⟨h, _⟩ | ⟨h, _⟩ | ⟨h, _⟩ <;> omega
theorem crs_anti (n d n' d' : Int) : crs n' d' n d = -crs n d n' d' := cmpI_anti _ _
theorem cmpI_le {a b : Int} : cmpI a b ≤ 0 ↔ a ≤ b := by
  rcases cmpI_cases a b with ⟨h, _⟩ | ⟨h, _⟩ | ⟨h, _⟩ <;> omega
theorem crs_trans {n d n' d' p q : Int} (hd : 1 ≤ d) (hd' : 1 ≤ d') (hq : 1 ≤ q) (h : crs n d n' d' ≤ 0) (h' : crs n' d' p q ≤ 0) : crs n d p q ≤ 0 := by
  have h1 := cmpI_le.1 h
  have h2 := cmpI_le.1 h'
  refine cmpI_le.2 ?_
  have a1 : n * d' * q ≤ n' * d * q := Int.mul_le_mul_of_nonneg_right h1 (by omega)
  have a2 : n' * q * d ≤ p * d' * d := Int.mul_le_mul_of_nonneg_right h2 (by omega)
  have a3 : n' * d * q = n' * q * d := by ac_rfl
  have a4 : n * d' * q = n * q * d' := by ac_rfl
  have a5 : p * d' * d = p * d * d' := by ac_rfl
  have a6 : n * q * d' ≤ p * d * d' := by omega
  exact Int.le_of_mul_le_mul_right a6 (by omega)
theorem vaB_gcd {n d : Int} (h : vaB n d = true) : Nat.gcd n.natAbs d.natAbs = 1 := by
  unfold vaB at h; simp at h; exact h.2
theorem dvd_of_cross {n d n' d' : Int} (h : Nat.gcd n.natAbs d.natAbs = 1) (e : n * d' = n' * d) : d.natAbs ∣ d'.natAbs := by
  have e1 : n.natAbs * d'.natAbs = n'.natAbs * d.natAbs := by rw [← Int.natAbs_mul, ← Int.natAbs_mul, e]
  have h1 : d.natAbs ∣ n.natAbs * d'.natAbs := ⟨n'.natAbs, by rw [e1, Nat.mul_comm]⟩
  have h2 : Nat.Coprime d.natAbs n.natAbs := by unfold Nat.Coprime; rw [Nat.gcd_comm]; exact h
  exact h2.dvd_of_dvd_mul_left h1
theorem crs_eq {n d n' d' : Int} (h : vaB n d = true) (h' : vaB n' d' = true) : crs n d n' d' = 0 ↔ n = n' ∧ d = d' := by
  obtain ⟨a1, _, _, _⟩ := vaB_rng h
  obtain ⟨b1, _, _, _⟩ := vaB_rng h'
  constructor
  · intro h0
    have e : n * d' = n' * d := by
      unfold crs at h0
      rcases cmpI_cases (n * d') (n' * d) with ⟨h1, _⟩ | ⟨h1, h2⟩ | ⟨h1, _⟩ <;> omega
    have d1 := Nat.le_of_dvd (by omega) (dvd_of_cross (vaB_gcd h) e)
    have d2 := Nat.le_of_dvd (by omega) (dvd_of_cross (vaB_gcd h') e.symm)
    have hd : d = d' := by omega
    subst hd
    exact ⟨Int.eq_of_mul_eq_mul_right (by omega) e, rfl⟩
  · rintro ⟨rfl, rfl⟩
    exact cmpI_same _
theorem floor_lo {n d : Int} (hd : 1 ≤ d) : n / d * d ≤ n := Int.ediv_mul_le n (by omega)
theorem floor_hi {n d : Int} (hd : 1 ≤ d) : n < (n / d + 1) * d := by
  have := Int.lt_ediv_add_one_mul_self n (show 0 < d by omega)
  exact this
theorem floor_ge {n d : Int} (hn : -100000000000000000 ≤ n) (hd : 1 ≤ d) : -100000000000000000 ≤ n / d := by
  refine (Int.le_ediv_iff_mul_le (by omega)).2 ?_
  have : -100000000000000000 * d ≤ -100000000000000000 * 1 := Int.mul_le_mul_of_nonpos_left (by omega) (by omega)
  omega
theorem whole_valid {n : Int} (h : -100000000000000000 ≤ n) (h' : n ≤ 100000000000000000) : vaB n 1 = true := by
  unfold vaB rngB
  simp
  omega
theorem floor_cmp {n d : Int} (h : vaB n d = true) : crs (n / d) 1 n d ≤ 0 := by
  obtain ⟨a1, _, _, _⟩ := vaB_rng h
  refine cmpI_le.2 ?_
  have := floor_lo (n := n) a1
  omega
theorem floor_next {n d : Int} (h : vaB n d = true) : crs n d (n / d + 1) 1 < 0 := by
  obtain ⟨a1, _, _, _⟩ := vaB_rng h
  have := floor_hi (n := n) a1
  unfold crs
  rcases cmpI_cases (n * 1) ((n / d + 1) * d) with ⟨h1, _⟩ | ⟨h1, _⟩ | ⟨h1, _⟩ <;> omega
theorem cpF_val {n d n' d' : Int} (h : vaB n d = true) (h' : vaB n' d' = true) : cpF n d n' d' = crs n d n' d' := by simp [cpF, h, h']
theorem cpF_same (n d : Int) : cpF n d n d = 0 := by
  unfold cpF crs
  rw [cmpI_same]
  split <;> rfl
end Go.Proofs.Ytogjollefllajaa
