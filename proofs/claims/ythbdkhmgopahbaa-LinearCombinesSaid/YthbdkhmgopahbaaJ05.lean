/-
  The program's fractions: compared, and rounded down. The program's fractions: rounded down. Fractions in lowest terms: what sums and products come to, whichever way they are reckoned. Plain integers. The program's fractions: the fraction of two numbers. Systems of equations in memory: rows of numbers, of fractions, of rows. What lies in blocks that were just made. The reference's fractions of any size: made of a fraction.
-/
import Derived.Test.YthbdkhmgopahbaaJ04
import Derived.Test.YthbdkhmgopahbaaJ01
set_option linter.unusedVariables false
namespace Go.Proofs.Ythbdkhmgopahbaa
open Go Go.RowKit Go.Deep
theorem cmp_halves (a b : Int) : orI (cmpI (a / 18446744073709551616) (b / 18446744073709551616)) (cmpI (wLo a) (wLo b)) = cmpI a b := by
  unfold orI cmpI wLo
  by_cases h1 : a / 18446744073709551616 < b / 18446744073709551616
  · rw [if_pos h1, if_neg (by omega), if_pos (by omega)]
  · by_cases h2 : b / 18446744073709551616 < a / 18446744073709551616
    · rw [if_neg h1, if_pos h2, if_neg (by omega), if_neg (by omega), if_pos (by omega)]
    · rw [if_neg h1, if_neg h2, if_pos rfl]
      by_cases h3 : a % 18446744073709551616 < b % 18446744073709551616
      · rw [if_pos h3, if_pos (by omega)]
      · by_cases h4 : b % 18446744073709551616 < a % 18446744073709551616
        · rw [if_neg h3, if_pos h4, if_neg (by omega), if_pos (by omega)]
        · rw [if_neg h3, if_neg h4, if_neg (by omega), if_neg (by omega)]
/-- Is the number one of 128 bits with a sign? -/
def In128 (v : Int) : Prop := -170141183460469231731687303715884105728 ≤ v ∧ v < 170141183460469231731687303715884105728
theorem wHi_signed {v : Int} (h : In128 v) : IntKind.i64.wrap (wHi v) = v / 18446744073709551616 := by
  obtain ⟨h1, h2⟩ := h
  rw [IntKind.wrap_i64]
  unfold wHi
  omega
theorem Cls.same {w w' : World} (h : w = w') : Cls w w' := h ▸ Cls.of (Below.refl _ _)
set_option maxHeartbeats 4000000 in
set_option maxRecDepth 20000 in
theorem wcompare_calls (a b : Int) (w : World) (ha : In128 a) (hb : In128 b) :
    Calls Try.prog 102 #[.agg #[.int .u64 (wHi a), .int .u64 (wLo a)], .agg #[.int .u64 (wHi b), .int .u64 (wLo b)]] w fun e w' => e = .returned (.int .i64 (cmpI a b)) ∧ Cls w w' := by
  have f1 := wHi_signed ha
  have f2 := wHi_signed hb
  have HC := Lib.hid (cmp_halves a b)
  have C1 := Lib.hid (fun W => (cmpI64_calls (a / 18446744073709551616) (b / 18446744073709551616) W).mono fun _ _ ⟨he, hw⟩ => (⟨he, Cls.same hw⟩ : _ ∧ Cls W _))
  have C2 := Lib.hid (fun W => (cmpU64_calls (wLo a) (wLo b) W).mono fun _ _ ⟨he, hw⟩ => (⟨he, Cls.same hw⟩ : _ ∧ Cls W _))
  clear ha hb
  generalize cmpI a b = res at *
  generalize cmpI (a / 18446744073709551616) (b / 18446744073709551616) = r1 at *
  generalize cmpI (wLo a) (wLo b) = r2 at *
  generalize a / 18446744073709551616 = ah at *
  generalize b / 18446744073709551616 = bh at *
  generalize wHi a = h1 at *
  generalize wLo a = l1 at *
  generalize wHi b = h2 at *
  generalize wLo b = l2 at *
  go_enter Try.func102, Try.ntmps102
  go_wp2_with fail
  refine wp_region_ext_tail 12 (by kernel_rfl) (by kernel_rfl) ?_
  simp only [List.take_succ_cons, List.take_zero, List.drop_succ_cons, List.drop_zero]
  repeat (go_big_quiet_step (first | (go_at_call 114; with_reducible exact Cls.call (C1.out _)) | (go_at_call 95; with_reducible exact Cls.call (C2.out _))))
  refine wpQuiet_nil ?_
  rintro _ ⟨y, rfl⟩
  have ys := y.size
  simp at ys
  have C3 := Lib.hid (Or_calls y.val.heap.size r1 r2 (y.val.alloc (.cells #[.int .i64 r1, .int .i64 r2] 3)) (by simp) (by simp [go_sem]) (by simp [go_sem]))
  go_wp2_with (go_at_call 113; (with_reducible refine C3.out.mono ?_); rintro e _ ⟨rfl, rfl⟩)
  go_ret
  refine ⟨ret_int HC.out, Cls.of ?_⟩
  repeat first | with_reducible exact Below.refl _ _ | with_reducible refine Below.setCell ?_ (by first | omega | (simp; done) | (simp; omega)) _ | with_reducible refine Below.alloc ?_ (by first | omega | (simp; done) | (simp; omega)) _ | with_reducible refine Below.drew ?_ | with_reducible refine Ext.on _ ?_ (by first | omega | (simp; done) | (simp; omega))
/-- The difference of two valid fractions, times both denominators. -/
def crs (n d n' d' : Int) : Int := cmpI (n * d') (n' * d)
def cpF (n d n' d' : Int) : Int := if vaB n d = true then if vaB n' d' = true then crs n d n' d' else 0 else 0
theorem mul_in {n d : Int} (hn : -100000000000000000 ≤ n ∧ n ≤ 100000000000000000) (hd : -100000000000000000 ≤ d ∧ d ≤ 100000000000000000) : -10000000000000000000000000000000000 ≤ n * d ∧ n * d ≤ 10000000000000000000000000000000000 := by
  have h : (n * d).natAbs ≤ 100000000000000000 * 100000000000000000 := by
    rw [Int.natAbs_mul]
    exact Nat.mul_le_mul (by omega) (by omega)
  omega
theorem in128 {v : Int} (h : -10000000000000000000000000000000000 ≤ v ∧ v ≤ 10000000000000000000000000000000000) : In128 v := by
  unfold In128; omega
set_option maxHeartbeats 4000000 in
set_option maxRecDepth 20000 in
theorem Compare_calls (n d n' d' : Int) (w : World) (h0 : -9223372036854775808 ≤ n) (h1 : n ≤ 9223372036854775807) (h2 : -9223372036854775808 ≤ d) (h3 : d ≤ 9223372036854775807) (k0 : -9223372036854775808 ≤ n') (k1 : n' ≤ 9223372036854775807) (k2 : -9223372036854775808 ≤ d') (k3 : d' ≤ 9223372036854775807) :
    Calls Try.prog 74 #[.agg #[.int .i64 n, .int .i64 d], .agg #[.int .i64 n', .int .i64 d']] w fun e w' => e = .returned (.int .i64 (cpF n d n' d')) ∧ Cls w w' := by
  have C1 := Lib.hid (fun W => Valid_calls n d W h0 h1 h2 h3)
  have C2 := Lib.hid (fun W => Valid_calls n' d' W k0 k1 k2 k3)
  cases hv : vaB n d with
  | false =>
    have e : cpF n d n' d' = 0 := by simp [cpF, hv]
    rw [e]
    rw [hv] at C1
    clear h0 h1 h2 h3 k0 k1 k2 k3 hv e
    go_enter Try.func74, Try.ntmps74
    go_wp2_with (go_at_call 56; (with_reducible refine (C1.out _).mono ?_); rintro e _ ⟨rfl, ⟨y1, rfl⟩⟩)
    go_ret
    refine ⟨rfl, Cls.of ?_⟩
    repeat first | with_reducible exact Below.refl _ _ | with_reducible refine Below.setCell ?_ (by first | omega | (simp; done) | (simp; omega)) _ | with_reducible refine Below.alloc ?_ (by first | omega | (simp; done) | (simp; omega)) _ | with_reducible refine Below.drew ?_ | with_reducible refine Ext.on _ ?_ (by first | omega | (simp; done) | (simp; omega))
  | true =>
    cases hv' : vaB n' d' with
    | false =>
      have e : cpF n d n' d' = 0 := by simp [cpF, hv']
      rw [e]
      rw [hv] at C1
      rw [hv'] at C2
      clear h0 h1 h2 h3 k0 k1 k2 k3 hv hv' e
      go_enter Try.func74, Try.ntmps74
      go_wp2_with (first | (go_at_call 56; (with_reducible refine (C1.out _).mono ?_); rintro e _ ⟨rfl, ⟨y1, rfl⟩⟩; have ys := y1.size; (try simp at ys)) | (go_at_call 56; (with_reducible refine (C2.out _).mono ?_); rintro e _ ⟨rfl, ⟨y2, rfl⟩⟩))
      go_ret
      refine ⟨rfl, Cls.of ?_⟩
      repeat first | with_reducible exact Below.refl _ _ | with_reducible refine Below.setCell ?_ (by first | omega | (simp; done) | (simp; omega)) _ | with_reducible refine Below.alloc ?_ (by first | omega | (simp; done) | (simp; omega)) _ | with_reducible refine Below.drew ?_ | with_reducible refine Ext.on _ ?_ (by first | omega | (simp; done) | (simp; omega))
    | true =>
      have e : cpF n d n' d' = cmpI (n * d') (n' * d) := by simp [cpF, crs, hv, hv']
      obtain ⟨a1, a2, a3, a4⟩ := rngB_all (n := n) (d := d) (by unfold vaB at hv; simp at hv; exact hv.1)
      obtain ⟨b1, b2, b3, b4⟩ := rngB_all (n := n') (d := d') (by unfold vaB at hv'; simp at hv'; exact hv'.1)
      have C3 := Lib.hid (fun W => product_calls n d' W ⟨h0, h1⟩ ⟨k2, k3⟩)
      have C4 := Lib.hid (fun W => product_calls n' d W ⟨k0, k1⟩ ⟨h2, h3⟩)
      have C5 := Lib.hid (fun W => wcompare_calls (n * d') (n' * d) W (in128 (mul_in ⟨a3, a4⟩ ⟨by omega, b2⟩)) (in128 (mul_in ⟨b3, b4⟩ ⟨by omega, a2⟩)))
      rw [e]
      rw [hv] at C1
      rw [hv'] at C2
      generalize cmpI (n * d') (n' * d) = res at *
      generalize wHi (n * d') = p1 at *
      generalize wLo (n * d') = p2 at *
      generalize wHi (n' * d) = p3 at *
      generalize wLo (n' * d) = p4 at *
      clear h0 h1 h2 h3 k0 k1 k2 k3 hv hv' e a1 a2 a3 a4 b1 b2 b3 b4
      go_enter Try.func74, Try.ntmps74
      go_wp2_with (first | (go_at_call 56; (with_reducible refine (C1.out _).mono ?_); rintro e _ ⟨rfl, ⟨y1, rfl⟩⟩; have ys := y1.size; (try simp at ys)) | (go_at_call 56; (with_reducible refine (C2.out _).mono ?_); rintro e _ ⟨rfl, ⟨y2, rfl⟩⟩; have y2s := y2.size))
      have hs1 : w.heap.size < y1.val.heap.size := by omega
      have hs2 : w.heap.size + 1 < y1.val.heap.size := by omega
      have hs3 : w.heap.size < y2.val.heap.size := by omega
      have hs4 : w.heap.size + 1 < y2.val.heap.size := by omega
      refine wp_region_ext (by kernel_rfl) (by kernel_rfl) ?_
      repeat (go_big_quiet_step (first | (go_at_call 101; with_reducible exact Cls.call (C3.out _)) | (go_at_call 101; with_reducible exact Cls.call (C4.out _)) | (go_at_call 102; with_reducible exact Cls.call (C5.out _))))
      refine wpQuiet_nil ?_
      rintro _ ⟨y, rfl⟩
      go_wp2_with fail
      go_ret
      refine ⟨rfl, Cls.of ?_⟩
      repeat first | with_reducible exact Below.refl _ _ | with_reducible refine Below.setCell ?_ (by first | omega | (simp; done) | (simp; omega)) _ | with_reducible refine Below.alloc ?_ (by first | omega | (simp; done) | (simp; omega)) _ | with_reducible refine Below.drew ?_ | with_reducible refine Ext.on _ ?_ (by first | omega | (simp; done) | (simp; omega))
end Go.Proofs.Ythbdkhmgopahbaa
set_option linter.unusedVariables false
namespace Go.Proofs.Ythbdkhmgopahbaa
open Go Go.RowKit Go.Deep
def flF (n d : Int) : Int := if vaB n d = true then n / d else 0
theorem floor_neg {n d : Int} (hd : 1 ≤ d) (h : n.tmod d < 0) : n.tdiv d - 1 = n / d := by
  have h1 := Int.mul_tdiv_add_tmod n d
  have h2 := Int.mul_ediv_add_emod n d
  have h3 := Int.emod_nonneg n (show d ≠ 0 by omega)
  have h4 := Int.emod_lt_of_pos n (show 0 < d by omega)
  have h5 : -d < n.tmod d := by
    have := Int.lt_tmod_of_pos n (show 0 < d by omega)
    omega
  generalize n.tmod d = r at *
  generalize n % d = s at *
  generalize n.tdiv d = p at *
  generalize n / d = q at *
  have e : d * (p - 1 - q) = s - r - d := by
    rw [Int.mul_sub, Int.mul_sub]; omega
  rcases Int.lt_trichotomy (p - 1 - q) 0 with h6 | h6 | h6
  · have : d * (p - 1 - q) ≤ d * (-1) := Int.mul_le_mul_of_nonneg_left (by omega) (by omega)
    omega
  · omega
  · have : d * 1 ≤ d * (p - 1 - q) := Int.mul_le_mul_of_nonneg_left (by omega) (by omega)
    omega
theorem floor_pos {n d : Int} (hd : 1 ≤ d) (h : ¬ n.tmod d < 0) : n.tdiv d = n / d := by
  have h1 := Int.mul_tdiv_add_tmod n d
  have h2 := Int.mul_ediv_add_emod n d
  have h3 := Int.emod_nonneg n (show d ≠ 0 by omega)
  have h4 := Int.emod_lt_of_pos n (show 0 < d by omega)
  have h5 : n.tmod d < d := Int.tmod_lt_of_pos n (by omega)
  generalize n.tmod d = r at *
  generalize n % d = s at *
  generalize n.tdiv d = p at *
  generalize n / d = q at *
  have e : d * (p - q) = s - r := by
    rw [Int.mul_sub]; omega
  rcases Int.lt_trichotomy (p - q) 0 with h6 | h6 | h6
  · have : d * (p - q) ≤ d * (-1) := Int.mul_le_mul_of_nonneg_left (by omega) (by omega)
    omega
  · omega
  · have : d * 1 ≤ d * (p - q) := Int.mul_le_mul_of_nonneg_left (by omega) (by omega)
    omega
theorem vaB_rng {n d : Int} (h : vaB n d = true) : 1 ≤ d ∧ d ≤ 100000000000000000 ∧ -100000000000000000 ≤ n ∧ n ≤ 100000000000000000 := rngB_all (by unfold vaB at h; simp at h; exact h.1)
theorem tdiv_in {n d : Int} (hn : -100000000000000000 ≤ n ∧ n ≤ 100000000000000000) : -100000000000000000 ≤ n.tdiv d ∧ n.tdiv d ≤ 100000000000000000 := by
  have := Int.natAbs_tdiv_le_natAbs n d
  omega
theorem floor_in {n d : Int} (hn : -100000000000000000 ≤ n ∧ n ≤ 100000000000000000) (hd : 1 ≤ d) : -100000000000000001 ≤ n / d ∧ n / d ≤ 100000000000000000 := by
  have := tdiv_in (d := d) hn
  by_cases h : n.tmod d < 0
  · rw [← floor_neg hd h]; omega
  · rw [← floor_pos hd h]; omega
end Go.Proofs.Ythbdkhmgopahbaa
namespace Go.Proofs.Ythbdkhmgopahbaa
/-- Numerator and denominator of N / D in lowest terms. -/
def frI (N : Int) (D : Nat) : Int := N / ((Nat.gcd N.natAbs D : Nat) : Int)
def frd (N : Int) (D : Nat) : Nat := D / Nat.gcd N.natAbs D
theorem natCast_dvd' {m : Nat} {n : Int} : (m : Int) ∣ n ↔ m ∣ n.natAbs := by rw [← Int.dvd_natAbs, Int.natCast_dvd_natCast]
theorem gcd_pos_right {a b : Nat} (h : 0 < b) : 0 < Nat.gcd a b := Nat.gcd_pos_of_pos_right _ h
theorem frI_mul (N : Int) (D : Nat) : ((Nat.gcd N.natAbs D : Nat) : Int) * frI N D = N := by
  unfold frI
  refine Int.mul_ediv_cancel' ?_
  exact natCast_dvd'.2 (Nat.gcd_dvd_left _ _)
theorem frd_mul (N : Int) (D : Nat) : Nat.gcd N.natAbs D * frd N D = D := by
  unfold frd
  exact Nat.mul_div_cancel' (Nat.gcd_dvd_right _ _)
theorem frI_abs (N : Int) (D : Nat) : (frI N D).natAbs = N.natAbs / Nat.gcd N.natAbs D := by
  unfold frI
  rw [Int.natAbs_ediv_of_dvd (natCast_dvd'.2 (Nat.gcd_dvd_left _ _))]
  simp
theorem fr_coprime (N : Int) {D : Nat} (h : 0 < D) : Nat.gcd (frI N D).natAbs (frd N D) = 1 := by
  rw [frI_abs]
  unfold frd
  exact Nat.coprime_div_gcd_div_gcd (gcd_pos_right h)
theorem frd_pos (N : Int) {D : Nat} (h : 0 < D) : 0 < frd N D := by
  unfold frd
  exact Nat.div_pos (Nat.le_of_dvd h (Nat.gcd_dvd_right _ _)) (gcd_pos_right h)
theorem frI_neg {N : Int} {D : Nat} (h : 0 < D) : (frI N D < 0) ↔ N < 0 := by
  have h1 := frI_mul N D
  have h2 : (0 : Int) < ((Nat.gcd N.natAbs D : Nat) : Int) := by have := gcd_pos_right (a := N.natAbs) h; omega
  constructor
  · intro h3
    rw [← h1]
    exact Int.mul_neg_of_pos_of_neg h2 h3
  · intro h3
    rcases Int.lt_or_le (frI N D) 0 with h4 | h4
    · exact h4
    · have := Int.mul_nonneg (Int.le_of_lt h2) h4
      omega
/-- There is one way only to write a fraction in lowest terms. -/
theorem fr_unique {N v : Int} {D d : Nat} (hD : 0 < D) (hd : 0 < d) (hc : Nat.gcd v.natAbs d = 1) (h : N * d = v * D) : frI N D = v ∧ frd N D = d := by
  have h1 := frI_mul N D
  have h2 := frd_mul N D
  have h3 := fr_coprime N hD
  have hg := gcd_pos_right (a := N.natAbs) hD
  have h4 := frd_pos N hD
  generalize frI N D = v0 at *
  generalize frd N D = d0 at *
  generalize Nat.gcd N.natAbs D = g at *
  subst h2
  rw [← h1] at h
  have e : (g : Int) * (v0 * d) = (g : Int) * (v * d0) := by
    rw [← Int.mul_assoc, h, Int.natCast_mul]; ac_rfl
  have e1 : v0 * d = v * d0 := Int.eq_of_mul_eq_mul_left (by omega) e
  have e2 : v0.natAbs * d = v.natAbs * d0 := by
    have := congrArg Int.natAbs e1
    rwa [Int.natAbs_mul, Int.natAbs_mul, Int.natAbs_natCast, Int.natAbs_natCast] at this
  have a1 : d0 ∣ d := by
    have c : Nat.Coprime d0 v0.natAbs := by unfold Nat.Coprime; rw [Nat.gcd_comm]; exact h3
    exact c.dvd_of_dvd_mul_left ⟨v.natAbs, by rw [e2, Nat.mul_comm]⟩
  have a2 : d ∣ d0 := by
    have c : Nat.Coprime d v.natAbs := by unfold Nat.Coprime; rw [Nat.gcd_comm]; exact hc
    exact c.dvd_of_dvd_mul_left ⟨v0.natAbs, by rw [← e2, Nat.mul_comm]⟩
  have hdd : d0 = d := Nat.dvd_antisymm a1 a2
  subst hdd
  exact ⟨Int.eq_of_mul_eq_mul_right (by omega) e1, rfl⟩
theorem frI_zero (D : Nat) : frI 0 D = 0 := by unfold frI; simp
theorem frd_zero {D : Nat} (h : 0 < D) : frd 0 D = 1 := by unfold frd; simp; exact Nat.div_self h
/-- The numerator over the least common denominator has no divisor in common with what is left of one of the two. -/
theorem cop_left {an : Int} {p q : Nat} {x : Int} (h1 : Nat.gcd an.natAbs p = 1) (h2 : Nat.gcd p q = 1) : Nat.gcd (an * q + x * p).natAbs p = 1 := by
  have hl : Nat.gcd (an * q + x * p).natAbs p ∣ p := Nat.gcd_dvd_right _ _
  have hn : Nat.gcd (an * q + x * p).natAbs p ∣ (an * q + x * p).natAbs := Nat.gcd_dvd_left _ _
  generalize Nat.gcd (an * q + x * p).natAbs p = e at *
  have h3 : (e : Int) ∣ an * q + x * p := natCast_dvd'.2 hn
  have h4 : (e : Int) ∣ x * p := Int.dvd_trans (Int.natCast_dvd_natCast.2 hl) (Int.dvd_mul_left _ _)
  have h5 : (e : Int) ∣ an * q := by
    have := Int.dvd_sub h3 h4
    rwa [show an * q + x * p - x * p = an * q by omega] at this
  have h6 : e ∣ an.natAbs * q := by
    have := natCast_dvd'.1 h5
    rwa [Int.natAbs_mul, Int.natAbs_natCast] at this
  have c1 : Nat.Coprime e an.natAbs := by
    have : Nat.Coprime p an.natAbs := by unfold Nat.Coprime; rw [Nat.gcd_comm]; exact h1
    exact Nat.Coprime.coprime_dvd_left hl this
  have c2 : Nat.Coprime e q := Nat.Coprime.coprime_dvd_left hl h2
  exact c2.eq_one_of_dvd (c1.dvd_of_dvd_mul_left h6)
/-- A sum over the least common denominator. -/
theorem sum_wide {an bn : Int} {ad bd : Nat} (ha : 0 < ad) (hb : 0 < bd) (h1 : Nat.gcd an.natAbs ad = 1) (h2 : Nat.gcd bn.natAbs bd = 1) {s l r c : Nat} (hs : s = Nat.gcd ad bd) (hl : s * l = ad) (hr : s * r = bd) {num : Int} (hnum : num = an * r + bn * l) (hc : c = Nat.gcd num.natAbs s) {v : Int} (hv : (c : Int) * v = num) {u : Nat} (hu : c * u = bd) :
    frI (an * bd + bn * ad) (ad * bd) = v ∧ frd (an * bd + bn * ad) (ad * bd) = l * u := by
  have hs0 : 0 < s := by rw [hs]; exact gcd_pos_right hb
  have hl0 : 0 < l := by
    rcases Nat.eq_zero_or_pos l with h | h
    · rw [h, Nat.mul_zero] at hl; omega
    · exact h
  have hr0 : 0 < r := by
    rcases Nat.eq_zero_or_pos r with h | h
    · rw [h, Nat.mul_zero] at hr; omega
    · exact h
  have hu0 : 0 < u := by
    rcases Nat.eq_zero_or_pos u with h | h
    · rw [h, Nat.mul_zero] at hu; omega
    · exact h
  have hc0 : 0 < c := by rw [hc]; exact gcd_pos_right hs0
  have hlr : Nat.gcd l r = 1 := by
    have h := Nat.gcd_mul_left s l r
    rw [hl, hr, ← hs] at h
    have : s * 1 = s * Nat.gcd l r := by omega
    exact (Nat.eq_of_mul_eq_mul_left hs0 this).symm
  have al : Nat.gcd an.natAbs l = 1 := Nat.Coprime.coprime_dvd_right (⟨s, by rw [← hl, Nat.mul_comm]⟩ : l ∣ ad) h1
  have br : Nat.gcd bn.natAbs r = 1 := Nat.Coprime.coprime_dvd_right (⟨s, by rw [← hr, Nat.mul_comm]⟩ : r ∣ bd) h2
  have cl : Nat.gcd num.natAbs l = 1 := by rw [hnum]; exact cop_left al hlr
  have cr : Nat.gcd num.natAbs r = 1 := by
    rw [hnum, Int.add_comm]; exact cop_left br (by rw [Nat.gcd_comm]; exact hlr)
  have hvd : v.natAbs ∣ num.natAbs := ⟨c, by rw [← hv, Int.natAbs_mul, Int.natAbs_natCast, Nat.mul_comm]⟩
  have hcs : c ∣ s := by rw [hc]; exact Nat.gcd_dvd_right _ _
  obtain ⟨t, ht⟩ := hcs
  have hut : u = r * t := by
    have : c * u = c * (r * t) := by rw [hu, ← hr, ht]; ac_rfl
    exact Nat.eq_of_mul_eq_mul_left hc0 this
  have cvt : Nat.gcd v.natAbs t = 1 := by
    have h := Nat.gcd_mul_left c v.natAbs t
    have e1 : c * v.natAbs = num.natAbs := by rw [← hv, Int.natAbs_mul, Int.natAbs_natCast]
    rw [e1, ← ht, ← hc] at h
    have : c * 1 = c * Nat.gcd v.natAbs t := by omega
    exact (Nat.eq_of_mul_eq_mul_left hc0 this).symm
  have cvl : Nat.Coprime v.natAbs l := Nat.Coprime.coprime_dvd_left hvd cl
  have cvr : Nat.Coprime v.natAbs r := Nat.Coprime.coprime_dvd_left hvd cr
  have cvu : Nat.Coprime v.natAbs u := by rw [hut]; exact Nat.Coprime.mul_right cvr cvt
  refine fr_unique (Nat.mul_pos ha hb) (Nat.mul_pos hl0 hu0) (Nat.Coprime.mul_right cvl cvu) ?_
  have e1 : an * bd + bn * ad = s * num := by
    rw [hnum, ← hl, ← hr, Int.natCast_mul, Int.natCast_mul, Int.mul_add]
    congr 1 <;> ac_rfl
  rw [e1, ← hv]
  have e2 : ((ad * bd : Nat) : Int) = (s * l : Nat) * (c * u : Nat) := by rw [hl, hu, Int.natCast_mul]
  rw [e2, Int.natCast_mul, Int.natCast_mul, Int.natCast_mul]
  ac_rfl
/-- A product with what is in common divided out crosswise. -/
theorem prod_wide {an bn : Int} {ad bd : Nat} (ha : 0 < ad) (hb : 0 < bd) (h1 : Nat.gcd an.natAbs ad = 1) (h2 : Nat.gcd bn.natAbs bd = 1) {o p : Nat} (ho : o = Nat.gcd an.natAbs bd) (hp : p = Nat.gcd bn.natAbs ad) {x y : Int} (hx : (o : Int) * x = an) (hy : (p : Int) * y = bn) {u t : Nat} (hu : p * u = ad) (ht : o * t = bd) :
    frI (an * bn) (ad * bd) = x * y ∧ frd (an * bn) (ad * bd) = u * t := by
  have ho0 : 0 < o := by rw [ho]; exact gcd_pos_right hb
  have hp0 : 0 < p := by rw [hp]; exact gcd_pos_right ha
  have hu0 : 0 < u := by
    rcases Nat.eq_zero_or_pos u with h | h
    · rw [h, Nat.mul_zero] at hu; omega
    · exact h
  have ht0 : 0 < t := by
    rcases Nat.eq_zero_or_pos t with h | h
    · rw [h, Nat.mul_zero] at ht; omega
    · exact h
  have ex : o * x.natAbs = an.natAbs := by rw [← hx, Int.natAbs_mul, Int.natAbs_natCast]
  have ey : p * y.natAbs = bn.natAbs := by rw [← hy, Int.natAbs_mul, Int.natAbs_natCast]
  have cxt : Nat.Coprime x.natAbs t := by
    have h := Nat.gcd_mul_left o x.natAbs t
    rw [ex, ht, ← ho] at h
    have : o * 1 = o * Nat.gcd x.natAbs t := by omega
    exact (Nat.eq_of_mul_eq_mul_left ho0 this).symm
  have cyu : Nat.Coprime y.natAbs u := by
    have h := Nat.gcd_mul_left p y.natAbs u
    rw [ey, hu, ← hp] at h
    have : p * 1 = p * Nat.gcd y.natAbs u := by omega
    exact (Nat.eq_of_mul_eq_mul_left hp0 this).symm
  have cxu : Nat.Coprime x.natAbs u := Nat.Coprime.coprime_dvd_left ⟨o, by rw [← ex, Nat.mul_comm]⟩ (Nat.Coprime.coprime_dvd_right ⟨p, by rw [← hu, Nat.mul_comm]⟩ h1)
  have cyt : Nat.Coprime y.natAbs t := Nat.Coprime.coprime_dvd_left ⟨p, by rw [← ey, Nat.mul_comm]⟩ (Nat.Coprime.coprime_dvd_right ⟨o, by rw [← ht, Nat.mul_comm]⟩ h2)
  refine fr_unique (Nat.mul_pos ha hb) (Nat.mul_pos hu0 ht0) ?_ ?_
  · rw [Int.natAbs_mul]
    exact Nat.Coprime.mul_left (Nat.Coprime.mul_right cxu cxt) (Nat.Coprime.mul_right cyu cyt)
  · have e2 : ((ad * bd : Nat) : Int) = (p * u : Nat) * (o * t : Nat) := by rw [hu, ht, Int.natCast_mul]
    rw [e2, ← hx, ← hy, Int.natCast_mul, Int.natCast_mul, Int.natCast_mul]
    ac_rfl
end Go.Proofs.Ythbdkhmgopahbaa
set_option linter.unusedVariables false
namespace Go.Proofs.Ythbdkhmgopahbaa
open Go Go.RowKit Go.Deep
def In64 (n : Int) : Prop := -9223372036854775808 ≤ n ∧ n ≤ 9223372036854775807
def frOk (N : Int) (D : Nat) : Bool := decide ((frI N D).natAbs ≤ 100000000000000000) && decide (frd N D ≤ 100000000000000000)
def frN (N : Int) (D : Nat) : Int := if frOk N D = true then frI N D else 0
def frD (N : Int) (D : Nat) : Int := if frOk N D = true then (frd N D : Int) else 0
def frE (N : Int) (D : Nat) : Int := if frOk N D = true then 0 else 8
def frV (N : Int) (D : Nat) : Value := .tuple #[.agg #[.int .i64 (frN N D), .int .i64 (frD N D)], .int .i64 (frE N D)]
theorem frV_ok {N : Int} {D : Nat} (h1 : (frI N D).natAbs ≤ 100000000000000000) (h2 : frd N D ≤ 100000000000000000) : frV N D = .tuple #[.agg #[.int .i64 (frI N D), .int .i64 ((frd N D : Nat) : Int)], .int .i64 0] := by
  have h : frOk N D = true := by simp [frOk, h1, h2]
  simp [frV, frN, frD, frE, h]
theorem frV_no {N : Int} {D : Nat} (h : ¬ ((frI N D).natAbs ≤ 100000000000000000 ∧ frd N D ≤ 100000000000000000)) : frV N D = .tuple #[.agg #[.int .i64 0, .int .i64 0], .int .i64 8] := by
  have h : frOk N D = false := by
    unfold frOk
    rw [Bool.and_eq_false_iff, decide_eq_false_iff_not, decide_eq_false_iff_not]
    omega
  simp [frV, frN, frD, frE, h]
def turned (num den : Int) : Int := if den < 0 then -num else num
theorem turned_abs (num den : Int) : (turned num den).natAbs = num.natAbs := by unfold turned; split <;> simp
theorem of_num {num den : Int} (hd : den ≠ 0) : frI (turned num den) den.natAbs = if (decide (num < 0) != decide (den < 0)) = true then -((num.natAbs / Nat.gcd num.natAbs den.natAbs : Nat) : Int) else ((num.natAbs / Nat.gcd num.natAbs den.natAbs : Nat) : Int) := by
  have h1 := frI_abs (turned num den) den.natAbs
  have h2 := frI_neg (N := turned num den) (D := den.natAbs) (by omega)
  rw [turned_abs] at h1
  have h3 : num = 0 → num.natAbs / Nat.gcd num.natAbs den.natAbs = 0 := by rintro rfl; simp
  generalize frI (turned num den) den.natAbs = v at *
  generalize num.natAbs / Nat.gcd num.natAbs den.natAbs = m at *
  unfold turned at h2
  by_cases a1 : num < 0 <;> by_cases a2 : den < 0
  · rw [if_pos a2] at h2
    rw [decide_eq_true a1, decide_eq_true a2]
    simp
    omega
  · rw [if_neg a2] at h2
    rw [decide_eq_true a1, decide_eq_false a2]
    simp
    omega
  · rw [if_pos a2] at h2
    rw [decide_eq_false a1, decide_eq_true a2]
    simp
    omega
  · rw [if_neg a2] at h2
    rw [decide_eq_false a1, decide_eq_false a2]
    simp
    omega
theorem of_den (num den : Int) : frd (turned num den) den.natAbs = den.natAbs / Nat.gcd num.natAbs den.natAbs := by unfold frd; rw [turned_abs]
theorem of_abs (num den : Int) : (frI (turned num den) den.natAbs).natAbs = num.natAbs / Nat.gcd num.natAbs den.natAbs := by rw [frI_abs, turned_abs]
theorem tdiv_nat (x g : Nat) : (x : Int).tdiv (g : Int) = ((x / g : Nat) : Int) := by rw [Int.tdiv_eq_ediv_of_nonneg (by omega)]; omega
end Go.Proofs.Ythbdkhmgopahbaa
set_option linter.unusedVariables false
namespace Go.Proofs.Ythbdkhmgopahbaa
open Go Go.RowKit Go.Deep
/-- The slice holds these numbers. -/
def IntsA (w : World) (s : Sl) (f : Nat → Int) : Prop :=
  s.len ≤ s.cap ∧ s.cap ≤ maxLen ∧ (s.len = 0 ∨ ∃ b off, s.a = some ⟨b, off, none⟩ ∧ b < w.heap.size ∧ ∀ i, i < s.len → w.cell? ⟨b, off + i, none⟩ = some (.int .i64 (f i)))
theorem IntsA.later {w w' : World} {s : Sl} {f : Nat → Int} (h : IntsA w s f) (hb : Below w.heap.size w w') : IntsA w' s f := by
  obtain ⟨h1, h2, h3⟩ := h
  refine ⟨h1, h2, h3.imp id ?_⟩
  rintro ⟨b, off, ha, hlt, hc⟩
  exact ⟨b, off, ha, Nat.lt_of_lt_of_le hlt hb.size, fun i hi => by rw [hb.cell (p := ⟨b, _, none⟩) hlt]; exact hc i hi⟩
/-- The slice holds these fractions. -/
def FrsA (w : World) (s : Sl) (f g : Nat → Int) : Prop :=
  s.len ≤ s.cap ∧ s.cap ≤ maxLen ∧ (s.len = 0 ∨ ∃ b off, s.a = some ⟨b, off, none⟩ ∧ b < w.heap.size ∧ ∀ i, i < s.len → w.cell? ⟨b, off + i * 2, none⟩ = some (.int .i64 (f i)) ∧ w.cell? ⟨b, off + i * 2 + 1, none⟩ = some (.int .i64 (g i)))
theorem FrsA.later {w w' : World} {s : Sl} {f g : Nat → Int} (h : FrsA w s f g) (hb : Below w.heap.size w w') : FrsA w' s f g := by
  obtain ⟨h1, h2, h3⟩ := h
  refine ⟨h1, h2, h3.imp id ?_⟩
  rintro ⟨b, off, ha, hlt, hc⟩
  exact ⟨b, off, ha, Nat.lt_of_lt_of_le hlt hb.size, fun i hi => by rw [hb.cell (p := ⟨b, _, none⟩) hlt, hb.cell (p := ⟨b, _, none⟩) hlt]; exact hc i hi⟩
/-- The slice holds these rows of numbers. -/
def RowsA (w : World) (s : Sl) (r : Nat → Sl) (f : Nat → Nat → Int) : Prop :=
  s.len ≤ s.cap ∧ s.cap ≤ maxLen ∧ (∀ i, i < s.len → IntsA w (r i) (f i)) ∧ (s.len = 0 ∨ ∃ b off, s.a = some ⟨b, off, none⟩ ∧ b < w.heap.size ∧ ∀ i, i < s.len → w.cell? ⟨b, off + i, none⟩ = some (.slice (r i).a (r i).len (r i).cap))
theorem RowsA.later {w w' : World} {s : Sl} {r : Nat → Sl} {f : Nat → Nat → Int} (h : RowsA w s r f) (hb : Below w.heap.size w w') : RowsA w' s r f := by
  obtain ⟨h1, h2, h4, h3⟩ := h
  refine ⟨h1, h2, fun i hi => (h4 i hi).later hb, h3.imp id ?_⟩
  rintro ⟨b, off, ha, hlt, hc⟩
  exact ⟨b, off, ha, Nat.lt_of_lt_of_le hlt hb.size, fun i hi => by rw [hb.cell (p := ⟨b, _, none⟩) hlt]; exact hc i hi⟩
/-- A system. -/
structure Sy where
  U : Sl
  R : Sl
  B : Sl
  up : Nat → Int
  row : Nat → Sl
  co : Nat → Nat → Int
  rt : Nat → Int
structure SysA (w : World) (y : Sy) : Prop where
  U : IntsA w y.U y.up
  R : RowsA w y.R y.row y.co
  B : IntsA w y.B y.rt
theorem SysA.later {w w' : World} {y : Sy} (h : SysA w y) (hb : Below w.heap.size w w') : SysA w' y := ⟨h.U.later hb, h.R.later hb, h.B.later hb⟩
/-- The first index from j on, of m, with p; or -1. -/
def fstI (p : Nat → Bool) : Nat → Nat → Int
  | _, 0 => -1
  | j, m + 1 => if p j = true then (j : Int) else fstI p (j + 1) m
theorem fstI_go {p : Nat → Bool} {j m : Nat} (h : p j = false) : fstI p j (m + 1) = fstI p (j + 1) m := by simp [fstI, h]
theorem fstI_stop {p : Nat → Bool} {j m : Nat} (h : p j = true) : fstI p j (m + 1) = j := by simp [fstI, h]
def anyB (p : Nat → Bool) (n : Nat) : Bool := decide (0 ≤ fstI p 0 n)
theorem fstI_neg {p : Nat → Bool} : ∀ (m j : Nat), (0 ≤ fstI p j m) ↔ ∃ i, j ≤ i ∧ i < j + m ∧ p i = true
  | 0, j => by simp [fstI]; omega
  | m + 1, j => by
    cases hp : p j
    · rw [fstI_go hp, fstI_neg m (j + 1)]
      constructor
      · rintro ⟨i, h1, h2, h3⟩; exact ⟨i, by omega, by omega, h3⟩
      · rintro ⟨i, h1, h2, h3⟩
        refine ⟨i, ?_, by omega, h3⟩
        rcases Nat.eq_or_lt_of_le h1 with rfl | h4
        · rw [hp] at h3; cases h3
        · omega
    · rw [fstI_stop hp]
      exact ⟨fun _ => ⟨j, Nat.le_refl _, by omega, hp⟩, fun _ => by omega⟩
theorem anyB_iff {p : Nat → Bool} {n : Nat} : anyB p n = true ↔ ∃ i, i < n ∧ p i = true := by
  unfold anyB
  rw [decide_eq_true_iff, fstI_neg]
  constructor
  · rintro ⟨i, _, h2, h3⟩; exact ⟨i, by omega, h3⟩
  · rintro ⟨i, h2, h3⟩; exact ⟨i, by omega, by omega, h3⟩
theorem anyB_no {p : Nat → Bool} {n : Nat} : anyB p n = false ↔ ∀ i, i < n → p i = false := by
  constructor
  · intro h i hi
    cases hp : p i with
    | false => rfl
    | true => rw [anyB_iff.2 ⟨i, hi, hp⟩] at h; cases h
  · intro h
    cases hp : anyB p n with
    | false => rfl
    | true => obtain ⟨i, hi, h2⟩ := anyB_iff.1 hp; rw [h i hi] at h2; cases h2
def outB (lo hi n : Int) : Bool := decide (n < lo) || decide (hi < n)
theorem outB_no {lo hi n : Int} : outB lo hi n = false ↔ lo ≤ n ∧ n ≤ hi := by
  unfold outB; rw [Bool.or_eq_false_iff, decide_eq_false_iff_not, decide_eq_false_iff_not]; omega
end Go.Proofs.Ythbdkhmgopahbaa
set_option linter.unusedVariables false
namespace Go.Proofs.Ythbdkhmgopahbaa
open Go Go.RowKit Go.Deep
theorem new_at1 (w : World) (o : Obj) (cs : Array Value) (t t' : TypeId) : ((w.alloc o).alloc (.cells cs t)).heap[w.heap.size + 1]? = some (.cells cs t) := by
  have := heap_alloc_new (w.alloc o) (.cells cs t)
  simpa using this
end Go.Proofs.Ythbdkhmgopahbaa
set_option linter.unusedVariables false
namespace Go.Proofs.Ythbdkhmgopahbaa
open Go Go.RowKit Go.Deep
theorem three_b {W : World} {b : Nat} {a0 a1 a2 : Value} {t : TypeId} (h : W.heap[b]? = some (.cells #[a0, a1, a2] t)) :
    b < W.heap.size ∧ W.frozen? ⟨b, 0, none⟩ = false ∧ W.frozen? ⟨b, 1, none⟩ = false ∧ W.frozen? ⟨b, 2, none⟩ = false ∧ W.cell? ⟨b, 0, none⟩ = some a0 ∧ W.cell? ⟨b, 1, none⟩ = some a1 ∧ W.cell? ⟨b, 2, none⟩ = some a2 := by
  refine ⟨(Array.getElem?_eq_some_iff.1 h).1, by simp [World.frozen?, h], by simp [World.frozen?, h], by simp [World.frozen?, h], ?_, ?_, ?_⟩
  all_goals
    rw [cell_of_row _ _ _ _ _ (0, 0) h]
    rfl
/-- A number does not lie in a block that holds a sign and two slices. -/
theorem NumAt.store3 {W : World} {s : Sl} {m T : Nat} {x : Bool} {a a' : Option Addr} {n c n' c' : Nat} {t : TypeId} (h : NumAt W s m) (hT : W.heap[T]? = some (.cells #[.bool x, .slice a n c, .slice a' n' c'] t)) (v0 v1 v2 : Value) : NumAt (((W.setCell ⟨T, 0, none⟩ v0).setCell ⟨T, 1, none⟩ v1).setCell ⟨T, 2, none⟩ v2) s m := by
  obtain ⟨h1, h2, h3, h4⟩ := h
  refine ⟨h1, h2, h3, ?_⟩
  rcases h4 with h4 | ⟨b, off, ha, hb, hc⟩
  · exact .inl h4
  · by_cases h0 : s.len = 0
    · exact .inl h0
    · refine .inr ⟨b, off, ha, by simpa using hb, fun i hi => ?_⟩
      have hne : b ≠ T := by
        rintro rfl
        have h5 := hc 0 (by omega)
        rw [cell_of_row _ _ _ _ _ _ hT, Nat.add_zero] at h5
        rcases off with _ | _ | _ | off <;> simp at h5
      rw [← hc i hi]
      refine World.cell?_of_block ?_
      rw [Below.heap_setCell _ _ _ _ hne, Below.heap_setCell _ _ _ _ hne, Below.heap_setCell _ _ _ _ hne]
theorem below3 {B : Nat} {w0 W : World} {T : Nat} (h : Below B w0 W) (hT : B ≤ T) (v0 v1 v2 : Value) : Below B w0 (((W.setCell ⟨T, 0, none⟩ v0).setCell ⟨T, 1, none⟩ v1).setCell ⟨T, 2, none⟩ v2) := ((h.setCell hT v0).setCell hT v1).setCell hT v2
set_option maxHeartbeats 8000000 in
set_option maxRecDepth 20000 in
theorem Make_calls (n d : Int) (w : World) (h1 : In64 n) (h2 : In64 d) :
    Calls Try.prog 62 #[.agg #[.int .i64 n, .int .i64 d]] w fun e w' => ∃ s t : Sl, e = .returned (.agg #[.bool (decide (n < 0)), .slice s.a s.len s.cap, .slice t.a t.len t.cap]) ∧ NumAt w' s n.natAbs ∧ NumAt w' t d.natAbs ∧ Cls w w' := by
  have C1 := Lib.hid (fun W => of_calls n W h1.1 h1.2)
  have C2 := Lib.hid (fun W => of_calls d W h2.1 h2.2)
  clear h1 h2
  go_enter Try.func62, Try.ntmps62
  go_wp2_with fail
  go_region_held3 (fun w' => w'.cell? ⟨w.heap.size, 0, none⟩ = some (.int .i64 n) ∧ w'.cell? ⟨w.heap.size, 1, none⟩ = some (.int .i64 d))
    (first | go_keep | (refine ⟨?_, ?_⟩ <;> (rw [Ext.cell _ _ (by first | (simp; done) | (simp; omega) | omega)]; simp [*]; done)))
    (first
      | (go_at_call 67; (with_reducible refine (C1.out _).mono ?_); rintro e _ ⟨sn, rfl, hsn, ⟨yn, rfl⟩⟩; have YN := yn.size; (try simp at YN))
      | (go_at_call 67; (with_reducible refine (C2.out _).mono ?_); rintro e _ ⟨sd, rfl, hsd, ⟨yd, rfl⟩⟩; have YD := yd.size; (try simp at YD); have HT := Lib.hid ((yd.below.block (w.heap.size + 1) (by omega)).trans ((yn.below.block (w.heap.size + 1) (by simp)).trans (new_at1 w _ _ _ 0))); obtain ⟨k0, k1, k2, k3, k4, k5, k6⟩ := three_b HT.out))
  have HB : Below w.heap.size w yd.val := by repeat first | with_reducible exact Below.refl _ _ | with_reducible refine Below.setCell ?_ (by first | omega | (simp; done) | (simp; omega)) _ | with_reducible refine Below.alloc ?_ (by first | omega | (simp; done) | (simp; omega)) _ | with_reducible refine Below.drew ?_ | with_reducible refine Ext.on _ ?_ (by first | omega | (simp; done) | (simp; omega))
  go_wp2
  refine ret_ex rfl ?_
  simp [results, Try.results62, go_sem, k4, k5, k6]
  refine ⟨sn, sd, by simp, NumAt.store3 (hsn.later yd.below) HT.out _ _ _, NumAt.store3 hsd HT.out _ _ _, Cls.of (below3 HB (by omega) _ _ _)⟩
end Go.Proofs.Ythbdkhmgopahbaa
