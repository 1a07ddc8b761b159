/-
  The program's fractions: rounded down.
-/
import Derived.Test.YtogjollefllajaaDoorFCmp
set_option linter.unusedVariables false
namespace Go.Proofs.YtogjollefllajaaDoor
open Go Go.RowKit Go.Deep
def flF (n d : Int) : Int := if vaB n d = true then n / d else 0
theorem floor_neg {n d : Int} (hd : 1 ≤ d) (h : n.tmod d < 0) : n.tdiv d - 1 = n / d := by
  have h1 := Int.mul_tdiv_add_tmod n d
  have h2 := Int.mul_ediv_add_emod n d
  have h3 := Int.emod_nonneg n (show d ≠ 0 by omega)
  have h4 := Int.emod_lt_of_pos n (show 0 < d by omega)
  have h5 : -d < n.tmod d := by
    have := Int.lt_tmod_of_pos n (show 0 < d by omega)
    omega
  generalize n.tmod d = r at *
  generalize n % d = s at *
  generalize n.tdiv d = p at *
  generalize n / d = q at *
  have e : d * (p - 1 - q) = s - r - d := by
    rw [Int.mul_sub, Int.mul_sub]; omega
  rcases Int.lt_trichotomy (p - 1 - q) 0 with h6 | h6 | h6
  · have : d * (p - 1 - q) ≤ d * (-1) := Int.mul_le_mul_of_nonneg_left (by omega) (by omega)
    omega
  · omega
  · have : d * 1 ≤ d * (p - 1 - q) := Int.mul_le_mul_of_nonneg_left (by omega) (by omega)
    omega
theorem floor_pos {n d : Int} (hd : 1 ≤ d) (h : ¬ n.tmod d < 0) : n.tdiv d = n / d := by
  have h1 := Int.mul_tdiv_add_tmod n d
  have h2 := Int.mul_ediv_add_emod n d
  have h3 := Int.emod_nonneg n (show d ≠ 0 by omega)
  have h4 := Int.emod_lt_of_pos n (show 0 < d by omega)
  have h5 : n.tmod d < d := Int.tmod_lt_of_pos n (by omega)
  generalize n.tmod d = r at *
  generalize n % d = s at *
  generalize n.tdiv d = p at *
  generalize n / d = q at *
  have e : d * (p - q) = s - r := by
    rw [Int.mul_sub]; omega
  rcases Int.lt_trichotomy (p - q) 0 with h6 | h6 | h6
  · have : d * (p - q) ≤ d * (-1) := Int.mul_le_mul_of_nonneg_left (by omega) (by omega)
    omega
  · omega
  · have : d * 1 ≤ d * (p - q) := Int.mul_le_mul_of_nonneg_left (by omega) (by omega)
    omega
theorem vaB_rng {n d : Int} (h : vaB n d = true) : 1 ≤ d ∧ d ≤ 100000000000000000 ∧ -100000000000000000 ≤ n ∧ n ≤ 100000000000000000 := rngB_all (by unfold vaB at h; simp at h; exact h.1)
theorem tdiv_in {n d : Int} (hn : -100000000000000000 ≤ n ∧ n ≤ 100000000000000000) : -100000000000000000 ≤ n.tdiv d ∧ n.tdiv d ≤ 100000000000000000 := by
  have := Int.natAbs_tdiv_le_natAbs n d
  omega
theorem floor_in {n d : Int} (hn : -100000000000000000 ≤ n ∧ n ≤ 100000000000000000) (hd : 1 ≤ d) : -100000000000000001 ≤ n / d ∧ n / d ≤ 100000000000000000 := by
  have := tdiv_in (d := d) hn
  by_cases h : n.tmod d < 0
  · rw [← floor_neg hd h]; omega
  · rw [← floor_pos hd h]; omega
set_option maxHeartbeats 4000000 in
set_option maxRecDepth 20000 in
theorem Floor_calls (n d : Int) (w : World) (h0 : -9223372036854775808 ≤ n) (h1 : n ≤ 9223372036854775807) (h2 : -9223372036854775808 ≤ d) (h3 : d ≤ 9223372036854775807) :
    Calls Tryd.prog 8 #[.agg #[.int .i64 n, .int .i64 d]] w fun e w' => e = .returned (.int .i64 (flF n d)) ∧ Cls w w' := by
  have C1 := Lib.hid (fun W => Valid_calls n d W h0 h1 h2 h3)
  cases hv : vaB n d with
  | false =>
    have e : flF n d = 0 := by simp [flF, hv]
    rw [e]
    rw [hv] at C1
    clear h0 h1 h2 h3 hv e
    go_enter Tryd.func8, Tryd.ntmps8
    go_wp2_with (go_at_call 17; (with_reducible refine (C1.out _).mono ?_); rintro e _ ⟨rfl, ⟨y1, rfl⟩⟩)
    go_ret
    refine ⟨rfl, Cls.of ?_⟩
    repeat first | with_reducible exact Below.refl _ _ | with_reducible refine Below.setCell ?_ (by first | omega | (simp; done) | (simp; omega)) _ | with_reducible refine Below.alloc ?_ (by first | omega | (simp; done) | (simp; omega)) _ | with_reducible refine Below.drew ?_ | with_reducible refine Ext.on _ ?_ (by first | omega | (simp; done) | (simp; omega))
  | true =>
    have e : flF n d = n / d := by simp [flF, hv]
    obtain ⟨a1, a2, a3, a4⟩ := vaB_rng hv
    have hq := tdiv_in (d := d) ⟨a3, a4⟩
    rw [e]
    rw [hv] at C1
    have hd0 : ¬ d = 0 := by omega
    by_cases hr : n.tmod d < 0
    · have E := Lib.hid (floor_neg a1 hr)
      have d1 : decide (n.tmod d < 0) = true := decide_eq_true hr
      have e1 : IntKind.i64.wrap (n.tdiv d) = n.tdiv d := by rw [IntKind.wrap_i64]; omega
      have e2 : IntKind.i64.wrap (n.tdiv d - 1) = n.tdiv d - 1 := by rw [IntKind.wrap_i64]; omega
      clear h0 h1 h2 h3 hv e
      go_enter Tryd.func8, Tryd.ntmps8
      go_wp2_with (go_at_call 17; (with_reducible refine (C1.out _).mono ?_); rintro e _ ⟨rfl, ⟨y1, rfl⟩⟩; have ys := y1.size; (try simp at ys))
      go_ret
      refine ⟨ret_int E.out, Cls.of ?_⟩
      repeat first | with_reducible exact Below.refl _ _ | with_reducible refine Below.setCell ?_ (by first | omega | (simp; done) | (simp; omega)) _ | with_reducible refine Below.alloc ?_ (by first | omega | (simp; done) | (simp; omega)) _ | with_reducible refine Below.drew ?_ | with_reducible refine Ext.on _ ?_ (by first | omega | (simp; done) | (simp; omega))
    · have E := Lib.hid (floor_pos a1 hr)
      have d1 : decide (n.tmod d < 0) = false := decide_eq_false hr
      have e1 : IntKind.i64.wrap (n.tdiv d) = n.tdiv d := by rw [IntKind.wrap_i64]; omega
      clear h0 h1 h2 h3 hv e
      go_enter Tryd.func8, Tryd.ntmps8
      go_wp2_with (go_at_call 17; (with_reducible refine (C1.out _).mono ?_); rintro e _ ⟨rfl, ⟨y1, rfl⟩⟩; have ys := y1.size; (try simp at ys))
      go_ret
      refine ⟨ret_int E.out, Cls.of ?_⟩
      repeat first | with_reducible exact Below.refl _ _ | with_reducible refine Below.setCell ?_ (by first | omega | (simp; done) | (simp; omega)) _ | with_reducible refine Below.alloc ?_ (by first | omega | (simp; done) | (simp; omega)) _ | with_reducible refine Below.drew ?_ | with_reducible refine Ext.on _ ?_ (by first | omega | (simp; done) | (simp; omega))
end Go.Proofs.YtogjollefllajaaDoor
