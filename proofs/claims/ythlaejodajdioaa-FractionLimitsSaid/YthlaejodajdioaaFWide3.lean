/-
  The program's numbers of 128 bits: rests, quotients, and which fit.
-/
import Derived.Test.YthlaejodajdioaaFWide2
set_option linter.unusedVariables false
namespace Go.Proofs.Ythlaejodajdioaa
open Go Go.RowKit Go.Deep
theorem abs_halves {v : Int} (h : In128 v) : wHi (v.natAbs : Int) = ((v.natAbs / 18446744073709551616 : Nat) : Int) ∧ wLo (v.natAbs : Int) = ((v.natAbs % 18446744073709551616 : Nat) : Int) ∧ v.natAbs / 18446744073709551616 * 18446744073709551616 + v.natAbs % 18446744073709551616 = v.natAbs ∧ v.natAbs / 18446744073709551616 < 18446744073709551616 := by
  unfold In128 at h
  unfold wHi wLo
  omega
set_option maxHeartbeats 4000000 in
set_option maxRecDepth 20000 in
theorem wmodulo_calls (v : Int) (n : Nat) (w : World) (h : In128 v) (hn : 0 < n) (hn2 : n < 18446744073709551616) :
    Calls Try.prog 45 #[.agg #[.int .u64 (wHi v), .int .u64 (wLo v)], .int .u64 n] w fun e w' => e = .returned (.int .u64 ((v.natAbs % n : Nat) : Int)) ∧ Cls w w' := by
  have C1 := Lib.hid (fun W => wmagnitude_calls v W h)
  obtain ⟨a1, a2, a3, a4⟩ := abs_halves h
  have C2 := Lib.hid (fun W => Rem64_calls (v.natAbs / 18446744073709551616) (v.natAbs % 18446744073709551616) n W a4 hn hn2 (Nat.mod_lt _ (by omega)))
  rw [a1, a2] at C1
  rw [a3] at C2
  clear h a1 a2 a3 a4
  generalize v.natAbs % n = r at *
  generalize v.natAbs / 18446744073709551616 = x at *
  generalize v.natAbs % 18446744073709551616 = y at *
  generalize wHi v = h1 at *
  generalize wLo v = l1 at *
  go_enter Try.func45, Try.ntmps45
  go_wp2_with (first | (go_at_call 58; (with_reducible refine (C1.out _).mono ?_); rintro e _ ⟨rfl, ⟨y1, rfl⟩⟩; have ys := y1.size; (try simp at ys)) | (go_at_call 59; (with_reducible refine (C2.out _).mono ?_); rintro e _ ⟨rfl, ⟨y2, rfl⟩⟩))
  go_ret
  refine ⟨rfl, Cls.of ?_⟩
  repeat first | with_reducible exact Below.refl _ _ | with_reducible refine Below.setCell ?_ (by first | omega | (simp; done) | (simp; omega)) _ | with_reducible refine Below.alloc ?_ (by first | omega | (simp; done) | (simp; omega)) _ | with_reducible refine Below.drew ?_ | with_reducible refine Ext.on _ ?_ (by first | omega | (simp; done) | (simp; omega))
theorem over_halves {v : Int} {n : Nat} (h : In128 v) (hn : 0 < n) :
    wHi ((v.natAbs / n : Nat) : Int) = ((v.natAbs / 18446744073709551616 / n : Nat) : Int) ∧ wLo ((v.natAbs / n : Nat) : Int) = (((v.natAbs / 18446744073709551616 % n * 18446744073709551616 + v.natAbs % 18446744073709551616) / n : Nat) : Int) := by
  obtain ⟨_, _, a3, a4⟩ := abs_halves h
  generalize v.natAbs = m at *
  have h1 := Nat.div_add_mod (m / 18446744073709551616) n
  have h2 := Nat.mod_lt (m / 18446744073709551616) hn
  have h3 : (m / 18446744073709551616 % n * 18446744073709551616 + m % 18446744073709551616) / n < 18446744073709551616 := by
    rw [Nat.div_lt_iff_lt_mul hn]
    have : m % 18446744073709551616 < 18446744073709551616 := Nat.mod_lt _ (by omega)
    generalize m / 18446744073709551616 % n = r at *
    have e : 18446744073709551616 * n = n * 18446744073709551616 := Nat.mul_comm _ _
    rw [e]
    have : (r + 1) * 18446744073709551616 ≤ n * 18446744073709551616 := Nat.mul_le_mul_right _ h2
    omega
  have h4 : m / n = m / 18446744073709551616 / n * 18446744073709551616 + (m / 18446744073709551616 % n * 18446744073709551616 + m % 18446744073709551616) / n := by
    have e : m = n * (m / 18446744073709551616 / n * 18446744073709551616) + (m / 18446744073709551616 % n * 18446744073709551616 + m % 18446744073709551616) := by
      rw [← Nat.mul_assoc, ← Nat.add_assoc, ← Nat.add_mul, h1, a3]
    have e2 : m / n = (n * (m / 18446744073709551616 / n * 18446744073709551616) + (m / 18446744073709551616 % n * 18446744073709551616 + m % 18446744073709551616)) / n := by rw [← e]
    rw [e2, Nat.mul_add_div hn]
  have h5 : m / 18446744073709551616 / n ≤ m / 18446744073709551616 := Nat.div_le_self _ _
  rw [h4]
  generalize (m / 18446744073709551616 % n * 18446744073709551616 + m % 18446744073709551616) / n = lo at *
  generalize m / 18446744073709551616 / n = hi at *
  generalize m / 18446744073709551616 = mm at *
  unfold wHi wLo
  omega
/-- The quotient of a number by one without a sign, rounded towards 0. -/
def overI (v : Int) (n : Nat) : Int := if v < 0 then -((v.natAbs / n : Nat) : Int) else ((v.natAbs / n : Nat) : Int)
theorem over_exact {v x : Int} {n : Nat} (hn : 0 < n) (h : (n : Int) * x = v) : overI v n = x := by
  have e : v.natAbs = n * x.natAbs := by rw [← h, Int.natAbs_mul, Int.natAbs_natCast]
  have e2 : v.natAbs / n = x.natAbs := by rw [e, Nat.mul_div_cancel_left _ hn]
  unfold overI
  rw [e2]
  by_cases hv : v < 0
  · have : x < 0 := by
      rcases Int.lt_or_le x 0 with h1 | h1
      · exact h1
      · have := Int.mul_nonneg (show (0 : Int) ≤ n by omega) h1
        omega
    rw [if_pos hv]; omega
  · have : 0 ≤ x := by
      rcases Int.lt_or_le x 0 with h1 | h1
      · have := Int.mul_neg_of_pos_of_neg (show (0 : Int) < n by omega) h1
        omega
      · exact h1
    rw [if_neg hv]; omega
set_option maxHeartbeats 8000000 in
set_option maxRecDepth 20000 in
theorem wover_calls (v : Int) (n : Nat) (w : World) (h : In128 v) (hn : 0 < n) (hn2 : n < 18446744073709551616) :
    Calls Try.prog 47 #[.agg #[.int .u64 (wHi v), .int .u64 (wLo v)], .int .u64 n] w fun e w' => e = .returned (.agg #[.int .u64 (wHi (overI v n)), .int .u64 (wLo (overI v n))]) ∧ Cls w w' := by
  have C1 := Lib.hid (fun W => wmagnitude_calls v W h)
  obtain ⟨a1, a2, a3, a4⟩ := abs_halves h
  obtain ⟨o1, o2⟩ := over_halves (n := n) h hn
  have C2 := Lib.hid (fun W => Div64_calls (v.natAbs / 18446744073709551616 % n) (v.natAbs % 18446744073709551616) n W (Nat.mod_lt _ hn) hn2 (Nat.mod_lt _ (by omega)))
  have C3 := Lib.hid (fun W => wnegative_calls v W h)
  have C4 := Lib.hid (fun W => wnegated_calls ((v.natAbs / n : Nat) : Int) W)
  rw [a1, a2] at C1
  rw [o1, o2] at C4
  have HV : Hid (v < 0 → overI v n = -((v.natAbs / n : Nat) : Int)) := Lib.hid fun hv => by unfold overI; rw [if_pos hv]
  have HV2 : Hid (¬ v < 0 → overI v n = ((v.natAbs / n : Nat) : Int)) := Lib.hid fun hv => by unfold overI; rw [if_neg hv]
  have O1 := Lib.hid o1
  have O2 := Lib.hid o2
  have d2 : ¬ (n : Int) = 0 := by omega
  have d4 : ¬ n = 0 := by omega
  have a5 : v.natAbs / 18446744073709551616 / n < 18446744073709551616 := Nat.lt_of_le_of_lt (Nat.div_le_self _ _) a4
  have a6 : v.natAbs / 18446744073709551616 % n < 18446744073709551616 := Nat.lt_of_le_of_lt (Nat.mod_le _ _) a4
  have q1 : ((v.natAbs / 18446744073709551616 : Nat) : Int).tdiv (n : Int) = ((v.natAbs / 18446744073709551616 / n : Nat) : Int) := tdiv_nat' _ _
  have q2 : ((v.natAbs / 18446744073709551616 : Nat) : Int).tmod (n : Int) = ((v.natAbs / 18446744073709551616 % n : Nat) : Int) := by rw [Int.tmod_eq_emod_of_nonneg (by omega)]; exact (Int.natCast_emod _ _).symm
  have q3 : IntKind.u64.wrap ((v.natAbs / 18446744073709551616 / n : Nat) : Int) = ((v.natAbs / 18446744073709551616 / n : Nat) : Int) := u64_id a5
  have q4 : IntKind.u64.wrap ((v.natAbs / 18446744073709551616 % n : Nat) : Int) = ((v.natAbs / 18446744073709551616 % n : Nat) : Int) := u64_id a6
  clear a1 a2 a3 o1 o2 h
  by_cases hv : v < 0
  · have e := HV.out hv
    rw [e]
    have d1 : decide (v < 0) = true := decide_eq_true hv
    rw [d1] at C3
    clear HV HV2 hv d1 e O1 O2
    generalize wHi (-((v.natAbs / n : Nat) : Int)) = r1 at *
    generalize wLo (-((v.natAbs / n : Nat) : Int)) = r2 at *
    generalize (v.natAbs / 18446744073709551616 % n * 18446744073709551616 + v.natAbs % 18446744073709551616) / n = lo at *
    generalize (v.natAbs / 18446744073709551616 % n * 18446744073709551616 + v.natAbs % 18446744073709551616) % n = lr at *
    generalize v.natAbs / 18446744073709551616 / n = hi at *
    generalize v.natAbs / 18446744073709551616 % n = hr at *
    generalize v.natAbs / 18446744073709551616 = x at *
    generalize v.natAbs % 18446744073709551616 = y at *
    generalize wHi v = h1 at *
    generalize wLo v = l1 at *
    go_enter Try.func47, Try.ntmps47
    go_wp2_with (go_at_call 58; (with_reducible refine (C1.out _).mono ?_); rintro e _ ⟨rfl, ⟨y1, rfl⟩⟩; have ys := y1.size; (try simp at ys); have k1 : w.heap.size < y1.val.heap.size := (by omega); have k2 : w.heap.size + 1 < y1.val.heap.size := (by omega))
    refine wp_region_ext (by kernel_rfl) (by kernel_rfl) ?_
    repeat (go_big_quiet_step (first | (go_at_call 62; with_reducible exact Cls.call (C2.out _))))
    refine wpQuiet_nil ?_
    rintro _ ⟨y2, rfl⟩
    have y2s := y2.size
    (try simp at y2s)
    have k3 : w.heap.size < y2.val.heap.size := by omega
    have k4 : y1.val.heap.size < y2.val.heap.size := by omega
    clear q2 q4
    go_wp2_with (first | (go_at_call 63; (with_reducible refine (C3.out _).mono ?_); rintro e _ ⟨rfl, ⟨y3, rfl⟩⟩; have y3s := y3.size; (try simp at y3s); have k5 : y2.val.heap.size < y3.val.heap.size := (by omega)) | (go_at_call 64; (with_reducible refine (C4.out _).mono ?_); rintro e _ ⟨rfl, ⟨y4, rfl⟩⟩; have y4s := y4.size; have HB : Below ((w.alloc (.cells #[.int .u64 h1, .int .u64 l1] 60)).alloc (.cells #[.int .u64 0, .int .u64 0] 60)).heap.size ((w.alloc (.cells #[.int .u64 h1, .int .u64 l1] 60)).alloc (.cells #[.int .u64 0, .int .u64 0] 60)) y4.val := (by repeat first | with_reducible exact Below.refl _ _ | with_reducible refine Below.setCell ?_ (by first | omega | (simp; done) | (simp; omega)) _ | with_reducible refine Below.alloc ?_ (by first | omega | (simp; done) | (simp; omega)) _ | with_reducible refine Below.drew ?_ | with_reducible refine Ext.on _ ?_ (by first | omega | (simp; done) | (simp; omega))); obtain ⟨c0, c1, c2, c3, c4⟩ := two_z ((HB.block (w.heap.size + 1) (by simp)).trans (new_at1 w _ _ _ 0)); clear HB))
    refine ret_ex rfl ?_
    simp [results, Try.results47, go_sem, c3, c4]
    refine Cls.of ?_
    repeat first | with_reducible exact Below.refl _ _ | with_reducible refine Below.setCell ?_ (by first | omega | (simp; done) | (simp; omega)) _ | with_reducible refine Below.alloc ?_ (by first | omega | (simp; done) | (simp; omega)) _ | with_reducible refine Below.drew ?_ | with_reducible refine Ext.on _ ?_ (by first | omega | (simp; done) | (simp; omega))
  · have e := HV2.out hv
    rw [e]
    have d1 : decide (v < 0) = false := decide_eq_false hv
    rw [d1] at C3
    rw [O1.out, O2.out]
    clear HV HV2 hv d1 e O1 O2 C4
    generalize (v.natAbs / 18446744073709551616 % n * 18446744073709551616 + v.natAbs % 18446744073709551616) / n = lo at *
    generalize (v.natAbs / 18446744073709551616 % n * 18446744073709551616 + v.natAbs % 18446744073709551616) % n = lr at *
    generalize v.natAbs / 18446744073709551616 / n = hi at *
    generalize v.natAbs / 18446744073709551616 % n = hr at *
    generalize v.natAbs / 18446744073709551616 = x at *
    generalize v.natAbs % 18446744073709551616 = y at *
    generalize wHi v = h1 at *
    generalize wLo v = l1 at *
    go_enter Try.func47, Try.ntmps47
    go_wp2_with (go_at_call 58; (with_reducible refine (C1.out _).mono ?_); rintro e _ ⟨rfl, ⟨y1, rfl⟩⟩; have ys := y1.size; (try simp at ys); have k1 : w.heap.size < y1.val.heap.size := (by omega); have k2 : w.heap.size + 1 < y1.val.heap.size := (by omega))
    refine wp_region_ext (by kernel_rfl) (by kernel_rfl) ?_
    repeat (go_big_quiet_step (first | (go_at_call 62; with_reducible exact Cls.call (C2.out _))))
    refine wpQuiet_nil ?_
    rintro _ ⟨y2, rfl⟩
    have y2s := y2.size
    (try simp at y2s)
    have k3 : w.heap.size < y2.val.heap.size := by omega
    have k4 : y1.val.heap.size < y2.val.heap.size := by omega
    clear q2 q4
    go_wp2_with (first | (go_at_call 63; (with_reducible refine (C3.out _).mono ?_); rintro e _ ⟨rfl, ⟨y3, rfl⟩⟩; have y3s := y3.size; (try simp at y3s); have k5 : y2.val.heap.size < y3.val.heap.size := (by omega); have HB : Below ((w.alloc (.cells #[.int .u64 h1, .int .u64 l1] 60)).alloc (.cells #[.int .u64 0, .int .u64 0] 60)).heap.size ((w.alloc (.cells #[.int .u64 h1, .int .u64 l1] 60)).alloc (.cells #[.int .u64 0, .int .u64 0] 60)) y3.val := (by repeat first | with_reducible exact Below.refl _ _ | with_reducible refine Below.setCell ?_ (by first | omega | (simp; done) | (simp; omega)) _ | with_reducible refine Below.alloc ?_ (by first | omega | (simp; done) | (simp; omega)) _ | with_reducible refine Below.drew ?_ | with_reducible refine Ext.on _ ?_ (by first | omega | (simp; done) | (simp; omega))); obtain ⟨c0, c1, c2, c3, c4⟩ := two_z ((HB.block (w.heap.size + 1) (by simp)).trans (new_at1 w _ _ _ 0)); clear HB))
    refine ret_ex rfl ?_
    simp [results, Try.results47, go_sem, c3, c4]
    refine Cls.of ?_
    repeat first | with_reducible exact Below.refl _ _ | with_reducible refine Below.setCell ?_ (by first | omega | (simp; done) | (simp; omega)) _ | with_reducible refine Below.alloc ?_ (by first | omega | (simp; done) | (simp; omega)) _ | with_reducible refine Below.drew ?_ | with_reducible refine Ext.on _ ?_ (by first | omega | (simp; done) | (simp; omega))
end Go.Proofs.Ythlaejodajdioaa
