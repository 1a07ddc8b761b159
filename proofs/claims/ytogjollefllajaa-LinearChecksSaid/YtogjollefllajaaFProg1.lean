/-
  The program's fractions: divisors, magnitudes, validity.
-/
import Derived.Test.YtogjollefllajaaFValid
set_option linter.unusedVariables false
namespace Go.Proofs.Ytogjollefllajaa
open Go Go.RowKit Go.Deep
set_option maxHeartbeats 2000000 in
theorem divisor_calls (x y : Nat) (w : World) (hx : x < 18446744073709551616) (hy : y < 18446744073709551616) :
    Calls Try.prog 70 #[.int .u64 x, .int .u64 y] w fun e w' => e = .returned (.int .u64 ((Nat.gcd x y : Nat) : Int)) ∧ Cls w w' := by
  go_enter Try.func70, Try.ntmps70
  go_wp2_with fail
  go_loopw [0, 1] (fun s0 s1 wr => ∃ p q : Nat, p < 18446744073709551616 ∧ q < 18446744073709551616 ∧ s0 = .int .u64 p ∧ s1 = .int .u64 q ∧ Hid (Nat.gcd p q = Nat.gcd x y) ∧ Cls w wr) (fun _ s1 _ => (intOf s1).toNat)
  case atStart => exact ⟨x, y, hx, hy, rfl, rfl, Lib.hid rfl, Cls.of (Below.refl _ _)⟩
  case round =>
    obtain ⟨p, q, hp, hq, rfl, rfl, hG, z, rfl⟩ := hrel
    by_cases h0 : q = 0
    · subst h0
      go_wp2_with fail
      go_ret
      exact ⟨ret_int (by rw [← hG.out, Nat.gcd_zero_right]), z, rfl⟩
    · have HG : Hid (Nat.gcd q (p % q) = Nat.gcd x y) := Lib.hid (by rw [gcd_step _ _ (Nat.pos_of_ne_zero h0)]; exact hG.out)
      have HLT := Lib.hid (Nat.mod_lt p (Nat.pos_of_ne_zero h0))
      have d1 : ((q : Int) == 0) = false := by simp; omega
      have d2 : ((q : Int) != 0) = true := by simp; omega
      have H0 := Lib.hid h0
      have e1 : (p : Int).tmod (q : Int) = ((p % q : Nat) : Int) := by rw [Int.tmod_eq_emod_of_nonneg (by omega)]; omega
      have e2 : IntKind.u64.wrap ((p % q : Nat) : Int) = ((p % q : Nat) : Int) := u64_id (by have := HLT.out; omega)
      have h0' : ¬ ((q : Int) = 0) := by omega
      clear hG
      go_wp2_with fail
      refine wp_region_on (by kernel_rfl) (by kernel_rfl) ?_
      repeat (go_big_quiet_step (fail))
      refine wpQuiet_nil ?_
      rintro _ ⟨y1, rfl⟩
      clear e1 e2
      go_wp2_with fail
      go_roundw
      case rel => exact ⟨q, p % q, hq, by have := HLT.out; omega, rfl, by first | rfl | simp, HG, y1, rfl⟩
      case measure => have := HLT.out; first | (simp [intOf]; done) | (simp [intOf]; omega)
set_option maxHeartbeats 2000000 in
theorem magnitude_calls (n : Int) (w : World) (h0 : -9223372036854775808 ≤ n) (h1 : n ≤ 9223372036854775807) :
    Calls Try.prog 69 #[.int .i64 n] w fun e w' => e = .returned (.int .u64 (n.natAbs : Int)) ∧ w = w' := by
  obtain ⟨m, hm⟩ : ∃ m : Nat, m = n.natAbs := ⟨_, rfl⟩
  rw [← hm]
  by_cases hn : n < 0
  · have e1 : IntKind.u64.wrap n = 18446744073709551616 - (m : Int) := by rw [IntKind.wrap_u64]; omega
    have e2 : IntKind.u64.wrap (-(18446744073709551616 - (m : Int))) = (m : Int) := by rw [IntKind.wrap_u64]; omega
    clear hm
    go_enter Try.func69, Try.ntmps69
    go_wp2_with fail
    go_ret
    exact ⟨rfl, rfl⟩
  · have e1 : IntKind.u64.wrap n = (m : Int) := by rw [IntKind.wrap_u64]; omega
    clear hm
    go_enter Try.func69, Try.ntmps69
    go_wp2_with fail
    go_ret
    exact ⟨rfl, rfl⟩
set_option maxHeartbeats 4000000 in
theorem Valid_calls (n d : Int) (w : World) (h0 : -9223372036854775808 ≤ n) (h1 : n ≤ 9223372036854775807) (h2 : -9223372036854775808 ≤ d) (h3 : d ≤ 9223372036854775807) :
    Calls Try.prog 48 #[.agg #[.int .i64 n, .int .i64 d]] w fun e w' => e = .returned (.bool (vaB n d)) ∧ Cls w w' := by
  have C1 := Lib.hid (fun W => magnitude_calls n W h0 h1)
  by_cases hn : n.natAbs ≤ 100000000000000000
  · by_cases hd1 : 1 ≤ d
    · by_cases hd2 : d ≤ 100000000000000000
      · have hr : rngB n d = true := by unfold rngB; simp; omega
        have e : vaB n d = (Nat.gcd n.natAbs d.natAbs == 1) := by simp [vaB, hr]
        have C2 := Lib.hid (fun W => divisor_calls n.natAbs d.natAbs W (by omega) (by omega))
        rw [e]
        have e1 : IntKind.u64.wrap d = (d.natAbs : Int) := by rw [IntKind.wrap_u64]; omega
        have d1 : decide ((n.natAbs : Int) ≤ 100000000000000000) = true := decide_eq_true (by omega)
        have d2 : decide (1 ≤ d) = true := decide_eq_true hd1
        have d3 : decide (d ≤ 100000000000000000) = true := decide_eq_true hd2
        have HR : Hid ((Nat.gcd n.natAbs d.natAbs == 1) = (((Nat.gcd n.natAbs d.natAbs : Nat) : Int) == 1)) := Lib.hid (by rw [Bool.eq_iff_iff]; simp; omega)
        rw [HR.out]
        clear HR e hr
        generalize hdm : d.natAbs = dm at *
        generalize hnm : n.natAbs = nm at *
        clear hdm hnm
        generalize Nat.gcd nm dm = g at *
        go_enter Try.func48, Try.ntmps48
        go_wp2_with (first | (go_at_call 69; (with_reducible refine (C1.out _).mono ?_); rintro e _ ⟨rfl, rfl⟩) | (go_at_call 70; (with_reducible refine (C2.out _).mono ?_); rintro e _ ⟨rfl, ⟨y1, rfl⟩⟩))
        refine ret_ex rfl ?_
        simp [results, Try.results48, go_sem]
        refine Cls.of ?_
        repeat first | with_reducible exact Below.refl _ _ | with_reducible refine Below.setCell ?_ (by first | omega | (simp; done) | (simp; omega)) _ | with_reducible refine Below.alloc ?_ (by first | omega | (simp; done) | (simp; omega)) _ | with_reducible refine Below.drew ?_ | with_reducible refine Ext.on _ ?_ (by first | omega | (simp; done) | (simp; omega))
      · have e : vaB n d = false := by
          have hr : rngB n d = false := by unfold rngB; simp; omega
          simp [vaB, hr]
        rw [e]
        have d1 : decide ((n.natAbs : Int) ≤ 100000000000000000) = true := decide_eq_true (by omega)
        have d2 : decide (1 ≤ d) = true := decide_eq_true hd1
        have d3 : decide (d ≤ 100000000000000000) = false := decide_eq_false hd2
        clear e
        generalize hnm : n.natAbs = nm at *
        clear hnm
        go_enter Try.func48, Try.ntmps48
        go_wp2_with (go_at_call 69; (with_reducible refine (C1.out _).mono ?_); rintro e _ ⟨rfl, rfl⟩)
        refine ret_ex rfl ?_
        simp [results, Try.results48, go_sem]
        refine Cls.of ?_
        repeat first | with_reducible exact Below.refl _ _ | with_reducible refine Below.setCell ?_ (by first | omega | (simp; done) | (simp; omega)) _ | with_reducible refine Below.alloc ?_ (by first | omega | (simp; done) | (simp; omega)) _ | with_reducible refine Below.drew ?_ | with_reducible refine Ext.on _ ?_ (by first | omega | (simp; done) | (simp; omega))
    · have e : vaB n d = false := by
        have hr : rngB n d = false := by unfold rngB; simp; omega
        simp [vaB, hr]
      rw [e]
      have d1 : decide ((n.natAbs : Int) ≤ 100000000000000000) = true := decide_eq_true (by omega)
      have d2 : decide (1 ≤ d) = false := decide_eq_false hd1
      clear e
      generalize hnm : n.natAbs = nm at *
      clear hnm
      go_enter Try.func48, Try.ntmps48
      go_wp2_with (go_at_call 69; (with_reducible refine (C1.out _).mono ?_); rintro e _ ⟨rfl, rfl⟩)
      refine ret_ex rfl ?_
      simp [results, Try.results48, go_sem]
      refine Cls.of ?_
      repeat first | with_reducible exact Below.refl _ _ | with_reducible refine Below.setCell ?_ (by first | omega | (simp; done) | (simp; omega)) _ | with_reducible refine Below.alloc ?_ (by first | omega | (simp; done) | (simp; omega)) _ | with_reducible refine Below.drew ?_ | with_reducible refine Ext.on _ ?_ (by first | omega | (simp; done) | (simp; omega))
  · have e : vaB n d = false := by
      have hr : rngB n d = false := by unfold rngB; simp; omega
      simp [vaB, hr]
    rw [e]
    have d1 : decide ((n.natAbs : Int) ≤ 100000000000000000) = false := decide_eq_false (by omega)
    clear e
    generalize hnm : n.natAbs = nm at *
    clear hnm
    go_enter Try.func48, Try.ntmps48
    go_wp2_with (go_at_call 69; (with_reducible refine (C1.out _).mono ?_); rintro e _ ⟨rfl, rfl⟩)
    refine ret_ex rfl ?_
    simp [results, Try.results48, go_sem]
    refine Cls.of ?_
    repeat first | with_reducible exact Below.refl _ _ | with_reducible refine Below.setCell ?_ (by first | omega | (simp; done) | (simp; omega)) _ | with_reducible refine Below.alloc ?_ (by first | omega | (simp; done) | (simp; omega)) _ | with_reducible refine Below.drew ?_ | with_reducible refine Ext.on _ ?_ (by first | omega | (simp; done) | (simp; omega))
end Go.Proofs.Ytogjollefllajaa
