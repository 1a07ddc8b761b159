/-
  The program's fractions: compared, and rounded down.
-/
import Derived.Test.YtogjollefllajaaFWide
set_option linter.unusedVariables false
namespace Go.Proofs.Ytogjollefllajaa
open Go Go.RowKit Go.Deep
theorem cmp_halves (a b : Int) : orI (cmpI (a / 18446744073709551616) (b / 18446744073709551616)) (cmpI (wLo a) (wLo b)) = cmpI a b := by
  unfold orI cmpI wLo
  by_cases h1 : a / 18446744073709551616 < b / 18446744073709551616
  · rw [if_pos h1, if_neg (by omega), if_pos (by omega)]
  · by_cases h2 : b / 18446744073709551616 < a / 18446744073709551616
    · rw [if_neg h1, if_pos h2, if_neg (by omega), if_neg (by omega), if_pos (by omega)]
    · rw [if_neg h1, if_neg h2, if_pos rfl]
      by_cases h3 : a % 18446744073709551616 < b % 18446744073709551616
      · rw [if_pos h3, if_pos (by omega)]
      · by_cases h4 : b % 18446744073709551616 < a % 18446744073709551616
        · rw [if_neg h3, if_pos h4, if_neg (by omega), if_pos (by omega)]
        · rw [if_neg h3, if_neg h4, if_neg (by omega), if_neg (by omega)]
/-- Is the number one of 128 bits with a sign? -/
def In128 (v : Int) : Prop := -170141183460469231731687303715884105728 ≤ v ∧ v < 170141183460469231731687303715884105728
theorem wHi_signed {v : Int} (h : In128 v) : IntKind.i64.wrap (wHi v) = v / 18446744073709551616 := by
  obtain ⟨h1, h2⟩ := h
  rw [IntKind.wrap_i64]
  unfold wHi
  omega
theorem Cls.same {w w' : World} (h : w = w') : Cls w w' := h ▸ Cls.of (Below.refl _ _)
set_option maxHeartbeats 4000000 in
set_option maxRecDepth 20000 in
theorem wcompare_calls (a b : Int) (w : World) (ha : In128 a) (hb : In128 b) :
    Calls Try.prog 50 #[.agg #[.int .u64 (wHi a), .int .u64 (wLo a)], .agg #[.int .u64 (wHi b), .int .u64 (wLo b)]] w fun e w' => e = .returned (.int .i64 (cmpI a b)) ∧ Cls w w' := by
  have f1 := wHi_signed ha
  have f2 := wHi_signed hb
  have HC := Lib.hid (cmp_halves a b)
  have C1 := Lib.hid (fun W => (cmpI64_calls (a / 18446744073709551616) (b / 18446744073709551616) W).mono fun _ _ ⟨he, hw⟩ => (⟨he, Cls.same hw⟩ : _ ∧ Cls W _))
  have C2 := Lib.hid (fun W => (cmpU64_calls (wLo a) (wLo b) W).mono fun _ _ ⟨he, hw⟩ => (⟨he, Cls.same hw⟩ : _ ∧ Cls W _))
  clear ha hb
  generalize cmpI a b = res at *
  generalize cmpI (a / 18446744073709551616) (b / 18446744073709551616) = r1 at *
  generalize cmpI (wLo a) (wLo b) = r2 at *
  generalize a / 18446744073709551616 = ah at *
  generalize b / 18446744073709551616 = bh at *
  generalize wHi a = h1 at *
  generalize wLo a = l1 at *
  generalize wHi b = h2 at *
  generalize wLo b = l2 at *
  go_enter Try.func50, Try.ntmps50
  go_wp2_with fail
  refine wp_region_ext_tail 12 (by kernel_rfl) (by kernel_rfl) ?_
  simp only [List.take_succ_cons, List.take_zero, List.drop_succ_cons, List.drop_zero]
  repeat (go_big_quiet_step (first | (go_at_call 73; with_reducible exact Cls.call (C1.out _)) | (go_at_call 74; with_reducible exact Cls.call (C2.out _))))
  refine wpQuiet_nil ?_
  rintro _ ⟨y, rfl⟩
  have ys := y.size
  simp at ys
  have C3 := Lib.hid (Or_calls y.val.heap.size r1 r2 (y.val.alloc (.cells #[.int .i64 r1, .int .i64 r2] 3)) (by simp) (by simp [go_sem]) (by simp [go_sem]))
  go_wp2_with (go_at_call 72; (with_reducible refine C3.out.mono ?_); rintro e _ ⟨rfl, rfl⟩)
  go_ret
  refine ⟨ret_int HC.out, Cls.of ?_⟩
  repeat first | with_reducible exact Below.refl _ _ | with_reducible refine Below.setCell ?_ (by first | omega | (simp; done) | (simp; omega)) _ | with_reducible refine Below.alloc ?_ (by first | omega | (simp; done) | (simp; omega)) _ | with_reducible refine Below.drew ?_ | with_reducible refine Ext.on _ ?_ (by first | omega | (simp; done) | (simp; omega))
/-- The difference of two valid fractions, times both denominators. -/
def crs (n d n' d' : Int) : Int := cmpI (n * d') (n' * d)
def cpF (n d n' d' : Int) : Int := if vaB n d = true then if vaB n' d' = true then crs n d n' d' else 0 else 0
theorem mul_in {n d : Int} (hn : -100000000000000000 ≤ n ∧ n ≤ 100000000000000000) (hd : -100000000000000000 ≤ d ∧ d ≤ 100000000000000000) : -10000000000000000000000000000000000 ≤ n * d ∧ n * d ≤ 10000000000000000000000000000000000 := by
  have h : (n * d).natAbs ≤ 100000000000000000 * 100000000000000000 := by
    rw [Int.natAbs_mul]
    exact Nat.mul_le_mul (by omega) (by omega)
  omega
theorem in128 {v : Int} (h : -10000000000000000000000000000000000 ≤ v ∧ v ≤ 10000000000000000000000000000000000) : In128 v := by
  unfold In128; omega
set_option maxHeartbeats 4000000 in
set_option maxRecDepth 20000 in
theorem Compare_calls (n d n' d' : Int) (w : World) (h0 : -9223372036854775808 ≤ n) (h1 : n ≤ 9223372036854775807) (h2 : -9223372036854775808 ≤ d) (h3 : d ≤ 9223372036854775807) (k0 : -9223372036854775808 ≤ n') (k1 : n' ≤ 9223372036854775807) (k2 : -9223372036854775808 ≤ d') (k3 : d' ≤ 9223372036854775807) :
    Calls Try.prog 24 #[.agg #[.int .i64 n, .int .i64 d], .agg #[.int .i64 n', .int .i64 d']] w fun e w' => e = .returned (.int .i64 (cpF n d n' d')) ∧ Cls w w' := by
  have C1 := Lib.hid (fun W => Valid_calls n d W h0 h1 h2 h3)
  have C2 := Lib.hid (fun W => Valid_calls n' d' W k0 k1 k2 k3)
  cases hv : vaB n d with
  | false =>
    have e : cpF n d n' d' = 0 := by simp [cpF, hv]
    rw [e]
    rw [hv] at C1
    clear h0 h1 h2 h3 k0 k1 k2 k3 hv e
    go_enter Try.func24, Try.ntmps24
    go_wp2_with (go_at_call 48; (with_reducible refine (C1.out _).mono ?_); rintro e _ ⟨rfl, ⟨y1, rfl⟩⟩)
    go_ret
    refine ⟨rfl, Cls.of ?_⟩
    repeat first | with_reducible exact Below.refl _ _ | with_reducible refine Below.setCell ?_ (by first | omega | (simp; done) | (simp; omega)) _ | with_reducible refine Below.alloc ?_ (by first | omega | (simp; done) | (simp; omega)) _ | with_reducible refine Below.drew ?_ | with_reducible refine Ext.on _ ?_ (by first | omega | (simp; done) | (simp; omega))
  | true =>
    cases hv' : vaB n' d' with
    | false =>
      have e : cpF n d n' d' = 0 := by simp [cpF, hv']
      rw [e]
      rw [hv] at C1
      rw [hv'] at C2
      clear h0 h1 h2 h3 k0 k1 k2 k3 hv hv' e
      go_enter Try.func24, Try.ntmps24
      go_wp2_with (first | (go_at_call 48; (with_reducible refine (C1.out _).mono ?_); rintro e _ ⟨rfl, ⟨y1, rfl⟩⟩; have ys := y1.size; (try simp at ys)) | (go_at_call 48; (with_reducible refine (C2.out _).mono ?_); rintro e _ ⟨rfl, ⟨y2, rfl⟩⟩))
      go_ret
      refine ⟨rfl, Cls.of ?_⟩
      repeat first | with_reducible exact Below.refl _ _ | with_reducible refine Below.setCell ?_ (by first | omega | (simp; done) | (simp; omega)) _ | with_reducible refine Below.alloc ?_ (by first | omega | (simp; done) | (simp; omega)) _ | with_reducible refine Below.drew ?_ | with_reducible refine Ext.on _ ?_ (by first | omega | (simp; done) | (simp; omega))
    | true =>
      have e : cpF n d n' d' = cmpI (n * d') (n' * d) := by simp [cpF, crs, hv, hv']
      obtain ⟨a1, a2, a3, a4⟩ := rngB_all (n := n) (d := d) (by unfold vaB at hv; simp at hv; exact hv.1)
      obtain ⟨b1, b2, b3, b4⟩ := rngB_all (n := n') (d := d') (by unfold vaB at hv'; simp at hv'; exact hv'.1)
      have C3 := Lib.hid (fun W => product_calls n d' W ⟨h0, h1⟩ ⟨k2, k3⟩)
      have C4 := Lib.hid (fun W => product_calls n' d W ⟨k0, k1⟩ ⟨h2, h3⟩)
      have C5 := Lib.hid (fun W => wcompare_calls (n * d') (n' * d) W (in128 (mul_in ⟨a3, a4⟩ ⟨by omega, b2⟩)) (in128 (mul_in ⟨b3, b4⟩ ⟨by omega, a2⟩)))
      rw [e]
      rw [hv] at C1
      rw [hv'] at C2
      generalize cmpI (n * d') (n' * d) = res at *
      generalize wHi (n * d') = p1 at *
      generalize wLo (n * d') = p2 at *
      generalize wHi (n' * d) = p3 at *
      generalize wLo (n' * d) = p4 at *
      clear h0 h1 h2 h3 k0 k1 k2 k3 hv hv' e a1 a2 a3 a4 b1 b2 b3 b4
      go_enter Try.func24, Try.ntmps24
      go_wp2_with (first | (go_at_call 48; (with_reducible refine (C1.out _).mono ?_); rintro e _ ⟨rfl, ⟨y1, rfl⟩⟩; have ys := y1.size; (try simp at ys)) | (go_at_call 48; (with_reducible refine (C2.out _).mono ?_); rintro e _ ⟨rfl, ⟨y2, rfl⟩⟩; have y2s := y2.size))
      have hs1 : w.heap.size < y1.val.heap.size := by omega
      have hs2 : w.heap.size + 1 < y1.val.heap.size := by omega
      have hs3 : w.heap.size < y2.val.heap.size := by omega
      have hs4 : w.heap.size + 1 < y2.val.heap.size := by omega
      refine wp_region_ext (by kernel_rfl) (by kernel_rfl) ?_
      repeat (go_big_quiet_step (first | (go_at_call 49; with_reducible exact Cls.call (C3.out _)) | (go_at_call 49; with_reducible exact Cls.call (C4.out _)) | (go_at_call 50; with_reducible exact Cls.call (C5.out _))))
      refine wpQuiet_nil ?_
      rintro _ ⟨y, rfl⟩
      go_wp2_with fail
      go_ret
      refine ⟨rfl, Cls.of ?_⟩
      repeat first | with_reducible exact Below.refl _ _ | with_reducible refine Below.setCell ?_ (by first | omega | (simp; done) | (simp; omega)) _ | with_reducible refine Below.alloc ?_ (by first | omega | (simp; done) | (simp; omega)) _ | with_reducible refine Below.drew ?_ | with_reducible refine Ext.on _ ?_ (by first | omega | (simp; done) | (simp; omega))
end Go.Proofs.Ytogjollefllajaa
