/-
  The reference's numbers: of an absolute value, and compared.
-/
import Derived.Test.YtogjollefllajaaFBase
set_option linter.unusedVariables false
namespace Go.Proofs.Ytogjollefllajaa
open Go Go.RowKit Go.Deep
def cmpN (a b : Nat) : Int := if a < b then -1 else if b < a then 1 else 0
theorem of_digits (m : Nat) (h : m < 18446744073709551616) : vl [m % 1000000000, m / 1000000000 % 1000000000, m / 1000000000 / 1000000000] = m ∧ Dg [m % 1000000000, m / 1000000000 % 1000000000, m / 1000000000 / 1000000000] := by
  constructor
  · simp only [vl]; omega
  · intro d hd
    simp at hd
    rcases hd with rfl | rfl | rfl <;> omega
set_option maxHeartbeats 2000000 in
theorem of_calls (n : Int) (w : World) (h0 : -9223372036854775808 ≤ n) (h1 : n ≤ 9223372036854775807) :
    Calls Try.prog 55 #[.int .i64 n] w fun e w' => ∃ s : Sl, e = .returned (.slice s.a s.len s.cap) ∧ NumAt w' s n.natAbs ∧ Cls w w' := by
  obtain ⟨m, hm⟩ : ∃ m : Nat, m = n.natAbs := ⟨_, rfl⟩
  have hm1 : m < 18446744073709551616 := by omega
  obtain ⟨hv, hdg⟩ := of_digits m hm1
  have C1 : Hid (UAt (w.alloc (.cells #[.int .u64 ((m : Int) % 1000000000), .int .u64 ((m : Int) / 1000000000 % 1000000000), .int .u64 ((m : Int) / 1000000000 / 1000000000)] 82)) ⟨some ⟨w.heap.size, 0, none⟩, 3, 3⟩ [m % 1000000000, m / 1000000000 % 1000000000, m / 1000000000 / 1000000000]) := Lib.hid (UAt.new w _ _ _ 3 rfl (by simp [flatU]) (by simp))
  have C2 := Lib.hid (trimmed C1.out hdg)
  have C3 := Lib.hid (trim_calls _ _ _ _ _ C1.out hdg)
  rw [hv] at C2 C3
  have HM := Lib.hid hm
  clear hv hdg C1
  by_cases hn : n < 0
  · have e1 : IntKind.u64.wrap n = 18446744073709551616 - (m : Int) := by rw [IntKind.wrap_u64]; omega
    have e2 : IntKind.u64.wrap (-(18446744073709551616 - (m : Int))) = (m : Int) := by rw [IntKind.wrap_u64]; omega
    clear hm
    go_enter Try.func55, Try.ntmps55
    go_wp2_with (go_at_call 84; (with_reducible refine C3.out.mono ?_); rintro e _ ⟨rfl, rfl⟩)
    go_ret
    exact ⟨⟨_, _, _⟩, rfl, by rw [← HM.out]; exact C2.out, Cls.of ((Below.refl _ _).alloc (Nat.le_refl _) _)⟩
  · have e1 : IntKind.u64.wrap n = (m : Int) := by rw [IntKind.wrap_u64]; omega
    clear hm
    go_enter Try.func55, Try.ntmps55
    go_wp2_with (go_at_call 84; (with_reducible refine C3.out.mono ?_); rintro e _ ⟨rfl, rfl⟩)
    go_ret
    exact ⟨⟨_, _, _⟩, rfl, by rw [← HM.out]; exact C2.out, Cls.of ((Below.refl _ _).alloc (Nat.le_refl _) _)⟩
theorem cmpN_len {a b : Nat} (h : (digs a).length < (digs b).length) : cmpN a b = -1 := by have := lt_of_len_lt h; simp [cmpN, this]
theorem cmpN_len' {a b : Nat} (h : (digs b).length < (digs a).length) : cmpN a b = 1 := by have := lt_of_len_lt h; unfold cmpN; rw [if_neg (by omega), if_pos this]
theorem cmpN_lt {a b : Nat} (h : a < b) : cmpN a b = -1 := by simp [cmpN, h]
theorem cmpN_gt {a b : Nat} (h : b < a) : cmpN a b = 1 := by unfold cmpN; rw [if_neg (by omega), if_pos h]
theorem cmpN_digs {a b : Nat} (h : digs a = digs b) : cmpN a b = 0 := by
  have : a = b := by rw [← vl_digs a, h, vl_digs]
  simp [cmpN, this]
set_option maxHeartbeats 4000000 in
theorem compare_calls (a : Option Addr) (n c : Nat) (a' : Option Addr) (n' c' : Nat) (x y : Nat) (w : World) (h : NumAt w ⟨a, n, c⟩ x) (h' : NumAt w ⟨a', n', c'⟩ y) :
    Calls Try.prog 53 #[.slice a n c, .slice a' n' c'] w fun e w' => e = .returned (.int .i64 (cmpN x y)) ∧ Cls w w' := by
  have hle : n ≤ c := h.2.1
  have hmax : c ≤ maxLen := h.2.2.1
  have hle' : n' ≤ c' := h'.2.1
  have hmax' : c' ≤ maxLen := h'.2.2.1
  unfold maxLen at hmax hmax'
  have HL : Hid (n = (digs x).length) := Lib.hid h.1
  have HL' : Hid (n' = (digs y).length) := Lib.hid h'.1
  have H := Lib.hid h.2.2.2
  have H' := Lib.hid h'.2.2.2
  clear h h'
  by_cases hnn : n = n'
  · subst hnn
    go_enter Try.func53, Try.ntmps53
    go_wp2_with fail
    go_loopw [5] (fun i wr => ∃ k : Nat, k ≤ n ∧ i = .int .i64 ((k : Int) - 1) ∧ Hid ((digs x).drop k = (digs y).drop k) ∧ Cls w wr) (fun i _ => (intOf i + 1).toNat)
    case atStart => exact ⟨n, Nat.le_refl _, rfl, Lib.hid (by rw [List.drop_eq_nil_of_le (by rw [← HL.out]; exact Nat.le_refl _), List.drop_eq_nil_of_le (by rw [← HL'.out]; exact Nat.le_refl _)]), Cls.of (Below.refl _ _)⟩
    case round =>
      obtain ⟨k, hk, rfl, hd, xw, rfl⟩ := hrel
      by_cases h0 : 0 < k
      · obtain ⟨j, rfl⟩ : ∃ j, k = j + 1 := ⟨k - 1, by omega⟩
        obtain ⟨b, off, ea, hb, hcell⟩ := H.out.resolve_left (by show ¬ n = 0; omega)
        obtain ⟨b', off', ea', hb', hcell'⟩ := H'.out.resolve_left (by show ¬ n = 0; omega)
        have ea1 : a = some ⟨b, off, none⟩ := ea
        have ea2 : a' = some ⟨b', off', none⟩ := ea'
        subst ea1 ea2
        clear ea ea'
        have q := hcell j (by show j < n; omega)
        have q' := hcell' j (by show j < n; omega)
        have G1 : Hid ((digs x).getD j 0 < (digs y).getD j 0 → cmpN x y = -1) := Lib.hid fun hlt => cmpN_lt (by have := lt_of_digit (dg_digs x) (by rw [← HL.out, ← HL'.out]) (by rw [← HL.out]; omega) hd.out hlt; rwa [vl_digs, vl_digs] at this)
        have G2 : Hid ((digs y).getD j 0 < (digs x).getD j 0 → cmpN x y = 1) := Lib.hid fun hlt => cmpN_gt (by have := lt_of_digit (dg_digs y) (by rw [← HL.out, ← HL'.out]) (by rw [← HL'.out]; omega) hd.out.symm hlt; rwa [vl_digs, vl_digs] at this)
        have G3 : Hid ((digs x).getD j 0 = (digs y).getD j 0 → (digs x).drop j = (digs y).drop j) := Lib.hid fun he => drop_step (by rw [← HL.out]; omega) (by rw [← HL.out, ← HL'.out]) hd.out he
        clear hcell hcell' hd
        generalize (digs x).getD j 0 = u at *
        generalize (digs y).getD j 0 = v at *
        have e0 : ((j + 1 : Nat) : Int) - 1 = (j : Int) := by omega
        rw [e0]
        clear e0
        have hbx : b < xw.val.heap.size := Nat.lt_of_lt_of_le hb xw.size
        have hbx' : b' < xw.val.heap.size := Nat.lt_of_lt_of_le hb' xw.size
        rcases Nat.lt_trichotomy u v with hlt | rfl | hlt
        · have GG := Lib.hid (G1.out hlt)
          have d1 : decide (u < v) = true := decide_eq_true hlt
          clear G1 G2 G3 hlt
          go_wp2_with fail
          refine wp_region_on (by kernel_rfl) (by kernel_rfl) ?_
          repeat (go_big_quiet_step (fail))
          refine wpQuiet_nil ?_
          rintro _ ⟨y, rfl⟩
          go_wp2_with fail
          go_ret
          exact ⟨ret_int GG.out.symm, y, rfl⟩
        · have GG := Lib.hid (G3.out rfl)
          have d1 : decide (u < u) = false := by simp
          clear G1 G2 G3
          go_wp2_with fail
          refine wp_region_on (by kernel_rfl) (by kernel_rfl) ?_
          repeat (go_big_quiet_step (fail))
          refine wpQuiet_nil ?_
          rintro _ ⟨y, rfl⟩
          go_wp2_with fail
          refine wp_region_on (by kernel_rfl) (by kernel_rfl) ?_
          repeat (go_big_quiet_step (fail))
          refine wpQuiet_nil ?_
          rintro _ ⟨z, rfl⟩
          go_wp2_with fail
          go_roundw
          case rel => exact ⟨j, by omega, rfl, GG, z, rfl⟩
          case measure => first | (simp [intOf]; done) | (simp [intOf]; omega)
        · have GG := Lib.hid (G2.out hlt)
          have d1 : decide (u < v) = false := decide_eq_false (by omega)
          have d2 : decide (v < u) = true := decide_eq_true hlt
          clear G1 G2 G3 hlt
          go_wp2_with fail
          refine wp_region_on (by kernel_rfl) (by kernel_rfl) ?_
          repeat (go_big_quiet_step (fail))
          refine wpQuiet_nil ?_
          rintro _ ⟨y, rfl⟩
          go_wp2_with fail
          refine wp_region_on (by kernel_rfl) (by kernel_rfl) ?_
          repeat (go_big_quiet_step (fail))
          refine wpQuiet_nil ?_
          rintro _ ⟨z, rfl⟩
          go_wp2_with fail
          go_ret
          exact ⟨ret_int GG.out.symm, z, rfl⟩
      · obtain rfl : k = 0 := by omega
        go_wp2_with fail
        go_ret
        exact ⟨ret_int (cmpN_digs (by simpa using hd.out)).symm, xw, rfl⟩
  · have b5 : ((n : Int) != (n' : Int)) = true := by simp; omega
    by_cases hlt : n < n'
    · have HR := Lib.hid (cmpN_len (a := x) (b := y) (by rw [← HL.out, ← HL'.out]; exact hlt))
      have d1 : decide (n < n') = true := by simpa using hlt
      go_enter Try.func53, Try.ntmps53
      go_wp2_with fail
      go_ret
      exact ⟨ret_int HR.out.symm, Cls.of (Below.refl _ _)⟩
    · have HR := Lib.hid (cmpN_len' (a := x) (b := y) (by rw [← HL.out, ← HL'.out]; omega))
      have d1 : decide (n < n') = false := by simpa using hlt
      go_enter Try.func53, Try.ntmps53
      go_wp2_with fail
      go_ret
      exact ⟨ret_int HR.out.symm, Cls.of (Below.refl _ _)⟩
end Go.Proofs.Ytogjollefllajaa
