/-
  The program's natural numbers: how they compare.
-/
import Derived.Test.YtogjollefllajaaLNat1
set_option linter.unusedVariables false
namespace Go.Proofs.Ytogjollefllajaa
open Go Go.RowKit Go.Deep
set_option maxHeartbeats 4000000 in
theorem lcompare_calls (a : Option Addr) (n c : Nat) (a' : Option Addr) (n' c' : Nat) (x y : Nat) (w : World) (h : NatAt w ⟨a, n, c⟩ x) (h' : NatAt w ⟨a', n', c'⟩ y) :
    Calls Try.prog 61 #[.slice a n c, .slice a' n' c'] w fun e w' => e = .returned (.int .i64 (cmpN x y)) ∧ Cls w w' := by
  have hle : n ≤ c := h.2.1
  have hmax : c ≤ maxLen := h.2.2.1
  have hle' : n' ≤ c' := h'.2.1
  have hmax' : c' ≤ maxLen := h'.2.2.1
  unfold maxLen at hmax hmax'
  have HL : Hid (n = (wdigs x).length) := Lib.hid h.1
  have HL' : Hid (n' = (wdigs y).length) := Lib.hid h'.1
  have H := Lib.hid h.2.2.2
  have H' := Lib.hid h'.2.2.2
  clear h h'
  by_cases hnn : n = n'
  · subst hnn
    go_enter Try.func61, Try.ntmps61
    go_wp2_with fail
    go_loopw [5] (fun i wr => ∃ k : Nat, k ≤ n ∧ i = .int .i64 ((k : Int) - 1) ∧ Hid ((wdigs x).drop k = (wdigs y).drop k) ∧ Cls w wr) (fun i _ => (intOf i + 1).toNat)
    case atStart => exact ⟨n, Nat.le_refl _, rfl, Lib.hid (by rw [List.drop_eq_nil_of_le (by rw [← HL.out]; exact Nat.le_refl _), List.drop_eq_nil_of_le (by rw [← HL'.out]; exact Nat.le_refl _)]), Cls.of (Below.refl _ _)⟩
    case round =>
      obtain ⟨k, hk, rfl, hd, xw, rfl⟩ := hrel
      by_cases h0 : 0 < k
      · obtain ⟨j, rfl⟩ : ∃ j, k = j + 1 := ⟨k - 1, by omega⟩
        obtain ⟨b, off, ea, hb, hcell⟩ := H.out.resolve_left (by show ¬ n = 0; omega)
        obtain ⟨b', off', ea', hb', hcell'⟩ := H'.out.resolve_left (by show ¬ n = 0; omega)
        have ea1 : a = some ⟨b, off, none⟩ := ea
        have ea2 : a' = some ⟨b', off', none⟩ := ea'
        subst ea1 ea2
        clear ea ea'
        have q := hcell j (by show j < n; omega)
        have q' := hcell' j (by show j < n; omega)
        have G1 : Hid ((wdigs x).getD j 0 < (wdigs y).getD j 0 → cmpN x y = -1) := Lib.hid fun hlt => cmpN_lt (by have := wlt_of_digit (wdg_digs x) (by rw [← HL.out, ← HL'.out]) (by rw [← HL.out]; omega) hd.out hlt; rwa [wvl_digs, wvl_digs] at this)
        have G2 : Hid ((wdigs y).getD j 0 < (wdigs x).getD j 0 → cmpN x y = 1) := Lib.hid fun hlt => cmpN_gt (by have := wlt_of_digit (wdg_digs y) (by rw [← HL.out, ← HL'.out]) (by rw [← HL'.out]; omega) hd.out.symm hlt; rwa [wvl_digs, wvl_digs] at this)
        have G3 : Hid ((wdigs x).getD j 0 = (wdigs y).getD j 0 → (wdigs x).drop j = (wdigs y).drop j) := Lib.hid fun he => wdrop_step (by rw [← HL.out]; omega) (by rw [← HL.out, ← HL'.out]) hd.out he
        clear hcell hcell' hd
        generalize (wdigs x).getD j 0 = u at *
        generalize (wdigs y).getD j 0 = v at *
        have e0 : ((j + 1 : Nat) : Int) - 1 = (j : Int) := by omega
        rw [e0]
        clear e0
        have hbx : b < xw.val.heap.size := Nat.lt_of_lt_of_le hb xw.size
        have hbx' : b' < xw.val.heap.size := Nat.lt_of_lt_of_le hb' xw.size
        have G4 : Hid (u ≠ v → cmpI (u : Int) (v : Int) = cmpN x y) := Lib.hid fun hne => by
          rcases Nat.lt_or_gt_of_ne hne with hlt | hlt
          · rw [G1.out hlt]; unfold cmpI; rw [if_pos (by omega)]
          · rw [G2.out hlt]; unfold cmpI; rw [if_neg (by omega), if_pos (by omega)]
        clear G1 G2
        by_cases huv : u = v
        · subst huv
          have GG := Lib.hid (G3.out rfl)
          clear G3 G4
          go_wp2_with fail
          refine wp_region_on (by kernel_rfl) (by kernel_rfl) ?_
          repeat (go_big_quiet_step (fail))
          refine wpQuiet_nil ?_
          rintro _ ⟨z, rfl⟩
          go_wp2_with fail
          go_roundw
          case rel => exact ⟨j, by omega, rfl, GG, z, rfl⟩
          case measure => first | (simp [intOf]; done) | (simp [intOf]; omega)
        · have C1 := Lib.hid (fun W => (cmpU64_calls (u : Int) (v : Int) W).mono fun _ _ h => And.intro h.1 (Cls.same h.2))
          rw [G4.out huv] at C1
          have d1 : ((u : Int) == (v : Int)) = false := by simp; omega
          clear G3 G4 huv
          generalize hr : cmpN x y = r at *
          have HR := Lib.hid hr
          clear hr
          go_wp2_with fail
          refine wp_region_on (by kernel_rfl) (by kernel_rfl) ?_
          repeat (go_big_quiet_step (fail))
          refine wpQuiet_nil ?_
          rintro _ ⟨y, rfl⟩
          have ysz := y.size
          go_wp2_with fail
          refine wp_region_on (by kernel_rfl) (by kernel_rfl) ?_
          repeat (go_big_quiet_step (first | (go_at_call 74; with_reducible exact Cls.call (C1.out _))))
          refine wpQuiet_nil ?_
          rintro _ ⟨z, rfl⟩
          go_wp2_with fail
          go_ret
          exact ⟨ret_int HR.out.symm, z, rfl⟩
      · obtain rfl : k = 0 := by omega
        go_wp2_with fail
        go_ret
        exact ⟨ret_int (wcmpN_digs (by simpa using hd.out)).symm, xw, rfl⟩
  · have b5 : ((n : Int) != (n' : Int)) = true := by simp; omega
    have C0 : Hid (∀ W, Calls Try.prog 85 #[.int .i64 n, .int .i64 n'] W fun e w' => e = .returned (.int .i64 (cmpN x y)) ∧ W = w') := Lib.hid fun W => by
      have e : cmpI (n : Int) (n' : Int) = cmpN x y := by
        by_cases hlt : n < n'
        · rw [wcmpN_len (by rw [← HL.out, ← HL'.out]; exact hlt)]; unfold cmpI; rw [if_pos (by omega)]
        · rw [wcmpN_len' (by rw [← HL.out, ← HL'.out]; omega)]; unfold cmpI; rw [if_neg (by omega), if_pos (by omega)]
      rw [← e]; exact cmpInt_calls _ _ W
    generalize cmpN x y = r at *
    go_enter Try.func61, Try.ntmps61
    go_wp2_with (go_at_call 85; (with_reducible refine (C0.out _).mono ?_); rintro e _ ⟨rfl, rfl⟩)
    go_ret
    exact ⟨rfl, Cls.of (Below.refl _ _)⟩
end Go.Proofs.Ytogjollefllajaa
