/-
  Two slices that hold the same numbers are the same to the law.
-/
import Derived.Test.YtilnnpeknkjjmaaFind2
set_option linter.unusedVariables false
namespace Go.Proofs.Ytilnnpeknkjjmaa
open Go Go.RowKit Go.Deep
set_option maxHeartbeats 2000000 in
set_option maxRecDepth 20000 in
theorem same_calls (s s' : Sl) (f : Nat → Int) (w : World) (h : SlAt w 1 s (intC f)) (h' : SlAt w 1 s' (intC f)) (hl : s.len = s'.len) :
    Calls Try.prog 7 #[.slice s.a s.len s.cap, .slice s'.a s'.len s'.cap] w fun r w' => r = .returned (.bool true) ∧ Cls w w' := by
  have hle := h.1
  have hmax := h.2.1
  have hle' := h'.1
  have hmax' := h'.2.1
  unfold maxLen at hmax hmax'
  have H := Lib.hid h
  have H' := Lib.hid h'
  clear h h'
  obtain ⟨a, n, c⟩ := s
  obtain ⟨a', n', c'⟩ := s'
  simp only at hl hle hmax hle' hmax' ⊢
  subst hl
  go_enter Try.func7, Try.ntmps7
  go_wp2_with fail
  go_loopw [5] (fun i wr => ∃ j : Nat, j ≤ n ∧ i = .int .i64 j ∧ Cls w wr) (fun i _ => n - (intOf i).toNat)
  case atStart => exact ⟨0, Nat.zero_le _, rfl, Cls.of (Below.refl _ _)⟩
  case round =>
    obtain ⟨j, hj, rfl, x, rfl⟩ := hrel
    by_cases hlt : j < n
    · obtain ⟨b, off, ha, hb, hc⟩ := H.out.2.2.2 j hlt
      obtain ⟨b', off', ha', hb', hc'⟩ := H'.out.2.2.2 j hlt
      simp only at ha ha'
      subst ha ha'
      have q := hc 0 (by omega)
      have q' := hc' 0 (by omega)
      simp only [intC, List.getElem?_cons_zero, Nat.add_zero, Nat.mul_one] at q q'
      clear hc hc'
      generalize f j = k at q q'
      go_wp2_with fail
      refine wp_region_on (by kernel_rfl) (by kernel_rfl) ?_
      repeat (go_big_quiet_step (fail))
      refine wpQuiet_nil ?_
      rintro _ ⟨y, rfl⟩
      go_wp2_with fail
      go_roundw
      case rel => exact ⟨j + 1, by omega, by go_num, y, rfl⟩
      case measure => simp [intOf]; omega
    · go_wp2_with fail
      go_ret
      exact ⟨ret_bool rfl, x, rfl⟩
end Go.Proofs.Ytilnnpeknkjjmaa
