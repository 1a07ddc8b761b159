/-
  The law of valid systems and of their solutions, walked.
-/
import Derived.Test.YtogjollefllajaaLOpen
import Derived.Test.YtogjollefllajaaLChkR
import Derived.Test.YtogjollefllajaaLChk
import Derived.WalkKit
set_option linter.unusedVariables false
namespace Go.Proofs.Ytogjollefllajaa
open Go Go.RowKit Go.Deep
/-- The empty system. -/
def Sy.z : Sy := ⟨⟨none, 0, 0⟩, ⟨none, 0, 0⟩, ⟨none, 0, 0⟩, fun _ => 0, fun _ => ⟨none, 0, 0⟩, fun _ _ => 0, fun _ => 0⟩
theorem ints_z (w : World) (f : Nat → Int) : IntsA w ⟨none, 0, 0⟩ f := ⟨Nat.le_refl _, Nat.zero_le _, .inl rfl⟩
theorem sys_z (w : World) : SysA w Sy.z := ⟨ints_z w _, ⟨Nat.le_refl _, Nat.zero_le _, fun i hi => absurd hi (Nat.not_lt_zero _), .inl rfl⟩, ints_z w _⟩
theorem cs_z : csB Sy.z 0 (fun _ => 0) (fun _ => 0) = true := by decide
theorem zero_calls (W : World) : Calls Try.prog 9 #[.agg #[.slice none 0 0, .slice none 0 0, .slice none 0 0], .slice none 0 0] W fun e w' => e = .returned (.bool true) ∧ Cls W w' := by
  have := lcheck_calls Sy.z none 0 0 (fun _ => 0) (fun _ => 0) W (sys_z W) ⟨Nat.le_refl _, Nat.zero_le _, .inl rfl⟩ (fun i hi => absurd hi (Nat.not_lt_zero _)) (by decide)
  rw [cs_z] at this
  exact this
set_option maxHeartbeats 16000000 in
set_option maxRecDepth 20000 in
theorem linearChecks_walk (y : Sy) (s : Sl) (fn fd : Nat → Int) (w : World) (h : SysA w y) (hx : FrsA w s fn fd ∧ ∀ i, i < s.len → In64 (fn i) ∧ In64 (fd i)) :
    Calls Try.prog 3 #[y.v, .slice s.a s.len s.cap] w fun e w' => e = .returned (.bool true) ∧ Below w.heap.size w w' := by
  obtain ⟨a, n, c⟩ := s
  simp only at hx ⊢
  obtain ⟨hx, hi⟩ := hx
  have hnc := hx.1
  have hcm := hx.2.1
  unfold maxLen at hcm
  simp only at hnc hcm
  have C1 := Lib.hid (fun (W : World) (hb : Below w.heap.size w W) => Few_calls y W (h.later hb))
  have C2 := Lib.hid (fun (W : World) (hb : Below w.heap.size w W) => lValid_calls y W (h.later hb))
  have C3 := Lib.hid (fun (W : World) (hb : Below w.heap.size w W) => rlValid_calls y W (h.later hb))
  have C6 := Lib.hid zero_calls
  by_cases h12 : n ≤ 12
  · have d1 : decide ((12 : Int) < ((n : Nat) : Int)) = false := decide_eq_false (by omega)
    have C4 := Lib.hid (fun (W : World) (hb : Below w.heap.size w W) => lcheck_calls y a n c fn fd W (h.later hb) (hx.later hb) hi (by omega))
    have C5 := Lib.hid (fun (W : World) (hb : Below w.heap.size w W) => rcheck_calls y a n c fn fd W (h.later hb) (hx.later hb) hi (by omega))
    unfold Sy.v at *
    clear h hx hi
    generalize vaS y = va at *
    generalize csB y n fn fd = cs at *
    generalize y.U.a = ua at *
    generalize y.U.len = un at *
    generalize y.U.cap = uc at *
    generalize y.R.a = ra at *
    generalize y.R.len = rn at *
    generalize y.R.cap = rc at *
    generalize y.B.a = ba at *
    generalize y.B.len = bn at *
    generalize y.B.cap = bc at *
    go_enter Try.func3, Try.ntmps3
    go_wp2_with (go_at_call 6; (with_reducible refine Calls.mono (C1.out _ ?_) ?_); (focus (repeat first | with_reducible exact Below.refl _ _ | with_reducible refine Below.setCell ?_ (by first | omega | (simp; done) | (simp; omega)) _ | with_reducible refine Below.alloc ?_ (by first | omega | (simp; done) | (simp; omega)) _ | with_reducible refine Below.drew ?_ | with_reducible refine Ext.on _ ?_ (by first | omega | (simp; done) | (simp; omega)))); rintro e _ ⟨fb, rfl, _, ⟨x, rfl⟩⟩; have xs := x.size; (try simp at xs); have xa : w.heap.size < x.val.heap.size := (by omega); obtain ⟨hx0, c0, c1, c2⟩ := three_s ((x.below.block w.heap.size (by simp)).trans (heap_alloc_new w _)))
    · refine wp_region_ext (by kernel_rfl) (by kernel_rfl) ?_
      repeat (go_big_quiet_step (first | (go_at_call 7; ((with_reducible refine Cls.call (C2.out _ ?_)); repeat first | with_reducible exact Below.refl _ _ | with_reducible refine Below.setCell ?_ (by first | omega | (simp; done) | (simp; omega)) _ | with_reducible refine Below.alloc ?_ (by first | omega | (simp; done) | (simp; omega)) _ | with_reducible refine Below.drew ?_ | with_reducible refine Ext.on _ ?_ (by first | omega | (simp; done) | (simp; omega)))) | (go_at_call 8; ((with_reducible refine Cls.call (C3.out _ ?_)); repeat first | with_reducible exact Below.refl _ _ | with_reducible refine Below.setCell ?_ (by first | omega | (simp; done) | (simp; omega)) _ | with_reducible refine Below.alloc ?_ (by first | omega | (simp; done) | (simp; omega)) _ | with_reducible refine Below.drew ?_ | with_reducible refine Ext.on _ ?_ (by first | omega | (simp; done) | (simp; omega)))) | (go_at_call 10; ((with_reducible refine Cls.call (C5.out _ ?_)); repeat first | with_reducible exact Below.refl _ _ | with_reducible refine Below.setCell ?_ (by first | omega | (simp; done) | (simp; omega)) _ | with_reducible refine Below.alloc ?_ (by first | omega | (simp; done) | (simp; omega)) _ | with_reducible refine Below.drew ?_ | with_reducible refine Ext.on _ ?_ (by first | omega | (simp; done) | (simp; omega)))) | (go_at_call 9; ((with_reducible refine Cls.call (C4.out _ ?_)); repeat first | with_reducible exact Below.refl _ _ | with_reducible refine Below.setCell ?_ (by first | omega | (simp; done) | (simp; omega)) _ | with_reducible refine Below.alloc ?_ (by first | omega | (simp; done) | (simp; omega)) _ | with_reducible refine Below.drew ?_ | with_reducible refine Ext.on _ ?_ (by first | omega | (simp; done) | (simp; omega)))) | (go_at_call 9; with_reducible exact Cls.call (C6.out _))))
      refine wpQuiet_nil ?_
      rintro _ ⟨z, rfl⟩
      go_wp2_with fail
      go_ret
      refine ⟨rfl, ?_⟩
      repeat first | with_reducible exact Below.refl _ _ | with_reducible refine Below.setCell ?_ (by first | omega | (simp; done) | (simp; omega)) _ | with_reducible refine Below.alloc ?_ (by first | omega | (simp; done) | (simp; omega)) _ | with_reducible refine Below.drew ?_ | with_reducible refine Ext.on _ ?_ (by first | omega | (simp; done) | (simp; omega))
    · go_ret
      refine ⟨rfl, ?_⟩
      repeat first | with_reducible exact Below.refl _ _ | with_reducible refine Below.setCell ?_ (by first | omega | (simp; done) | (simp; omega)) _ | with_reducible refine Below.alloc ?_ (by first | omega | (simp; done) | (simp; omega)) _ | with_reducible refine Below.drew ?_ | with_reducible refine Ext.on _ ?_ (by first | omega | (simp; done) | (simp; omega))
  · have d1 : decide ((12 : Int) < ((n : Nat) : Int)) = true := decide_eq_true (by omega)
    unfold Sy.v at *
    clear h hx hi C2 C3 C6
    go_enter Try.func3, Try.ntmps3
    go_wp2_with (go_at_call 6; (with_reducible refine Calls.mono (C1.out _ ?_) ?_); (focus (repeat first | with_reducible exact Below.refl _ _ | with_reducible refine Below.setCell ?_ (by first | omega | (simp; done) | (simp; omega)) _ | with_reducible refine Below.alloc ?_ (by first | omega | (simp; done) | (simp; omega)) _ | with_reducible refine Below.drew ?_ | with_reducible refine Ext.on _ ?_ (by first | omega | (simp; done) | (simp; omega)))); rintro e _ ⟨fb, rfl, _, ⟨x, rfl⟩⟩; have xs := x.size; (try simp at xs); have xa : w.heap.size < x.val.heap.size := (by omega); obtain ⟨hx0, c0, c1, c2⟩ := three_s ((x.below.block w.heap.size (by simp)).trans (heap_alloc_new w _)))
    all_goals
      go_ret
      refine ⟨rfl, ?_⟩
      repeat first | with_reducible exact Below.refl _ _ | with_reducible refine Below.setCell ?_ (by first | omega | (simp; done) | (simp; omega)) _ | with_reducible refine Below.alloc ?_ (by first | omega | (simp; done) | (simp; omega)) _ | with_reducible refine Below.drew ?_ | with_reducible refine Ext.on _ ?_ (by first | omega | (simp; done) | (simp; omega))
end Go.Proofs.Ytogjollefllajaa
