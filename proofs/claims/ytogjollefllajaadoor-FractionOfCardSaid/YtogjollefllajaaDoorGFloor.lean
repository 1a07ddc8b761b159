/-
  The reference's fractions: rounded down.
-/
import Derived.Test.YtogjollefllajaaDoorFOrdM
set_option linter.unusedVariables false
namespace Go.Proofs.YtogjollefllajaaDoor
open Go Go.RowKit Go.Deep
set_option maxHeartbeats 4000000 in
set_option maxRecDepth 20000 in
theorem rFloor_calls (n d : Int) (w : World) (h0 : -9223372036854775808 ≤ n) (h1 : n ≤ 9223372036854775807) (h2 : -9223372036854775808 ≤ d) (h3 : d ≤ 9223372036854775807) :
    Calls Tryd.prog 9 #[.agg #[.int .i64 n, .int .i64 d]] w fun e w' => e = .returned (.int .i64 (flF n d)) ∧ Cls w w' := by
  have C1 := Lib.hid (fun W => rValid_calls n d W)
  cases hv : vaB n d with
  | false =>
    have e : flF n d = 0 := by simp [flF, hv]
    rw [e]
    rw [hv] at C1
    clear h0 h1 h2 h3 hv e
    go_enter Tryd.func9, Tryd.ntmps9
    go_wp2_with (go_at_call 20; (with_reducible refine (C1.out _).mono ?_); rintro e _ ⟨rfl, ⟨y1, rfl⟩⟩)
    go_ret
    refine ⟨rfl, Cls.of ?_⟩
    repeat first | with_reducible exact Below.refl _ _ | with_reducible refine Below.setCell ?_ (by first | omega | (simp; done) | (simp; omega)) _ | with_reducible refine Below.alloc ?_ (by first | omega | (simp; done) | (simp; omega)) _ | with_reducible refine Below.drew ?_ | with_reducible refine Ext.on _ ?_ (by first | omega | (simp; done) | (simp; omega))
  | true =>
    have e : flF n d = n / d := by simp [flF, hv]
    obtain ⟨a1, a2, a3, a4⟩ := vaB_rng hv
    have hq := tdiv_in (d := d) ⟨a3, a4⟩
    rw [e]
    rw [hv] at C1
    have hd0 : ¬ d = 0 := by omega
    by_cases hr : n.tmod d < 0
    · have E := Lib.hid (floor_neg a1 hr)
      have d1 : decide (n.tmod d < 0) = true := decide_eq_true hr
      have e1 : IntKind.i64.wrap (n.tdiv d) = n.tdiv d := by rw [IntKind.wrap_i64]; omega
      have e2 : IntKind.i64.wrap (n.tdiv d - 1) = n.tdiv d - 1 := by rw [IntKind.wrap_i64]; omega
      clear h0 h1 h2 h3 hv e
      go_enter Tryd.func9, Tryd.ntmps9
      go_wp2_with (go_at_call 20; (with_reducible refine (C1.out _).mono ?_); rintro e _ ⟨rfl, ⟨y1, rfl⟩⟩; have ys := y1.size; (try simp at ys))
      go_ret
      refine ⟨ret_int E.out, Cls.of ?_⟩
      repeat first | with_reducible exact Below.refl _ _ | with_reducible refine Below.setCell ?_ (by first | omega | (simp; done) | (simp; omega)) _ | with_reducible refine Below.alloc ?_ (by first | omega | (simp; done) | (simp; omega)) _ | with_reducible refine Below.drew ?_ | with_reducible refine Ext.on _ ?_ (by first | omega | (simp; done) | (simp; omega))
    · have E := Lib.hid (floor_pos a1 hr)
      have d1 : decide (n.tmod d < 0) = false := decide_eq_false hr
      have e1 : IntKind.i64.wrap (n.tdiv d) = n.tdiv d := by rw [IntKind.wrap_i64]; omega
      clear h0 h1 h2 h3 hv e
      go_enter Tryd.func9, Tryd.ntmps9
      go_wp2_with (go_at_call 20; (with_reducible refine (C1.out _).mono ?_); rintro e _ ⟨rfl, ⟨y1, rfl⟩⟩; have ys := y1.size; (try simp at ys))
      go_ret
      refine ⟨ret_int E.out, Cls.of ?_⟩
      repeat first | with_reducible exact Below.refl _ _ | with_reducible refine Below.setCell ?_ (by first | omega | (simp; done) | (simp; omega)) _ | with_reducible refine Below.alloc ?_ (by first | omega | (simp; done) | (simp; omega)) _ | with_reducible refine Below.drew ?_ | with_reducible refine Ext.on _ ?_ (by first | omega | (simp; done) | (simp; omega))
end Go.Proofs.YtogjollefllajaaDoor
