/-
  The program's fractions: which numbers fit, small ones, negated and inverted ones.
-/
import Derived.Test.YthlaejodajdioaaFWide3
import Derived.Test.YthlaejodajdioaaFOf
set_option linter.unusedVariables false
namespace Go.Proofs.Ythlaejodajdioaa
open Go Go.RowKit Go.Deep
def fitB (v : Int) : Bool := decide (-100000000000000000 ≤ v) && decide (v ≤ 100000000000000000)
theorem cmpI_ge {a b : Int} : 0 ≤ cmpI a b ↔ b ≤ a := by
  unfold cmpI; split <;> (try split) <;> omega
theorem cmpI_le' {a b : Int} : cmpI a b ≤ 0 ↔ a ≤ b := by
  unfold cmpI; split <;> (try split) <;> omega
set_option maxHeartbeats 4000000 in
set_option maxRecDepth 20000 in
theorem wfits_calls (v : Int) (w : World) (h : In128 v) :
    Calls Try.prog 60 #[.agg #[.int .u64 (wHi v), .int .u64 (wLo v)]] w fun e w' => e = .returned (.bool (fitB v)) ∧ Cls w w' := by
  have C1 := Lib.hid (fun W => product_calls (-100000000000000000) 1 W (by omega) (by omega))
  have C2 := Lib.hid (fun W => product_calls 100000000000000000 1 W (by omega) (by omega))
  have C3 := Lib.hid (fun W => wcompare_calls v (-100000000000000000 * 1) W h (in128 (by omega)))
  have C4 := Lib.hid (fun W => wcompare_calls v (100000000000000000 * 1) W h (in128 (by omega)))
  have HF : Hid (fitB v = (decide (0 ≤ cmpI v (-100000000000000000 * 1)) && decide (cmpI v (100000000000000000 * 1) ≤ 0))) := Lib.hid (by
    unfold fitB
    rw [Bool.eq_iff_iff]
    simp only [Bool.and_eq_true, decide_eq_true_eq]
    rw [cmpI_ge, cmpI_le']
    omega)
  rw [HF.out]
  clear HF h
  generalize cmpI v (-100000000000000000 * 1) = r1 at *
  generalize cmpI v (100000000000000000 * 1) = r2 at *
  generalize wHi (-100000000000000000 * 1) = p1 at *
  generalize wLo (-100000000000000000 * 1) = p2 at *
  generalize wHi (100000000000000000 * 1) = p3 at *
  generalize wLo (100000000000000000 * 1) = p4 at *
  generalize wHi v = h1 at *
  generalize wLo v = l1 at *
  cases hb : decide (0 ≤ r1)
  all_goals
    go_enter Try.func60, Try.ntmps60
    go_wp2_with fail
    refine wp_region_ext (by kernel_rfl) (by kernel_rfl) ?_
    repeat (go_big_quiet_step (first | (go_at_call 40; with_reducible exact Cls.call (C1.out _)) | (go_at_call 40; with_reducible exact Cls.call (C2.out _)) | (go_at_call 41; with_reducible exact Cls.call (C3.out _)) | (go_at_call 41; with_reducible exact Cls.call (C4.out _))))
    refine wpQuiet_nil ?_
    rintro _ ⟨y1, rfl⟩
    go_wp2_with fail
    go_ret
    refine ⟨by first | rfl | simp, Cls.of ?_⟩
    repeat first | with_reducible exact Below.refl _ _ | with_reducible refine Below.setCell ?_ (by first | omega | (simp; done) | (simp; omega)) _ | with_reducible refine Below.alloc ?_ (by first | omega | (simp; done) | (simp; omega)) _ | with_reducible refine Below.drew ?_ | with_reducible refine Ext.on _ ?_ (by first | omega | (simp; done) | (simp; omega))
theorem wLo_small {v : Int} (h : fitB v = true) : IntKind.i64.wrap (wLo v) = v := by
  unfold fitB at h
  simp at h
  rw [IntKind.wrap_i64]
  unfold wLo
  omega
set_option maxHeartbeats 2000000 in
set_option maxRecDepth 20000 in
theorem wnumber_calls (v : Int) (w : World) (h : fitB v = true) :
    Calls Try.prog 61 #[.agg #[.int .u64 (wHi v), .int .u64 (wLo v)]] w fun e w' => e = .returned (.int .i64 v) ∧ Cls w w' := by
  have f1 := wLo_small h
  clear h
  generalize wHi v = h1 at *
  generalize wLo v = l1 at *
  go_enter Try.func61, Try.ntmps61
  go_wp2_with fail
  go_ret
  refine ⟨by first | rfl | (rw [ret_int]; assumption), Cls.of ?_⟩
  repeat first | with_reducible exact Below.refl _ _ | with_reducible refine Below.setCell ?_ (by first | omega | (simp; done) | (simp; omega)) _ | with_reducible refine Below.alloc ?_ (by first | omega | (simp; done) | (simp; omega)) _ | with_reducible refine Below.drew ?_ | with_reducible refine Ext.on _ ?_ (by first | omega | (simp; done) | (simp; omega))
def smB (n d : Int) : Bool := decide (-2147483647 ≤ n) && decide (n ≤ 2147483647) && decide (d ≤ 2147483647)
set_option maxHeartbeats 2000000 in
set_option maxRecDepth 20000 in
theorem small_calls (n d : Int) (w : World) :
    Calls Try.prog 43 #[.agg #[.int .i64 n, .int .i64 d]] w fun e w' => e = .returned (.bool (smB n d)) ∧ Cls w w' := by
  unfold smB
  cases h1 : decide (-2147483647 ≤ n) <;> cases h2 : decide (n ≤ 2147483647) <;> cases h3 : decide (d ≤ 2147483647)
  all_goals
    go_enter Try.func43, Try.ntmps43
    go_wp2_with fail
    go_ret
    refine ⟨by first | rfl | simp, Cls.of ?_⟩
    repeat first | with_reducible exact Below.refl _ _ | with_reducible refine Below.setCell ?_ (by first | omega | (simp; done) | (simp; omega)) _ | with_reducible refine Below.alloc ?_ (by first | omega | (simp; done) | (simp; omega)) _ | with_reducible refine Below.drew ?_ | with_reducible refine Ext.on _ ?_ (by first | omega | (simp; done) | (simp; omega))
set_option maxHeartbeats 2000000 in
set_option maxRecDepth 20000 in
theorem negated_calls (n d : Int) (w : World) (h1 : -100000000000000000 ≤ n) (h2 : n ≤ 100000000000000000) :
    Calls Try.prog 32 #[.agg #[.int .i64 n, .int .i64 d]] w fun e w' => e = .returned (.agg #[.int .i64 (-n), .int .i64 d]) ∧ Cls w w' := by
  go_enter Try.func32, Try.ntmps32
  go_wp2_with fail
  refine ret_ex rfl ?_
  simp [results, Try.results32, go_sem]
  refine Cls.of ?_
  repeat first | with_reducible exact Below.refl _ _ | with_reducible refine Below.setCell ?_ (by first | omega | (simp; done) | (simp; omega)) _ | with_reducible refine Below.alloc ?_ (by first | omega | (simp; done) | (simp; omega)) _ | with_reducible refine Below.drew ?_ | with_reducible refine Ext.on _ ?_ (by first | omega | (simp; done) | (simp; omega))
set_option maxHeartbeats 2000000 in
set_option maxRecDepth 20000 in
theorem inverted_calls (n d : Int) (w : World) (h1 : -100000000000000000 ≤ n) (h2 : n ≤ 100000000000000000) (h3 : 1 ≤ d) (h4 : d ≤ 100000000000000000) :
    Calls Try.prog 37 #[.agg #[.int .i64 n, .int .i64 d]] w fun e w' => e = .returned (.agg #[.int .i64 (if n < 0 then -d else d), .int .i64 (n.natAbs : Int)]) ∧ Cls w w' := by
  by_cases hn : n < 0
  · have e : (n.natAbs : Int) = -n := by omega
    rw [if_pos hn, e]
    have d1 : decide (n < 0) = true := decide_eq_true hn
    clear e
    go_enter Try.func37, Try.ntmps37
    go_wp2_with fail
    refine ret_ex rfl ?_
    simp [results, Try.results37, go_sem]
    refine Cls.of ?_
    repeat first | with_reducible exact Below.refl _ _ | with_reducible refine Below.setCell ?_ (by first | omega | (simp; done) | (simp; omega)) _ | with_reducible refine Below.alloc ?_ (by first | omega | (simp; done) | (simp; omega)) _ | with_reducible refine Below.drew ?_ | with_reducible refine Ext.on _ ?_ (by first | omega | (simp; done) | (simp; omega))
  · have e : (n.natAbs : Int) = n := by omega
    rw [if_neg hn, e]
    have d1 : decide (n < 0) = false := decide_eq_false hn
    clear e
    go_enter Try.func37, Try.ntmps37
    go_wp2_with fail
    refine ret_ex rfl ?_
    simp [results, Try.results37, go_sem]
    refine Cls.of ?_
    repeat first | with_reducible exact Below.refl _ _ | with_reducible refine Below.setCell ?_ (by first | omega | (simp; done) | (simp; omega)) _ | with_reducible refine Below.alloc ?_ (by first | omega | (simp; done) | (simp; omega)) _ | with_reducible refine Below.drew ?_ | with_reducible refine Ext.on _ ?_ (by first | omega | (simp; done) | (simp; omega))
end Go.Proofs.Ythlaejodajdioaa
