/-
  The program's numbers of 128 bits: sums, signs, quotients.
-/
import Derived.Test.YthlaejodajdioaaFCmp
import Derived.Test.YthlaejodajdioaaFBits
set_option linter.unusedVariables false
namespace Go.Proofs.Ythlaejodajdioaa
open Go Go.RowKit Go.Deep
set_option maxHeartbeats 2000000 in
set_option maxRecDepth 20000 in
theorem Div64_zero (lo y : Nat) (w : World) (h1 : 0 < y) (h2 : y < 18446744073709551616) (h3 : lo < 18446744073709551616) :
    Calls Try.prog 62 #[.int .u64 0, .int .u64 lo, .int .u64 y] w fun e w' => e = .returned (.tuple #[.int .u64 ((lo / y : Nat) : Int), .int .u64 ((lo % y : Nat) : Int)]) ∧ Cls w w' := by
  have d1 : ((y : Int) == 0) = false := by simp; omega
  have d2 : ¬ (y : Int) = 0 := by omega
  have d3 : decide ((y : Int) ≤ 0) = false := decide_eq_false (by omega)
  have d4 : ¬ y = 0 := by omega
  have q1 : (lo : Int).tdiv (y : Int) = ((lo / y : Nat) : Int) := tdiv_nat' _ _
  have q2 : (lo : Int).tmod (y : Int) = ((lo % y : Nat) : Int) := by rw [Int.tmod_eq_emod_of_nonneg (by omega)]; omega
  have q3 : IntKind.u64.wrap ((lo / y : Nat) : Int) = ((lo / y : Nat) : Int) := u64_id (Nat.lt_of_le_of_lt (Nat.div_le_self _ _) h3)
  have q4 : IntKind.u64.wrap ((lo % y : Nat) : Int) = ((lo % y : Nat) : Int) := u64_id (Nat.lt_of_le_of_lt (Nat.mod_le _ _) h3)
  generalize lo / y = a at *
  generalize lo % y = b at *
  go_enter Try.func62, Try.ntmps62
  go_wp2_with fail
  refine wp_region_ext (by kernel_rfl) (by kernel_rfl) ?_
  repeat (go_big_quiet_step (fail))
  refine wpQuiet_nil ?_
  rintro _ ⟨y1, rfl⟩
  clear q1 q2 q3 q4
  go_wp2_with fail
  go_ret2
  exact ⟨rfl, y1, rfl⟩
theorem Div64_calls (hi lo y : Nat) (w : World) (h1 : hi < y) (h2 : y < 18446744073709551616) (h3 : lo < 18446744073709551616) :
    Calls Try.prog 62 #[.int .u64 hi, .int .u64 lo, .int .u64 y] w fun e w' => e = .returned (.tuple #[.int .u64 (((hi * 18446744073709551616 + lo) / y : Nat) : Int), .int .u64 (((hi * 18446744073709551616 + lo) % y : Nat) : Int)]) ∧ Cls w w' := by
  by_cases h0 : hi = 0
  · subst h0
    rw [Nat.zero_mul, Nat.zero_add]
    exact Div64_zero lo y w h1 h2 h3
  · exact (Div64_great hi lo y w (Nat.pos_of_ne_zero h0) h1 h2 h3).mono fun _ _ ⟨he, hw⟩ => ⟨he, Cls.same hw⟩
theorem rem_fold (hi lo y : Nat) : (hi % y * 18446744073709551616 + lo) % y = (hi * 18446744073709551616 + lo) % y := by
  rw [Nat.add_mod, Nat.mul_mod, Nat.mod_mod, ← Nat.mul_mod, ← Nat.add_mod]
set_option maxHeartbeats 2000000 in
set_option maxRecDepth 20000 in
theorem Rem64_calls (hi lo y : Nat) (w : World) (h0 : hi < 18446744073709551616) (h1 : 0 < y) (h2 : y < 18446744073709551616) (h3 : lo < 18446744073709551616) :
    Calls Try.prog 59 #[.int .u64 hi, .int .u64 lo, .int .u64 y] w fun e w' => e = .returned (.int .u64 (((hi * 18446744073709551616 + lo) % y : Nat) : Int)) ∧ Cls w w' := by
  have C1 := Lib.hid (fun W => Div64_calls (hi % y) lo y W (Nat.mod_lt _ h1) h2 h3)
  rw [rem_fold] at C1
  have d1 : ((y : Int) == 0) = false := by simp; omega
  have d2 : ¬ (y : Int) = 0 := by omega
  have d4 : ¬ y = 0 := by omega
  have q2 : (hi : Int).tmod (y : Int) = ((hi % y : Nat) : Int) := by rw [Int.tmod_eq_emod_of_nonneg (by omega)]; omega
  have q4 : IntKind.u64.wrap ((hi % y : Nat) : Int) = ((hi % y : Nat) : Int) := u64_id (Nat.lt_of_le_of_lt (Nat.mod_le _ _) h0)
  generalize (hi % y * 18446744073709551616 + lo) / y = a at *
  generalize (hi * 18446744073709551616 + lo) % y = b at *
  generalize hi % y = c at *
  go_enter Try.func59, Try.ntmps59
  go_wp2_with (go_at_call 62; (with_reducible refine (C1.out _).mono ?_); rintro e _ ⟨rfl, ⟨y1, rfl⟩⟩)
  go_ret
  exact ⟨rfl, y1, rfl⟩
theorem add64_run (x y c : Int) (w : World) (hx : 0 ≤ x) (hy : 0 ≤ y) (hc0 : 0 ≤ c) (hc : c ≤ 1) :
    (callFunc 57 #[.int .u64 x, .int .u64 y, .int .u64 c]).run Try.prog w = .ok (.value (.tuple #[.int .u64 ((x + y + c) % 18446744073709551616), .int .u64 ((x + y + c) / 18446744073709551616)])) w := by
  rw [run_callFunc_extern Try.func57 (by kernel_rfl) (by kernel_rfl) (by kernel_rfl) (e := add64Entry) (by kernel_rfl), run_add64 x y c hx hy hc0 hc]
  rfl
theorem plus_halves (a b : Int) : (wLo a + wLo b + 0) % 18446744073709551616 = wLo (a + b) ∧ (wHi a + wHi b + (wLo a + wLo b + 0) / 18446744073709551616) % 18446744073709551616 = wHi (a + b) := by
  unfold wLo wHi; omega
set_option maxHeartbeats 2000000 in
set_option maxRecDepth 20000 in
theorem wplus_calls (a b : Int) (w : World) :
    Calls Try.prog 44 #[.agg #[.int .u64 (wHi a), .int .u64 (wLo a)], .agg #[.int .u64 (wHi b), .int .u64 (wLo b)]] w fun e w' => e = .returned (.agg #[.int .u64 (wHi (a + b)), .int .u64 (wLo (a + b))]) ∧ Cls w w' := by
  obtain ⟨e1, e2⟩ := plus_halves a b
  have b1 := wHi_bd a
  have b2 := wHi_bd b
  have b3 := wLo_bd a
  have b4 := wLo_bd b
  have A1 : Hid (∀ W, (callFunc 57 #[.int .u64 (wLo a), .int .u64 (wLo b), .int .u64 0]).run Try.prog W = .ok (.value (.tuple #[.int .u64 (wLo (a + b)), .int .u64 ((wLo a + wLo b + 0) / 18446744073709551616)])) W) := Lib.hid fun W => by
    rw [add64_run _ _ _ W b3.1 b4.1 (Int.le_refl _) (by omega), e1]
  have A2 : Hid (∀ W, (callFunc 57 #[.int .u64 (wHi a), .int .u64 (wHi b), .int .u64 ((wLo a + wLo b + 0) / 18446744073709551616)]).run Try.prog W = .ok (.value (.tuple #[.int .u64 (wHi (a + b)), .int .u64 ((wHi a + wHi b + (wLo a + wLo b + 0) / 18446744073709551616) / 18446744073709551616)])) W) := Lib.hid fun W => by
    rw [add64_run _ _ _ W b1.1 b2.1 (by omega) (by omega), e2]
  clear e1 e2 b1 b2 b3 b4
  generalize (wHi a + wHi b + (wLo a + wLo b + 0) / 18446744073709551616) / 18446744073709551616 = c2 at *
  generalize (wLo a + wLo b + 0) / 18446744073709551616 = c1 at *
  generalize wHi (a + b) = r1 at *
  generalize wLo (a + b) = r2 at *
  generalize wHi a = h1 at *
  generalize wLo a = l1 at *
  generalize wHi b = h2 at *
  generalize wLo b = l2 at *
  go_enter Try.func44, Try.ntmps44
  go_wp2_with (first | (simp only [A1.out]) | (simp only [A2.out]))
  refine ret_ex rfl ?_
  simp [results, Try.results44, go_sem]
  refine Cls.of ?_
  repeat first | with_reducible exact Below.refl _ _ | with_reducible refine Below.setCell ?_ (by first | omega | (simp; done) | (simp; omega)) _ | with_reducible refine Below.alloc ?_ (by first | omega | (simp; done) | (simp; omega)) _ | with_reducible refine Below.drew ?_ | with_reducible refine Ext.on _ ?_ (by first | omega | (simp; done) | (simp; omega))
theorem wHi_neg {v : Int} (h : In128 v) : (v / 18446744073709551616 < 0) ↔ v < 0 := by
  unfold In128 at h; omega
set_option maxHeartbeats 2000000 in
set_option maxRecDepth 20000 in
theorem wnegative_calls (v : Int) (w : World) (h : In128 v) :
    Calls Try.prog 63 #[.agg #[.int .u64 (wHi v), .int .u64 (wLo v)]] w fun e w' => e = .returned (.bool (decide (v < 0))) ∧ Cls w w' := by
  have f1 := wHi_signed h
  have HD : Hid (decide (v < 0) = decide (v / 18446744073709551616 < 0)) := Lib.hid (by rw [decide_eq_decide]; exact (wHi_neg h).symm)
  rw [HD.out]
  clear h HD
  generalize v / 18446744073709551616 = vh at *
  generalize wHi v = h1 at *
  generalize wLo v = l1 at *
  go_enter Try.func63, Try.ntmps63
  go_wp2_with fail
  go_ret
  refine ⟨rfl, Cls.of ?_⟩
  repeat first | with_reducible exact Below.refl _ _ | with_reducible refine Below.setCell ?_ (by first | omega | (simp; done) | (simp; omega)) _ | with_reducible refine Below.alloc ?_ (by first | omega | (simp; done) | (simp; omega)) _ | with_reducible refine Below.drew ?_ | with_reducible refine Ext.on _ ?_ (by first | omega | (simp; done) | (simp; omega))
theorem not_nat {x : Nat} (h : x < 18446744073709551616) : 18446744073709551615 ^^^ x = 18446744073709551615 - x := by
  have h1 : (BitVec.allOnes 64 ^^^ BitVec.ofNat 64 x).toNat = (~~~ BitVec.ofNat 64 x).toNat := by rw [BitVec.allOnes_xor]
  rw [BitVec.toNat_xor, BitVec.toNat_not, BitVec.toNat_ofNat, BitVec.toNat_allOnes, Nat.mod_eq_of_lt h] at h1
  exact h1
theorem not_u64 {x : Int} (h0 : 0 ≤ x) (h1 : x ≤ 18446744073709551615) : bits .xor .u64 IntKind.u64.max x = 18446744073709551615 - x := by
  obtain ⟨n, rfl⟩ := Int.eq_ofNat_of_zero_le h0
  have e : IntKind.u64.max = ((18446744073709551615 : Nat) : Int) := by decide
  rw [e, bits_xor_u64_nat _ n (by omega) (by omega), not_nat (by omega)]
  omega
theorem not_halves (v : Int) : 18446744073709551615 - wHi v = wHi (-v - 1) ∧ 18446744073709551615 - wLo v = wLo (-v - 1) := by
  unfold wHi wLo; omega
theorem new_at1 (w : World) (o : Obj) (cs : Array Value) (t t' : TypeId) : ((w.alloc o).alloc (.cells cs t)).heap[w.heap.size + 1]? = some (.cells cs t) := by
  have := heap_alloc_new (w.alloc o) (.cells cs t)
  simpa using this
set_option maxHeartbeats 2000000 in
set_option maxRecDepth 20000 in
theorem wnegated_calls (v : Int) (w : World) :
    Calls Try.prog 64 #[.agg #[.int .u64 (wHi v), .int .u64 (wLo v)]] w fun e w' => e = .returned (.agg #[.int .u64 (wHi (-v)), .int .u64 (wLo (-v))]) ∧ Cls w w' := by
  have C1 := Lib.hid (fun W => wplus_calls (-v - 1) 1 W)
  rw [show -v - 1 + 1 = -v by omega] at C1
  have e1 : wHi 1 = 0 := by decide
  have e2 : wLo 1 = 1 := by decide
  rw [e1, e2] at C1
  have x1 : bits .xor .u64 IntKind.u64.max (wHi v) = wHi (-v - 1) := by rw [not_u64 (wHi_bd v).1 (wHi_bd v).2]; exact (not_halves v).1
  have x2 : bits .xor .u64 IntKind.u64.max (wLo v) = wLo (-v - 1) := by rw [not_u64 (wLo_bd v).1 (wLo_bd v).2]; exact (not_halves v).2
  have hsg : IntKind.u64.signed = false := rfl
  clear e1 e2
  generalize wHi (-v - 1) = n1 at *
  generalize wLo (-v - 1) = n2 at *
  generalize wHi (-v) = r1 at *
  generalize wLo (-v) = r2 at *
  generalize wHi v = h1 at *
  generalize wLo v = l1 at *
  go_enter Try.func64, Try.ntmps64
  go_wp2_with (go_at_call 44; (with_reducible refine (C1.out _).mono ?_); rintro e _ ⟨rfl, ⟨y1, rfl⟩⟩; have ys := y1.size; (try simp at ys); obtain ⟨c0, c1, c2, c3, c4⟩ := two_z ((y1.below.block (w.heap.size + 1) (by simp)).trans (new_at1 w _ _ _ 0)))
  refine ret_ex rfl ?_
  simp [results, Try.results64, go_sem, c3, c4]
  refine Cls.of ?_
  repeat first | with_reducible exact Below.refl _ _ | with_reducible refine Below.setCell ?_ (by first | omega | (simp; done) | (simp; omega)) _ | with_reducible refine Below.alloc ?_ (by first | omega | (simp; done) | (simp; omega)) _ | with_reducible refine Below.drew ?_ | with_reducible refine Ext.on _ ?_ (by first | omega | (simp; done) | (simp; omega))
set_option maxHeartbeats 4000000 in
set_option maxRecDepth 20000 in
theorem wmagnitude_calls (v : Int) (w : World) (h : In128 v) :
    Calls Try.prog 58 #[.agg #[.int .u64 (wHi v), .int .u64 (wLo v)]] w fun e w' => e = .returned (.agg #[.int .u64 (wHi (v.natAbs : Int)), .int .u64 (wLo (v.natAbs : Int))]) ∧ Cls w w' := by
  have C1 := Lib.hid (fun W => wnegative_calls v W h)
  have C2 := Lib.hid (fun W => wnegated_calls v W)
  by_cases hv : v < 0
  · have e : (v.natAbs : Int) = -v := by omega
    have d1 : decide (v < 0) = true := decide_eq_true hv
    rw [e]
    rw [d1] at C1
    clear h hv e d1
    generalize wHi (-v) = r1 at *
    generalize wLo (-v) = r2 at *
    generalize wHi v = h1 at *
    generalize wLo v = l1 at *
    go_enter Try.func58, Try.ntmps58
    go_wp2_with (first | (go_at_call 63; (with_reducible refine (C1.out _).mono ?_); rintro e _ ⟨rfl, ⟨y1, rfl⟩⟩; have ys := y1.size; (try simp at ys); have l1 : w.heap.size < y1.val.heap.size := (by omega)) | (go_at_call 64; (with_reducible refine (C2.out _).mono ?_); rintro e _ ⟨rfl, ⟨y2, rfl⟩⟩; have y2s := y2.size; obtain ⟨c0, c1, c2, c3, c4⟩ := two_z ((y2.below.block (w.heap.size + 1) (by omega)).trans ((y1.below.block (w.heap.size + 1) (by simp)).trans (new_at1 w _ _ _ 0)))))
    refine ret_ex rfl ?_
    simp [results, Try.results58, go_sem, c3, c4]
    refine Cls.of ?_
    repeat first | with_reducible exact Below.refl _ _ | with_reducible refine Below.setCell ?_ (by first | omega | (simp; done) | (simp; omega)) _ | with_reducible refine Below.alloc ?_ (by first | omega | (simp; done) | (simp; omega)) _ | with_reducible refine Below.drew ?_ | with_reducible refine Ext.on _ ?_ (by first | omega | (simp; done) | (simp; omega))
  · have e : (v.natAbs : Int) = v := by omega
    have d1 : decide (v < 0) = false := decide_eq_false hv
    rw [e]
    rw [d1] at C1
    clear h hv e d1
    generalize wHi v = h1 at *
    generalize wLo v = l1 at *
    go_enter Try.func58, Try.ntmps58
    go_wp2_with (go_at_call 63; (with_reducible refine (C1.out _).mono ?_); rintro e _ ⟨rfl, ⟨y1, rfl⟩⟩; have ys := y1.size; (try simp at ys); have l1 : w.heap.size < y1.val.heap.size := (by omega); obtain ⟨c0, c1, c2, c3, c4⟩ := two_z ((y1.below.block (w.heap.size + 1) (by simp)).trans (new_at1 w _ _ _ 0)))
    refine ret_ex rfl ?_
    simp [results, Try.results58, go_sem, c3, c4]
    refine Cls.of ?_
    repeat first | with_reducible exact Below.refl _ _ | with_reducible refine Below.setCell ?_ (by first | omega | (simp; done) | (simp; omega)) _ | with_reducible refine Below.alloc ?_ (by first | omega | (simp; done) | (simp; omega)) _ | with_reducible refine Below.drew ?_ | with_reducible refine Ext.on _ ?_ (by first | omega | (simp; done) | (simp; omega))
end Go.Proofs.Ythlaejodajdioaa
