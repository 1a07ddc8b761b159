/-
  The program's numbers of 128 bits: products, and how they are compared.
-/
import Derived.Test.YtogjollefllajaaFProg1
import Derived.Shelf.Bits.Mul64
import Derived.Laws.Externs
set_option linter.unusedVariables false
namespace Go.Proofs.Ytogjollefllajaa
open Go Go.RowKit Go.Deep
/-- The two halves of a number of 128 bits. -/
def wHi (v : Int) : Int := v / 18446744073709551616 % 18446744073709551616
def wLo (v : Int) : Int := v % 18446744073709551616
theorem wHi_bd (v : Int) : 0 ≤ wHi v ∧ wHi v ≤ 18446744073709551615 := by unfold wHi; omega
theorem wLo_bd (v : Int) : 0 ≤ wLo v ∧ wLo v ≤ 18446744073709551615 := by unfold wLo; omega
set_option maxHeartbeats 1000000 in
theorem Mul64_calls (x y : Nat) (hx : x < 18446744073709551616) (hy : y < 18446744073709551616) (w : World) :
    Calls Try.prog 71 #[.int .u64 x, .int .u64 y] w fun e w' => e = .returned (.tuple #[.int .u64 ((x * y / 18446744073709551616 : Nat) : Int), .int .u64 ((x * y % 18446744073709551616 : Nat) : Int)]) ∧ w' = w := by
  obtain ⟨bd, bt, bw, hhi⟩ := Lib.mul64_hi x y hx hy
  have ba := Lib.half_mul_le (a := x / 4294967296) (b := y / 4294967296) (by omega) (by omega)
  have bb := Lib.half_mul_le (a := x / 4294967296) (b := y % 4294967296) (by omega) (by omega)
  have bc := Lib.half_mul_le (a := x % 4294967296) (b := y / 4294967296) (by omega) (by omega)
  have ba' : x / 4294967296 * (y / 4294967296) < 18446744073709551616 := by omega
  have bb' : x / 4294967296 * (y % 4294967296) < 18446744073709551616 := by omega
  have bc' : x % 4294967296 * (y / 4294967296) < 18446744073709551616 := by omega
  have bh1 : x / 4294967296 * (y / 4294967296) + (x / 4294967296 * (y % 4294967296) + x % 4294967296 * (y % 4294967296) / 4294967296) / 4294967296 < 18446744073709551616 := by omega
  have bh : x / 4294967296 * (y / 4294967296) + (x / 4294967296 * (y % 4294967296) + x % 4294967296 * (y % 4294967296) / 4294967296) / 4294967296 + ((x / 4294967296 * (y % 4294967296) + x % 4294967296 * (y % 4294967296) / 4294967296) % 4294967296 + x % 4294967296 * (y / 4294967296)) / 4294967296 < 18446744073709551616 := by omega
  go_enter Try.func71, Try.ntmps71
  go_wp2
  simp only [Mul64.maskN x hx, Mul64.maskN y hy, Mul64.divN, Mul64.mulN, Mul64.addN, Mul64.wrapN _ bd, Mul64.wrapN _ bb', Mul64.wrapN _ bt, Mul64.maskN _ bt, Mul64.wrapN _ bc', Mul64.wrapN _ bw, Mul64.wrapN _ ba', Mul64.wrapN _ bh1, Mul64.wrapN _ bh, Mul64.wrapM (x * y)]
  rw [hhi]
  go_ret2
  exact ⟨rfl, rfl⟩
/-- What the product of two numbers, taken without their signs, has to do with theirs. -/
theorem product_eq (a b : Int) (ha : -9223372036854775808 ≤ a ∧ a ≤ 9223372036854775807) (hb : -9223372036854775808 ≤ b ∧ b ≤ 9223372036854775807) (x y : Nat) (hx : (x : Int) = a % 18446744073709551616) (hy : (y : Int) = b % 18446744073709551616) :
    ((x * y % 18446744073709551616 : Nat) : Int) = wLo (a * b) ∧
    (((x * y / 18446744073709551616 : Nat) : Int) - (if a < 0 then (y : Int) else 0) - (if b < 0 then (x : Int) else 0)) % 18446744073709551616 = wHi (a * b) := by
  have ex : (x : Int) = a + (if a < 0 then 18446744073709551616 else 0) := by split <;> omega
  have ey : (y : Int) = b + (if b < 0 then 18446744073709551616 else 0) := by split <;> omega
  unfold wLo wHi
  have e : ((x * y : Nat) : Int) = a * b + (if a < 0 then 18446744073709551616 * b else 0) + (if b < 0 then 18446744073709551616 * a else 0) + (if a < 0 then if b < 0 then 18446744073709551616 * 18446744073709551616 else 0 else 0) := by
    rw [Int.natCast_mul, ex, ey]
    by_cases h1 : a < 0 <;> by_cases h2 : b < 0
    · simp only [if_pos h1, if_pos h2, Int.add_mul, Int.mul_add]; omega
    · simp only [if_pos h1, if_neg h2, Int.add_mul, Int.mul_add]; omega
    · simp only [if_neg h1, if_pos h2, Int.add_mul, Int.mul_add]; omega
    · simp only [if_neg h1, if_neg h2, Int.add_mul, Int.mul_add]; omega
  rw [Int.natCast_emod, Int.natCast_ediv]
  generalize ((x * y : Nat) : Int) = p at *
  generalize a * b = q at *
  by_cases h1 : a < 0 <;> by_cases h2 : b < 0
  · simp only [if_pos h1, if_pos h2] at *; omega
  · simp only [if_pos h1, if_neg h2] at *; omega
  · simp only [if_neg h1, if_pos h2] at *; omega
  · simp only [if_neg h1, if_neg h2] at *; omega
theorem two_z {W : World} {b : Nat} {a0 a1 : Value} {t : TypeId} (h : W.heap[b]? = some (.cells #[a0, a1] t)) :
    b < W.heap.size ∧ W.frozen? ⟨b, 0, none⟩ = false ∧ W.frozen? ⟨b, 1, none⟩ = false ∧ W.cell? ⟨b, 0, none⟩ = some a0 ∧ W.cell? ⟨b, 1, none⟩ = some a1 := by
  refine ⟨(Array.getElem?_eq_some_iff.1 h).1, by simp [World.frozen?, h], by simp [World.frozen?, h], ?_, ?_⟩
  all_goals
    rw [cell_of_row _ _ _ _ _ (0, 0) h]
    rfl
set_option maxHeartbeats 2000000 in
set_option maxRecDepth 20000 in
theorem product_calls (a b : Int) (w : World) (ha : -9223372036854775808 ≤ a ∧ a ≤ 9223372036854775807) (hb : -9223372036854775808 ≤ b ∧ b ≤ 9223372036854775807) :
    Calls Try.prog 49 #[.int .i64 a, .int .i64 b] w fun e w' => e = .returned (.agg #[.int .u64 (wHi (a * b)), .int .u64 (wLo (a * b))]) ∧ Cls w w' := by
  obtain ⟨x, hx⟩ : ∃ x : Nat, (x : Int) = a % 18446744073709551616 := ⟨(a % 18446744073709551616).toNat, by omega⟩
  obtain ⟨y, hy⟩ : ∃ y : Nat, (y : Int) = b % 18446744073709551616 := ⟨(b % 18446744073709551616).toNat, by omega⟩
  obtain ⟨e1, e2⟩ := product_eq a b ha hb x y hx hy
  have C1 := Lib.hid (fun W => Mul64_calls x y (by omega) (by omega) W)
  rw [e1] at C1
  have f1 : IntKind.u64.wrap a = (x : Int) := by rw [IntKind.wrap_u64]; omega
  have f2 : IntKind.u64.wrap b = (y : Int) := by rw [IntKind.wrap_u64]; omega
  have hh0 : ((x * y / 18446744073709551616 : Nat) : Int) < 18446744073709551616 := by
    have : x * y < 18446744073709551616 * 18446744073709551616 := Nat.mul_lt_mul_of_lt_of_lt (by omega) (by omega)
    omega
  generalize hhh : ((x * y / 18446744073709551616 : Nat) : Int) = h at *
  have hh1 : 0 ≤ h := by rw [← hhh]; omega
  have hx1 : (x : Int) < 18446744073709551616 := by omega
  have hy1 : (y : Int) < 18446744073709551616 := by omega
  have HX := Lib.hid hx
  have HYY := Lib.hid hy
  clear hx hy e1 hhh
  generalize wLo (a * b) = lo at *
  generalize wHi (a * b) = hi at *
  by_cases h1 : a < 0 <;> by_cases h2 : b < 0
  · simp only [if_pos h1, if_pos h2] at e2
    have d1 : decide (a < 0) = true := by simpa using h1
    have d2 : decide (b < 0) = true := by simpa using h2
    have g1 : IntKind.u64.wrap (IntKind.u64.wrap (h - y) - x) = hi := by rw [IntKind.wrap_u64, IntKind.wrap_u64]; omega
    clear e2 h1 h2 ha hb
    go_enter Try.func49, Try.ntmps49
    go_wp2_with (go_at_call 71; (with_reducible refine (C1.out _).mono ?_); rintro e _ ⟨rfl, rfl⟩)
    refine ret_ex rfl ?_
    simp [results, Try.results49, go_sem]
    refine Cls.of ?_
    repeat first | with_reducible exact Below.refl _ _ | with_reducible refine Below.setCell ?_ (by first | omega | (simp; done) | (simp; omega)) _ | with_reducible refine Below.alloc ?_ (by first | omega | (simp; done) | (simp; omega)) _ | with_reducible refine Below.drew ?_ | with_reducible refine Ext.on _ ?_ (by first | omega | (simp; done) | (simp; omega))
  · simp only [if_pos h1, if_neg h2] at e2
    have d1 : decide (a < 0) = true := by simpa using h1
    have d2 : decide (b < 0) = false := by simpa using h2
    have g1 : IntKind.u64.wrap (h - y) = hi := by rw [IntKind.wrap_u64]; omega
    clear e2 h1 h2 ha hb
    go_enter Try.func49, Try.ntmps49
    go_wp2_with (go_at_call 71; (with_reducible refine (C1.out _).mono ?_); rintro e _ ⟨rfl, rfl⟩)
    refine ret_ex rfl ?_
    simp [results, Try.results49, go_sem]
    refine Cls.of ?_
    repeat first | with_reducible exact Below.refl _ _ | with_reducible refine Below.setCell ?_ (by first | omega | (simp; done) | (simp; omega)) _ | with_reducible refine Below.alloc ?_ (by first | omega | (simp; done) | (simp; omega)) _ | with_reducible refine Below.drew ?_ | with_reducible refine Ext.on _ ?_ (by first | omega | (simp; done) | (simp; omega))
  · simp only [if_neg h1, if_pos h2] at e2
    have d1 : decide (a < 0) = false := by simpa using h1
    have d2 : decide (b < 0) = true := by simpa using h2
    have g1 : IntKind.u64.wrap (h - x) = hi := by rw [IntKind.wrap_u64]; omega
    clear e2 h1 h2 ha hb
    go_enter Try.func49, Try.ntmps49
    go_wp2_with (go_at_call 71; (with_reducible refine (C1.out _).mono ?_); rintro e _ ⟨rfl, rfl⟩)
    refine ret_ex rfl ?_
    simp [results, Try.results49, go_sem]
    refine Cls.of ?_
    repeat first | with_reducible exact Below.refl _ _ | with_reducible refine Below.setCell ?_ (by first | omega | (simp; done) | (simp; omega)) _ | with_reducible refine Below.alloc ?_ (by first | omega | (simp; done) | (simp; omega)) _ | with_reducible refine Below.drew ?_ | with_reducible refine Ext.on _ ?_ (by first | omega | (simp; done) | (simp; omega))
  · simp only [if_neg h1, if_neg h2] at e2
    have d1 : decide (a < 0) = false := by simpa using h1
    have d2 : decide (b < 0) = false := by simpa using h2
    obtain rfl : hi = h := by omega
    clear e2 h1 h2 ha hb
    go_enter Try.func49, Try.ntmps49
    go_wp2_with (go_at_call 71; (with_reducible refine (C1.out _).mono ?_); rintro e _ ⟨rfl, rfl⟩)
    refine ret_ex rfl ?_
    simp [results, Try.results49, go_sem]
    refine Cls.of ?_
    repeat first | with_reducible exact Below.refl _ _ | with_reducible refine Below.setCell ?_ (by first | omega | (simp; done) | (simp; omega)) _ | with_reducible refine Below.alloc ?_ (by first | omega | (simp; done) | (simp; omega)) _ | with_reducible refine Below.drew ?_ | with_reducible refine Ext.on _ ?_ (by first | omega | (simp; done) | (simp; omega))
def cmpI (a b : Int) : Int := if a < b then -1 else if b < a then 1 else 0
theorem cmpI64_calls (a b : Int) (w : World) : Calls Try.prog 73 #[.int .i64 a, .int .i64 b] w fun e w' => e = .returned (.int .i64 (cmpI a b)) ∧ w = w' := by
  go_enter Try.func73, Try.ntmps73
  go_wp2
  all_goals
    go_ret
    refine ⟨ret_int ?_, rfl⟩
    unfold cmpI
    repeat (first | rfl | rw [if_pos (by omega)] | rw [if_neg (by omega)])
theorem cmpU64_calls (a b : Int) (w : World) : Calls Try.prog 74 #[.int .u64 a, .int .u64 b] w fun e w' => e = .returned (.int .i64 (cmpI a b)) ∧ w = w' := by
  go_enter Try.func74, Try.ntmps74
  go_wp2
  all_goals
    go_ret
    refine ⟨ret_int ?_, rfl⟩
    unfold cmpI
    repeat (first | rfl | rw [if_pos (by omega)] | rw [if_neg (by omega)])
/-- The first of two numbers that is not 0. -/
def orI (a b : Int) : Int := if a = 0 then b else a
set_option maxHeartbeats 2000000 in
theorem Or_calls (g : Nat) (a b : Int) (w : World) (hg : g < w.heap.size) (c0 : w.cell? ⟨g, 0, none⟩ = some (.int .i64 a)) (c1 : w.cell? ⟨g, 1, none⟩ = some (.int .i64 b)) :
    Calls Try.prog 72 #[.slice (some ⟨g, 0, none⟩) 2 2] w fun e w' => e = .returned (.int .i64 (orI a b)) ∧ w = w' := by
  have HO := Lib.hid (show a ≠ 0 → orI a b = a from fun h => if_neg h)
  have HO2 := Lib.hid (show a = 0 → orI a b = b from fun h => if_pos h)
  generalize orI a b = r at *
  go_enter Try.func72, Try.ntmps72
  go_wp2_with fail
  go_loop [8] (fun i => ∃ k : Nat, k ≤ 2 ∧ i = .int .i64 k ∧ Hid (1 ≤ k → a = 0) ∧ Hid (2 ≤ k → b = 0)) (fun i => (2 - intOf i).toNat)
  case atStart => exact ⟨0, by omega, rfl, Lib.hid (fun h => by omega), Lib.hid (fun h => by omega)⟩
  case round =>
    obtain ⟨k, hk, rfl, H1, H2⟩ := hrel
    rcases (show k = 0 ∨ k = 1 ∨ k = 2 by omega) with rfl | rfl | rfl
    · by_cases h0 : a = 0
      · have d1 : (a != 0) = false := by simp [h0]
        have H0 := Lib.hid h0
        clear h0
        go_wp2_with fail
        go_round
        case rel => exact ⟨1, by omega, rfl, Lib.hid (fun _ => H0.out), Lib.hid (fun h => by omega)⟩
        case measure => simp [intOf]
      · have d1 : (a != 0) = true := by simp [h0]
        have H0 := Lib.hid (HO.out h0)
        clear h0
        go_wp2_with fail
        go_ret
        exact ⟨ret_int H0.out.symm, rfl⟩
    · have HR := Lib.hid (HO2.out (H1.out (by omega)))
      by_cases h0 : b = 0
      · have d1 : (b != 0) = false := by simp [h0]
        have H0 := Lib.hid h0
        clear h0
        go_wp2_with fail
        go_round
        case rel => exact ⟨2, by omega, rfl, Lib.hid (fun _ => H1.out (by omega)), Lib.hid (fun _ => H0.out)⟩
        case measure => simp [intOf]
      · have d1 : (b != 0) = true := by simp [h0]
        clear h0
        go_wp2_with fail
        go_ret
        exact ⟨ret_int HR.out.symm, rfl⟩
    · have HR := Lib.hid ((HO2.out (H1.out (by omega))).trans (H2.out (by omega)))
      go_wp2_with fail
      go_ret
      exact ⟨ret_int HR.out.symm, rfl⟩
end Go.Proofs.Ytogjollefllajaa
