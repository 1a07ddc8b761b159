/-
  The program's fractions: the fraction of two numbers.
-/
import Derived.Test.YtogjollefllajaaDoorFFloor
import Derived.Test.YtogjollefllajaaDoorFRedM
set_option linter.unusedVariables false
namespace Go.Proofs.YtogjollefllajaaDoor
open Go Go.RowKit Go.Deep
def In64 (n : Int) : Prop := -9223372036854775808 ≤ n ∧ n ≤ 9223372036854775807
def frOk (N : Int) (D : Nat) : Bool := decide ((frI N D).natAbs ≤ 100000000000000000) && decide (frd N D ≤ 100000000000000000)
def frN (N : Int) (D : Nat) : Int := if frOk N D = true then frI N D else 0
def frD (N : Int) (D : Nat) : Int := if frOk N D = true then (frd N D : Int) else 0
def frE (N : Int) (D : Nat) : Int := if frOk N D = true then 0 else 8
def frV (N : Int) (D : Nat) : Value := .tuple #[.agg #[.int .i64 (frN N D), .int .i64 (frD N D)], .int .i64 (frE N D)]
theorem frV_ok {N : Int} {D : Nat} (h1 : (frI N D).natAbs ≤ 100000000000000000) (h2 : frd N D ≤ 100000000000000000) : frV N D = .tuple #[.agg #[.int .i64 (frI N D), .int .i64 ((frd N D : Nat) : Int)], .int .i64 0] := by
  have h : frOk N D = true := by simp [frOk, h1, h2]
  simp [frV, frN, frD, frE, h]
theorem frV_no {N : Int} {D : Nat} (h : ¬ ((frI N D).natAbs ≤ 100000000000000000 ∧ frd N D ≤ 100000000000000000)) : frV N D = .tuple #[.agg #[.int .i64 0, .int .i64 0], .int .i64 8] := by
  have h : frOk N D = false := by
    unfold frOk
    rw [Bool.and_eq_false_iff, decide_eq_false_iff_not, decide_eq_false_iff_not]
    omega
  simp [frV, frN, frD, frE, h]
def turned (num den : Int) : Int := if den < 0 then -num else num
theorem turned_abs (num den : Int) : (turned num den).natAbs = num.natAbs := by unfold turned; split <;> simp
theorem of_num {num den : Int} (hd : den ≠ 0) : frI (turned num den) den.natAbs = if (decide (num < 0) != decide (den < 0)) = true then -((num.natAbs / Nat.gcd num.natAbs den.natAbs : Nat) : Int) else ((num.natAbs / Nat.gcd num.natAbs den.natAbs : Nat) : Int) := by
  have h1 := frI_abs (turned num den) den.natAbs
  have h2 := frI_neg (N := turned num den) (D := den.natAbs) (by omega)
  rw [turned_abs] at h1
  have h3 : num = 0 → num.natAbs / Nat.gcd num.natAbs den.natAbs = 0 := by rintro rfl; simp
  generalize frI (turned num den) den.natAbs = v at *
  generalize num.natAbs / Nat.gcd num.natAbs den.natAbs = m at *
  unfold turned at h2
  by_cases a1 : num < 0 <;> by_cases a2 : den < 0
  · rw [if_pos a2] at h2
    rw [decide_eq_true a1, decide_eq_true a2]
    simp
    omega
  · rw [if_neg a2] at h2
    rw [decide_eq_true a1, decide_eq_false a2]
    simp
    omega
  · rw [if_pos a2] at h2
    rw [decide_eq_false a1, decide_eq_true a2]
    simp
    omega
  · rw [if_neg a2] at h2
    rw [decide_eq_false a1, decide_eq_false a2]
    simp
    omega
theorem of_den (num den : Int) : frd (turned num den) den.natAbs = den.natAbs / Nat.gcd num.natAbs den.natAbs := by unfold frd; rw [turned_abs]
theorem of_abs (num den : Int) : (frI (turned num den) den.natAbs).natAbs = num.natAbs / Nat.gcd num.natAbs den.natAbs := by rw [frI_abs, turned_abs]
theorem tdiv_nat (x g : Nat) : (x : Int).tdiv (g : Int) = ((x / g : Nat) : Int) := by rw [Int.tdiv_eq_ediv_of_nonneg (by omega)]; omega
set_option maxHeartbeats 4000000 in
set_option maxRecDepth 20000 in
theorem Of_zero (num : Int) (w : World) : Calls Tryd.prog 4 #[.int .i64 num, .int .i64 0] w fun e w' => e = .returned (.tuple #[.agg #[.int .i64 0, .int .i64 0], .int .i64 1]) ∧ Cls w w' := by
  go_enter Tryd.func4, Tryd.ntmps4
  go_wp2_with fail
  refine ret_ex rfl ?_
  simp [results, Tryd.results4, go_sem]
  refine Cls.of ?_
  repeat first | with_reducible exact Below.refl _ _ | with_reducible refine Below.setCell ?_ (by first | omega | (simp; done) | (simp; omega)) _ | with_reducible refine Below.alloc ?_ (by first | omega | (simp; done) | (simp; omega)) _ | with_reducible refine Below.drew ?_ | with_reducible refine Ext.on _ ?_ (by first | omega | (simp; done) | (simp; omega))
set_option maxHeartbeats 8000000 in
set_option maxRecDepth 20000 in
theorem Of_calls (num den : Int) (w : World) (hn : In64 num) (hd : In64 den) (h0 : den ≠ 0) :
    Calls Tryd.prog 4 #[.int .i64 num, .int .i64 den] w fun e w' => e = .returned (frV (turned num den) den.natAbs) ∧ Cls w w' := by
  have C1 := Lib.hid (fun W => magnitude_calls num W hn.1 hn.2)
  have C2 := Lib.hid (fun W => magnitude_calls den W hd.1 hd.2)
  have C3 := Lib.hid (fun W => divisor_calls num.natAbs den.natAbs W (by unfold In64 at hn; omega) (by unfold In64 at hd; omega))
  have hg := gcd_pos_right (a := num.natAbs) (b := den.natAbs) (by omega)
  have E1 := Lib.hid (of_num (num := num) h0)
  have E2 := Lib.hid (of_den num den)
  have E3 := Lib.hid (of_abs num den)
  have G1 : num.natAbs / Nat.gcd num.natAbs den.natAbs < 18446744073709551616 := Nat.lt_of_le_of_lt (Nat.div_le_self _ _) (by unfold In64 at hn; omega)
  have G2 : den.natAbs / Nat.gcd num.natAbs den.natAbs < 18446744073709551616 := Nat.lt_of_le_of_lt (Nat.div_le_self _ _) (by unfold In64 at hd; omega)
  have q1 := tdiv_nat num.natAbs (Nat.gcd num.natAbs den.natAbs)
  have q2 := tdiv_nat den.natAbs (Nat.gcd num.natAbs den.natAbs)
  have d0 : (den == 0) = false := by simpa using h0
  have HD0 := Lib.hid h0
  generalize hxm : num.natAbs = xm at *
  generalize hym : den.natAbs = ym at *
  clear hxm hym
  generalize Nat.gcd xm ym = g at *
  have q3 : ¬ ((g : Int) = 0) := by omega
  have q4 : ¬ (g = 0) := by omega
  generalize xm / g = p at *
  generalize ym / g = q at *
  have q5 : IntKind.u64.wrap (p : Int) = (p : Int) := u64_id G1
  have q6 : IntKind.u64.wrap (q : Int) = (q : Int) := u64_id G2
  clear hn hd
  by_cases hp : p ≤ 100000000000000000
  · have b1 : decide (100000000000000000 < p) = false := decide_eq_false (by omega)
    by_cases hq : q ≤ 100000000000000000
    · have b2 : decide (100000000000000000 < q) = false := decide_eq_false (by omega)
      cases ha : decide (num < 0) <;> cases hb : decide (den < 0) <;> rw [ha, hb] at E1
      · have HV : Hid (frV (turned num den) ym = .tuple #[.agg #[.int .i64 (p : Int), .int .i64 (q : Int)], .int .i64 0]) := Lib.hid (by
          rw [frV_ok (by rw [E3.out]; exact hp) (by rw [E2.out]; exact hq), E1.out, E2.out]; rfl)
        rw [HV.out]
        clear HV E1 E2 E3 HD0
        go_enter Tryd.func4, Tryd.ntmps4
        go_wp2_with (first | (go_at_call 12; (with_reducible refine (C1.out _).mono ?_); rintro e _ ⟨rfl, rfl⟩) | (go_at_call 12; (with_reducible refine (C2.out _).mono ?_); rintro e _ ⟨rfl, rfl⟩) | (go_at_call 13; (with_reducible refine (C3.out _).mono ?_); rintro e _ ⟨rfl, ⟨y1, rfl⟩⟩))
        refine wp_region_on (by kernel_rfl) (by kernel_rfl) ?_
        repeat (go_big_quiet_step (fail))
        refine wpQuiet_nil ?_
        rintro _ ⟨y2, rfl⟩
        obtain ⟨c0, c1, c2, c3, c4⟩ := two_z ((y2.below.block w.heap.size (by simp)).trans (heap_alloc_new w _))
        clear q1 q2 q5 q6
        go_wp2_with fail
        refine ret_ex rfl ?_
        simp [results, Tryd.results4, go_sem, c3, c4]
        refine Cls.of ?_
        repeat first | with_reducible exact Below.refl _ _ | with_reducible refine Below.setCell ?_ (by first | omega | (simp; done) | (simp; omega)) _ | with_reducible refine Below.alloc ?_ (by first | omega | (simp; done) | (simp; omega)) _ | with_reducible refine Below.drew ?_ | with_reducible refine Ext.on _ ?_ (by first | omega | (simp; done) | (simp; omega))
      · have HV : Hid (frV (turned num den) ym = .tuple #[.agg #[.int .i64 (-(p : Int)), .int .i64 (q : Int)], .int .i64 0]) := Lib.hid (by
          rw [frV_ok (by rw [E3.out]; exact hp) (by rw [E2.out]; exact hq), E1.out, E2.out]; rfl)
        rw [HV.out]
        clear HV E1 E2 E3 HD0
        go_enter Tryd.func4, Tryd.ntmps4
        go_wp2_with (first | (go_at_call 12; (with_reducible refine (C1.out _).mono ?_); rintro e _ ⟨rfl, rfl⟩) | (go_at_call 12; (with_reducible refine (C2.out _).mono ?_); rintro e _ ⟨rfl, rfl⟩) | (go_at_call 13; (with_reducible refine (C3.out _).mono ?_); rintro e _ ⟨rfl, ⟨y1, rfl⟩⟩))
        refine wp_region_on (by kernel_rfl) (by kernel_rfl) ?_
        repeat (go_big_quiet_step (fail))
        refine wpQuiet_nil ?_
        rintro _ ⟨y2, rfl⟩
        obtain ⟨c0, c1, c2, c3, c4⟩ := two_z ((y2.below.block w.heap.size (by simp)).trans (heap_alloc_new w _))
        clear q1 q2 q5 q6
        go_wp2_with fail
        refine ret_ex rfl ?_
        simp [results, Tryd.results4, go_sem, c3, c4]
        refine Cls.of ?_
        repeat first | with_reducible exact Below.refl _ _ | with_reducible refine Below.setCell ?_ (by first | omega | (simp; done) | (simp; omega)) _ | with_reducible refine Below.alloc ?_ (by first | omega | (simp; done) | (simp; omega)) _ | with_reducible refine Below.drew ?_ | with_reducible refine Ext.on _ ?_ (by first | omega | (simp; done) | (simp; omega))
      · have HV : Hid (frV (turned num den) ym = .tuple #[.agg #[.int .i64 (-(p : Int)), .int .i64 (q : Int)], .int .i64 0]) := Lib.hid (by
          rw [frV_ok (by rw [E3.out]; exact hp) (by rw [E2.out]; exact hq), E1.out, E2.out]; rfl)
        rw [HV.out]
        clear HV E1 E2 E3 HD0
        go_enter Tryd.func4, Tryd.ntmps4
        go_wp2_with (first | (go_at_call 12; (with_reducible refine (C1.out _).mono ?_); rintro e _ ⟨rfl, rfl⟩) | (go_at_call 12; (with_reducible refine (C2.out _).mono ?_); rintro e _ ⟨rfl, rfl⟩) | (go_at_call 13; (with_reducible refine (C3.out _).mono ?_); rintro e _ ⟨rfl, ⟨y1, rfl⟩⟩))
        refine wp_region_on (by kernel_rfl) (by kernel_rfl) ?_
        repeat (go_big_quiet_step (fail))
        refine wpQuiet_nil ?_
        rintro _ ⟨y2, rfl⟩
        obtain ⟨c0, c1, c2, c3, c4⟩ := two_z ((y2.below.block w.heap.size (by simp)).trans (heap_alloc_new w _))
        clear q1 q2 q5 q6
        go_wp2_with fail
        refine ret_ex rfl ?_
        simp [results, Tryd.results4, go_sem, c3, c4]
        refine Cls.of ?_
        repeat first | with_reducible exact Below.refl _ _ | with_reducible refine Below.setCell ?_ (by first | omega | (simp; done) | (simp; omega)) _ | with_reducible refine Below.alloc ?_ (by first | omega | (simp; done) | (simp; omega)) _ | with_reducible refine Below.drew ?_ | with_reducible refine Ext.on _ ?_ (by first | omega | (simp; done) | (simp; omega))
      · have HV : Hid (frV (turned num den) ym = .tuple #[.agg #[.int .i64 (p : Int), .int .i64 (q : Int)], .int .i64 0]) := Lib.hid (by
          rw [frV_ok (by rw [E3.out]; exact hp) (by rw [E2.out]; exact hq), E1.out, E2.out]; rfl)
        rw [HV.out]
        clear HV E1 E2 E3 HD0
        go_enter Tryd.func4, Tryd.ntmps4
        go_wp2_with (first | (go_at_call 12; (with_reducible refine (C1.out _).mono ?_); rintro e _ ⟨rfl, rfl⟩) | (go_at_call 12; (with_reducible refine (C2.out _).mono ?_); rintro e _ ⟨rfl, rfl⟩) | (go_at_call 13; (with_reducible refine (C3.out _).mono ?_); rintro e _ ⟨rfl, ⟨y1, rfl⟩⟩))
        refine wp_region_on (by kernel_rfl) (by kernel_rfl) ?_
        repeat (go_big_quiet_step (fail))
        refine wpQuiet_nil ?_
        rintro _ ⟨y2, rfl⟩
        obtain ⟨c0, c1, c2, c3, c4⟩ := two_z ((y2.below.block w.heap.size (by simp)).trans (heap_alloc_new w _))
        clear q1 q2 q5 q6
        go_wp2_with fail
        refine ret_ex rfl ?_
        simp [results, Tryd.results4, go_sem, c3, c4]
        refine Cls.of ?_
        repeat first | with_reducible exact Below.refl _ _ | with_reducible refine Below.setCell ?_ (by first | omega | (simp; done) | (simp; omega)) _ | with_reducible refine Below.alloc ?_ (by first | omega | (simp; done) | (simp; omega)) _ | with_reducible refine Below.drew ?_ | with_reducible refine Ext.on _ ?_ (by first | omega | (simp; done) | (simp; omega))
    · have b2 : decide (100000000000000000 < q) = true := decide_eq_true (by omega)
      have HV : Hid (frV (turned num den) ym = .tuple #[.agg #[.int .i64 0, .int .i64 0], .int .i64 8]) := Lib.hid (frV_no (by rw [E2.out]; exact fun h => hq h.2))
      rw [HV.out]
      clear HV E1 E2 E3 HD0
      go_enter Tryd.func4, Tryd.ntmps4
      go_wp2_with (first | (go_at_call 12; (with_reducible refine (C1.out _).mono ?_); rintro e _ ⟨rfl, rfl⟩) | (go_at_call 12; (with_reducible refine (C2.out _).mono ?_); rintro e _ ⟨rfl, rfl⟩) | (go_at_call 13; (with_reducible refine (C3.out _).mono ?_); rintro e _ ⟨rfl, ⟨y1, rfl⟩⟩))
      refine wp_region_on (by kernel_rfl) (by kernel_rfl) ?_
      repeat (go_big_quiet_step (fail))
      refine wpQuiet_nil ?_
      rintro _ ⟨y2, rfl⟩
      obtain ⟨c0, c1, c2, c3, c4⟩ := two_z ((y2.below.block w.heap.size (by simp)).trans (heap_alloc_new w _))
      clear q1 q2 q5 q6
      go_wp2_with fail
      refine ret_ex rfl ?_
      simp [results, Tryd.results4, go_sem, c3, c4]
      refine Cls.of ?_
      repeat first | with_reducible exact Below.refl _ _ | with_reducible refine Below.setCell ?_ (by first | omega | (simp; done) | (simp; omega)) _ | with_reducible refine Below.alloc ?_ (by first | omega | (simp; done) | (simp; omega)) _ | with_reducible refine Below.drew ?_ | with_reducible refine Ext.on _ ?_ (by first | omega | (simp; done) | (simp; omega))
  · have b1 : decide (100000000000000000 < p) = true := decide_eq_true (by omega)
    have HV : Hid (frV (turned num den) ym = .tuple #[.agg #[.int .i64 0, .int .i64 0], .int .i64 8]) := Lib.hid (frV_no (by rw [E3.out]; exact fun h => hp h.1))
    rw [HV.out]
    clear HV E1 E2 E3 HD0
    go_enter Tryd.func4, Tryd.ntmps4
    go_wp2_with (first | (go_at_call 12; (with_reducible refine (C1.out _).mono ?_); rintro e _ ⟨rfl, rfl⟩) | (go_at_call 12; (with_reducible refine (C2.out _).mono ?_); rintro e _ ⟨rfl, rfl⟩) | (go_at_call 13; (with_reducible refine (C3.out _).mono ?_); rintro e _ ⟨rfl, ⟨y1, rfl⟩⟩))
    refine wp_region_on (by kernel_rfl) (by kernel_rfl) ?_
    repeat (go_big_quiet_step (fail))
    refine wpQuiet_nil ?_
    rintro _ ⟨y2, rfl⟩
    obtain ⟨c0, c1, c2, c3, c4⟩ := two_z ((y2.below.block w.heap.size (by simp)).trans (heap_alloc_new w _))
    clear q1 q2 q5 q6
    go_wp2_with fail
    refine ret_ex rfl ?_
    simp [results, Tryd.results4, go_sem, c3, c4]
    refine Cls.of ?_
    repeat first | with_reducible exact Below.refl _ _ | with_reducible refine Below.setCell ?_ (by first | omega | (simp; done) | (simp; omega)) _ | with_reducible refine Below.alloc ?_ (by first | omega | (simp; done) | (simp; omega)) _ | with_reducible refine Below.drew ?_ | with_reducible refine Ext.on _ ?_ (by first | omega | (simp; done) | (simp; omega))
end Go.Proofs.YtogjollefllajaaDoor
