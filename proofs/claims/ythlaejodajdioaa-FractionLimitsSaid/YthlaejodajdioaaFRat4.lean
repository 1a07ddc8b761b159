/-
  The program's fractions: sums of great numbers.
-/
import Derived.Test.YthlaejodajdioaaFRat3
import Derived.Test.YthlaejodajdioaaFOrdM
import Derived.Test.YthlaejodajdioaaNew
set_option linter.unusedVariables false
namespace Go.Proofs.Ythlaejodajdioaa
open Go Go.RowKit Go.Deep
/-- What the sum of great numbers goes through. -/
structure PlW (an bn : Int) (ad bd s l r c u : Nat) (num : Int) : Prop where
  hs : s = Nat.gcd ad bd
  hl : s * l = ad
  hr : s * r = bd
  hnum : num = an * r + bn * l
  hc : c = Nat.gcd num.natAbs s
  hv : (c : Int) * frI (an * bd + bn * ad) (ad * bd) = num
  hu : c * u = bd
  hd : frd (an * bd + bn * ad) (ad * bd) = l * u
theorem plW (an bn : Int) (ad bd : Nat) (ha : 0 < ad) (hb : 0 < bd) (h1 : Nat.gcd an.natAbs ad = 1) (h2 : Nat.gcd bn.natAbs bd = 1) :
    PlW an bn ad bd (Nat.gcd ad bd) (ad / Nat.gcd ad bd) (bd / Nat.gcd ad bd) (Nat.gcd (an * ((bd / Nat.gcd ad bd : Nat) : Int) + bn * ((ad / Nat.gcd ad bd : Nat) : Int)).natAbs (Nat.gcd ad bd)) (bd / Nat.gcd (an * ((bd / Nat.gcd ad bd : Nat) : Int) + bn * ((ad / Nat.gcd ad bd : Nat) : Int)).natAbs (Nat.gcd ad bd)) (an * ((bd / Nat.gcd ad bd : Nat) : Int) + bn * ((ad / Nat.gcd ad bd : Nat) : Int)) := by
  have hl : Nat.gcd ad bd * (ad / Nat.gcd ad bd) = ad := Nat.mul_div_cancel' (Nat.gcd_dvd_left _ _)
  have hr : Nat.gcd ad bd * (bd / Nat.gcd ad bd) = bd := Nat.mul_div_cancel' (Nat.gcd_dvd_right _ _)
  have hcs : Nat.gcd (an * ((bd / Nat.gcd ad bd : Nat) : Int) + bn * ((ad / Nat.gcd ad bd : Nat) : Int)).natAbs (Nat.gcd ad bd) ∣ bd := Nat.dvd_trans (Nat.gcd_dvd_right _ _) (Nat.gcd_dvd_right _ _)
  have hu := Nat.mul_div_cancel' hcs
  have hcn : ((Nat.gcd (an * ((bd / Nat.gcd ad bd : Nat) : Int) + bn * ((ad / Nat.gcd ad bd : Nat) : Int)).natAbs (Nat.gcd ad bd) : Nat) : Int) ∣ (an * ((bd / Nat.gcd ad bd : Nat) : Int) + bn * ((ad / Nat.gcd ad bd : Nat) : Int)) := natCast_dvd'.2 (Nat.gcd_dvd_left _ _)
  obtain ⟨x, hx⟩ := hcn
  obtain ⟨e1, e2⟩ := sum_wide ha hb h1 h2 rfl hl hr rfl rfl hx.symm hu
  exact ⟨rfl, hl, hr, rfl, rfl, by rw [e1]; exact hx.symm, hu, e2⟩
theorem nat_le_of_mul {a b c : Nat} (h : a * b = c) (hc : 0 < c) : 0 < a ∧ 0 < b ∧ a ≤ c ∧ b ≤ c := by
  have ha : 0 < a := by
    rcases Nat.eq_zero_or_pos a with h0 | h0
    · rw [h0, Nat.zero_mul] at h; omega
    · exact h0
  have hb : 0 < b := by
    rcases Nat.eq_zero_or_pos b with h0 | h0
    · rw [h0, Nat.mul_zero] at h; omega
    · exact h0
  refine ⟨ha, hb, ?_, ?_⟩
  · rw [← h]; exact Nat.le_mul_of_pos_right a hb
  · rw [← h]; exact Nat.le_mul_of_pos_left b ha
set_option maxHeartbeats 16000000 in
set_option maxRecDepth 20000 in
theorem plus_great (an bn : Int) (ad bd : Nat) (w : World) (ha : vaB an ad = true) (hb : vaB bn bd = true) (sm1 : Bool) (h1 : smB an ad = sm1) (h2 : sm1 = true → smB bn bd = false) :
    Calls Try.prog 22 #[.agg #[.int .i64 an, .int .i64 (ad : Int)], .agg #[.int .i64 bn, .int .i64 (bd : Int)]] w fun e w' => e = .returned (frV (an * bd + bn * ad) (ad * bd)) ∧ Cls w w' := by
  have S1 := Lib.hid (fun W => small_calls an ad W)
  have S2 := Lib.hid (fun W => small_calls bn bd W)
  rw [h1] at S1
  obtain ⟨a1, a2, a3, a4⟩ := vaB_rng ha
  obtain ⟨b1, b2, b3, b4⟩ := vaB_rng hb
  have hp := plW an bn ad bd (by omega) (by omega) (by have := vaB_gcd ha; simpa using this) (by have := vaB_gcd hb; simpa using this)
  generalize Nat.gcd (an * ((bd / Nat.gcd ad bd : Nat) : Int) + bn * ((ad / Nat.gcd ad bd : Nat) : Int)).natAbs (Nat.gcd ad bd) = c at *
  generalize (an * ((bd / Nat.gcd ad bd : Nat) : Int) + bn * ((ad / Nat.gcd ad bd : Nat) : Int)) = num at *
  generalize hlq : ad / Nat.gcd ad bd = l at *
  generalize hrq : bd / Nat.gcd ad bd = r at *
  generalize huq : bd / c = u at *
  obtain ⟨s, hsq⟩ : ∃ s, s = Nat.gcd ad bd := ⟨_, rfl⟩
  rw [← hsq] at hp hlq hrq
  obtain ⟨l1, l2, l3, l4⟩ := nat_le_of_mul hp.hl (by omega)
  obtain ⟨r1, r2, r3, r4⟩ := nat_le_of_mul hp.hr (by omega)
  obtain ⟨u1, u2, u3, u4⟩ := nat_le_of_mul hp.hu (by omega)
  have i1 := mul_in (n := an) (d := r) ⟨a3, a4⟩ ⟨by omega, by omega⟩
  have i2 := mul_in (n := bn) (d := l) ⟨b3, b4⟩ ⟨by omega, by omega⟩
  have i3 := mul_in (n := l) (d := u) ⟨by omega, by omega⟩ ⟨by omega, by omega⟩
  have hnum := hp.hnum
  have j1 : In128 num := by unfold In128; rw [hnum]; omega
  have hov : overI num c = frI (an * bd + bn * ad) (ad * bd) := over_exact u1 hp.hv
  have hcm : Nat.gcd (num.natAbs % s) s = c := by rw [gcd_mod, hp.hc]
  have hvb : (frI (an * bd + bn * ad) (ad * bd)).natAbs ≤ num.natAbs := by
    rw [← hp.hv, Int.natAbs_mul, Int.natAbs_natCast]
    exact Nat.le_mul_of_pos_left _ u1
  have j2 : In128 (frI (an * bd + bn * ad) (ad * bd)) := by unfold In128 at *; omega
  have j3 : In128 ((frd (an * bd + bn * ad) (ad * bd) : Nat) : Int) := by rw [hp.hd, Int.natCast_mul]; unfold In128; omega
  have D1 := Lib.hid (fun W => divisor_calls ad bd W (by omega) (by omega))
  have P1 := Lib.hid (fun W => product_calls an r W (by omega) (by omega))
  have P2 := Lib.hid (fun W => product_calls bn l W (by omega) (by omega))
  have P3 := Lib.hid (fun W => wplus_calls (an * r) (bn * l) W)
  have P4 := Lib.hid (fun W => wmodulo_calls num s W j1 r1 (by omega))
  have D2 := Lib.hid (fun W => divisor_calls (num.natAbs % s) s W (Nat.lt_of_lt_of_le (Nat.mod_lt _ r1) (by omega)) (by omega))
  have P5 := Lib.hid (fun W => wover_calls num c W j1 u1 (by omega))
  have P6 := Lib.hid (fun W => product_calls l u W (by omega) (by omega))
  have P7 := Lib.hid (fun W => fitting_calls (an * bd + bn * ad) (ad * bd) W j2 j3)
  rw [← hsq] at D1
  rw [← hnum] at P3
  rw [hcm] at D2
  rw [hov] at P5
  rw [show ((l : Int) * (u : Int)) = ((frd (an * bd + bn * ad) (ad * bd) : Nat) : Int) by rw [hp.hd, Int.natCast_mul]] at P6
  have HVE : frV (an * bd + bn * ad) (ad * bd) = .tuple #[.agg #[.int .i64 (frN (an * bd + bn * ad) (ad * bd)), .int .i64 (frD (an * bd + bn * ad) (ad * bd))], .int .i64 (frE (an * bd + bn * ad) (ad * bd))] := rfl
  rw [HVE] at P7 ⊢
  have t1 : (ad : Int).tdiv (s : Int) = (l : Int) := by rw [tdiv_nat', hlq]
  have t2 : (bd : Int).tdiv (s : Int) = (r : Int) := by rw [tdiv_nat', hrq]
  have t3 : (bd : Int).tdiv (c : Int) = (u : Int) := by rw [tdiv_nat', huq]
  have q1 : IntKind.i64.wrap (s : Int) = (s : Int) := i64_id (by omega) (by omega)
  have q2 : IntKind.i64.wrap (c : Int) = (c : Int) := i64_id (by omega) (by omega)
  have q3 : IntKind.i64.wrap (l : Int) = (l : Int) := i64_id (by omega) (by omega)
  have q4 : IntKind.i64.wrap (r : Int) = (r : Int) := i64_id (by omega) (by omega)
  have q5 : IntKind.i64.wrap (u : Int) = (u : Int) := i64_id (by omega) (by omega)
  have q6 : IntKind.u64.wrap (ad : Int) = (ad : Int) := u64_id (by omega)
  have q7 : IntKind.u64.wrap (bd : Int) = (bd : Int) := u64_id (by omega)
  have z1 : ¬ (s : Int) = 0 := by omega
  have z2 : ¬ s = 0 := by omega
  have z3 : ¬ (c : Int) = 0 := by omega
  have z4 : ¬ c = 0 := by omega
  have bs : s ≤ 100000000000000000 := by omega
  have bc : c ≤ 100000000000000000 := by omega
  clear HVE hp hlq hrq huq hsq hnum hov hcm hvb j1 j2 j3 i1 i2 i3 ha hb h1
  generalize frN (an * bd + bn * ad) (ad * bd) = rn at *
  generalize frD (an * bd + bn * ad) (ad * bd) = rd at *
  generalize frE (an * bd + bn * ad) (ad * bd) = re at *
  generalize wHi (frI (an * bd + bn * ad) (ad * bd)) = x1 at *
  generalize wLo (frI (an * bd + bn * ad) (ad * bd)) = x2 at *
  generalize wHi ((frd (an * bd + bn * ad) (ad * bd) : Nat) : Int) = x3 at *
  generalize wLo ((frd (an * bd + bn * ad) (ad * bd) : Nat) : Int) = x4 at *
  generalize num.natAbs % s = mm at *
  generalize wHi num = x5 at *
  generalize wLo num = x6 at *
  generalize wHi (an * (r : Int)) = x7 at *
  generalize wLo (an * (r : Int)) = x8 at *
  generalize wHi (bn * (l : Int)) = x9 at *
  generalize wLo (bn * (l : Int)) = x10 at *
  go_enter Try.func22, Try.ntmps22
  cases sm1
  · clear h2 S2
    go_wp2_with (first | (go_at_call 43; (with_reducible refine (S1.out _).mono ?_); rintro e _ ⟨rfl, ⟨y1, rfl⟩⟩; have y1s := y1.size; (try simp at y1s); have y1a : w.heap.size < y1.val.heap.size := (by omega); have y1b : w.heap.size + 1 < y1.val.heap.size := (by omega); have y1c : w.heap.size + 1 + 1 < y1.val.heap.size := (by omega)) | (go_at_call 27; (with_reducible refine (D1.out _).mono ?_); rintro e _ ⟨rfl, ⟨y2, rfl⟩⟩; have y2s := y2.size; (try simp at y2s); have y2a : w.heap.size < y2.val.heap.size := (by omega); have y2b : w.heap.size + 1 < y2.val.heap.size := (by omega); have y2c : w.heap.size + 1 + 1 < y2.val.heap.size := (by omega)))
    have HB := Lib.hid ((y2.below.block (w.heap.size + 1 + 1) (by omega)).trans ((y1.below.block (w.heap.size + 1 + 1) (by simp)).trans (new_at2 w _ _ _ _)))
    refine wp_region_ext (by kernel_rfl) (by kernel_rfl) ?_
    repeat (go_big_quiet_step (fail))
    refine wpQuiet_nil ?_
    rintro _ ⟨y3, rfl⟩
    have y3s := y3.size
    (try simp at y3s)
    have y3a : w.heap.size < y3.val.heap.size := (by omega)
    have y3b : w.heap.size + 1 < y3.val.heap.size := (by omega)
    have y3c : w.heap.size + 1 + 1 < y3.val.heap.size := (by omega)
    go_wp2_with fail
    refine wp_region_new1 9 (.cells #[.int .u64 0, .int .u64 0] 60) _ 9 (by kernel_rfl) (by kernel_rfl) rfl rfl (fun _ _ => by go_simp) ?_
    simp only [List.take_succ_cons, List.take_zero, List.drop_succ_cons, List.drop_zero]
    repeat (refine wpR_step (fun K hK => ?_); go_simp; first | (refine hK _ ?_; clear hK K) | (apply Exists.intro; refine ⟨fun z => ?_, hK _ ?_⟩; (first | (go_at_call 40; with_reducible exact P1.out _) | (go_at_call 40; with_reducible exact P2.out _) | (go_at_call 44; with_reducible exact P3.out _)); clear hK K))
    refine wpR_nil ?_
    intro nb y4 hb1 hb2 hb3
    have y4s := y4.size
    (try simp at y4s)
    have y4a : w.heap.size < y4.val.heap.size := (by omega)
    have y4b : w.heap.size + 1 < y4.val.heap.size := (by omega)
    have y4c : w.heap.size + 1 + 1 < y4.val.heap.size := (by omega)
    obtain ⟨e0, e1, e2, e3, e4⟩ := two_z hb3
    clear hb3
    go_wp2_with (first | (go_at_call 45; (with_reducible refine (P4.out _).mono ?_); rintro e _ ⟨rfl, ⟨y5, rfl⟩⟩; have y5s := y5.size; (try simp at y5s); have y5a : w.heap.size < y5.val.heap.size := (by omega); have y5b : w.heap.size + 1 < y5.val.heap.size := (by omega); have y5c : w.heap.size + 1 + 1 < y5.val.heap.size := (by omega); have y5d : nb < y5.val.heap.size := (by omega)) | (go_at_call 27; (with_reducible refine (D2.out _).mono ?_); rintro e _ ⟨rfl, ⟨y6, rfl⟩⟩; have y6s := y6.size; (try simp at y6s); have y6a : w.heap.size < y6.val.heap.size := (by omega); have y6b : w.heap.size + 1 < y6.val.heap.size := (by omega); have y6c : w.heap.size + 1 + 1 < y6.val.heap.size := (by omega); have y6d : nb < y6.val.heap.size := (by omega)))
    refine wp_region_ext_tail 13 (by kernel_rfl) (by kernel_rfl) ?_
    simp only [List.take_succ_cons, List.take_zero, List.drop_succ_cons, List.drop_zero]
    repeat (go_big_quiet_step (first | (go_at_call 47; with_reducible exact Cls.call (P5.out _)) | (go_at_call 40; with_reducible exact Cls.call (P6.out _)) | (go_at_call 46; with_reducible exact Cls.call (P7.out _))))
    refine wpQuiet_nil ?_
    rintro _ ⟨y7, rfl⟩
    have y7s := y7.size
    (try simp at y7s)
    have y7a : w.heap.size < y7.val.heap.size := (by omega)
    have y7b : w.heap.size + 1 < y7.val.heap.size := (by omega)
    have y7c : w.heap.size + 1 + 1 < y7.val.heap.size := (by omega)
    have hbl : Below y2.val.heap.size y2.val y7.val := by repeat first | with_reducible exact Below.refl _ _ | with_reducible refine Below.setCell ?_ (by first | omega | (simp; done) | (simp; omega)) _ | with_reducible refine Below.alloc ?_ (by first | omega | (simp; done) | (simp; omega)) _ | with_reducible refine Below.drew ?_ | with_reducible refine Ext.on _ ?_ (by first | omega | (simp; done) | (simp; omega))
    obtain ⟨c0, c1, c2, c3, c4⟩ := two_z ((hbl.block (w.heap.size + 1 + 1) y2c).trans HB.out)
    have HBL := Lib.hid hbl
    clear hbl
    go_wp2_with fail
    refine ret_ex rfl ?_
    simp [results, Try.results22, go_sem, c3, c4]
    refine Cls.of ?_
    repeat first | with_reducible exact Below.refl _ _ | with_reducible refine Below.setCell ?_ (by first | omega | (simp; done) | (simp; omega)) _ | with_reducible refine Below.alloc ?_ (by first | omega | (simp; done) | (simp; omega)) _ | with_reducible refine Below.drew ?_ | with_reducible refine Ext.on _ ?_ (by first | omega | (simp; done) | (simp; omega))
  · rw [h2 rfl] at S2
    clear h2
    go_wp2_with (first | (go_at_call 43; (with_reducible refine (S1.out _).mono ?_); rintro e _ ⟨rfl, ⟨y1, rfl⟩⟩; have y1s := y1.size; (try simp at y1s); have y1a : w.heap.size < y1.val.heap.size := (by omega); have y1b : w.heap.size + 1 < y1.val.heap.size := (by omega); have y1c : w.heap.size + 1 + 1 < y1.val.heap.size := (by omega)) | (go_at_call 43; (with_reducible refine (S2.out _).mono ?_); rintro e _ ⟨rfl, ⟨y0, rfl⟩⟩; have y0s := y0.size; (try simp at y0s); have y0a : w.heap.size < y0.val.heap.size := (by omega); have y0b : w.heap.size + 1 < y0.val.heap.size := (by omega); have y0c : w.heap.size + 1 + 1 < y0.val.heap.size := (by omega)) | (go_at_call 27; (with_reducible refine (D1.out _).mono ?_); rintro e _ ⟨rfl, ⟨y2, rfl⟩⟩; have y2s := y2.size; (try simp at y2s); have y2a : w.heap.size < y2.val.heap.size := (by omega); have y2b : w.heap.size + 1 < y2.val.heap.size := (by omega); have y2c : w.heap.size + 1 + 1 < y2.val.heap.size := (by omega)))
    have HB := Lib.hid ((y2.below.block (w.heap.size + 1 + 1) (by omega)).trans ((y0.below.block (w.heap.size + 1 + 1) (by omega)).trans ((y1.below.block (w.heap.size + 1 + 1) (by simp)).trans (new_at2 w _ _ _ _))))
    refine wp_region_ext (by kernel_rfl) (by kernel_rfl) ?_
    repeat (go_big_quiet_step (fail))
    refine wpQuiet_nil ?_
    rintro _ ⟨y3, rfl⟩
    have y3s := y3.size
    (try simp at y3s)
    have y3a : w.heap.size < y3.val.heap.size := (by omega)
    have y3b : w.heap.size + 1 < y3.val.heap.size := (by omega)
    have y3c : w.heap.size + 1 + 1 < y3.val.heap.size := (by omega)
    go_wp2_with fail
    refine wp_region_new1 9 (.cells #[.int .u64 0, .int .u64 0] 60) _ 9 (by kernel_rfl) (by kernel_rfl) rfl rfl (fun _ _ => by go_simp) ?_
    simp only [List.take_succ_cons, List.take_zero, List.drop_succ_cons, List.drop_zero]
    repeat (refine wpR_step (fun K hK => ?_); go_simp; first | (refine hK _ ?_; clear hK K) | (apply Exists.intro; refine ⟨fun z => ?_, hK _ ?_⟩; (first | (go_at_call 40; with_reducible exact P1.out _) | (go_at_call 40; with_reducible exact P2.out _) | (go_at_call 44; with_reducible exact P3.out _)); clear hK K))
    refine wpR_nil ?_
    intro nb y4 hb1 hb2 hb3
    have y4s := y4.size
    (try simp at y4s)
    have y4a : w.heap.size < y4.val.heap.size := (by omega)
    have y4b : w.heap.size + 1 < y4.val.heap.size := (by omega)
    have y4c : w.heap.size + 1 + 1 < y4.val.heap.size := (by omega)
    obtain ⟨e0, e1, e2, e3, e4⟩ := two_z hb3
    clear hb3
    go_wp2_with (first | (go_at_call 45; (with_reducible refine (P4.out _).mono ?_); rintro e _ ⟨rfl, ⟨y5, rfl⟩⟩; have y5s := y5.size; (try simp at y5s); have y5a : w.heap.size < y5.val.heap.size := (by omega); have y5b : w.heap.size + 1 < y5.val.heap.size := (by omega); have y5c : w.heap.size + 1 + 1 < y5.val.heap.size := (by omega); have y5d : nb < y5.val.heap.size := (by omega)) | (go_at_call 27; (with_reducible refine (D2.out _).mono ?_); rintro e _ ⟨rfl, ⟨y6, rfl⟩⟩; have y6s := y6.size; (try simp at y6s); have y6a : w.heap.size < y6.val.heap.size := (by omega); have y6b : w.heap.size + 1 < y6.val.heap.size := (by omega); have y6c : w.heap.size + 1 + 1 < y6.val.heap.size := (by omega); have y6d : nb < y6.val.heap.size := (by omega)))
    refine wp_region_ext_tail 13 (by kernel_rfl) (by kernel_rfl) ?_
    simp only [List.take_succ_cons, List.take_zero, List.drop_succ_cons, List.drop_zero]
    repeat (go_big_quiet_step (first | (go_at_call 47; with_reducible exact Cls.call (P5.out _)) | (go_at_call 40; with_reducible exact Cls.call (P6.out _)) | (go_at_call 46; with_reducible exact Cls.call (P7.out _))))
    refine wpQuiet_nil ?_
    rintro _ ⟨y7, rfl⟩
    have y7s := y7.size
    (try simp at y7s)
    have y7a : w.heap.size < y7.val.heap.size := (by omega)
    have y7b : w.heap.size + 1 < y7.val.heap.size := (by omega)
    have y7c : w.heap.size + 1 + 1 < y7.val.heap.size := (by omega)
    have hbl : Below y2.val.heap.size y2.val y7.val := by repeat first | with_reducible exact Below.refl _ _ | with_reducible refine Below.setCell ?_ (by first | omega | (simp; done) | (simp; omega)) _ | with_reducible refine Below.alloc ?_ (by first | omega | (simp; done) | (simp; omega)) _ | with_reducible refine Below.drew ?_ | with_reducible refine Ext.on _ ?_ (by first | omega | (simp; done) | (simp; omega))
    obtain ⟨c0, c1, c2, c3, c4⟩ := two_z ((hbl.block (w.heap.size + 1 + 1) y2c).trans HB.out)
    have HBL := Lib.hid hbl
    clear hbl
    go_wp2_with fail
    refine ret_ex rfl ?_
    simp [results, Try.results22, go_sem, c3, c4]
    refine Cls.of ?_
    repeat first | with_reducible exact Below.refl _ _ | with_reducible refine Below.setCell ?_ (by first | omega | (simp; done) | (simp; omega)) _ | with_reducible refine Below.alloc ?_ (by first | omega | (simp; done) | (simp; omega)) _ | with_reducible refine Below.drew ?_ | with_reducible refine Ext.on _ ?_ (by first | omega | (simp; done) | (simp; omega))
theorem plus_calls' (an bn : Int) (ad bd : Nat) (w : World) (ha : vaB an ad = true) (hb : vaB bn bd = true) :
    Calls Try.prog 22 #[.agg #[.int .i64 an, .int .i64 (ad : Int)], .agg #[.int .i64 bn, .int .i64 (bd : Int)]] w fun e w' => e = .returned (frV (an * bd + bn * ad) (ad * bd)) ∧ Cls w w' := by
  cases h1 : smB an ad
  · exact plus_great an bn ad bd w ha hb false h1 (fun h => by cases h)
  · cases h2 : smB bn bd
    · exact plus_great an bn ad bd w ha hb true h1 (fun _ => h2)
    · exact plus_small an bn ad bd w ha hb h1 h2
end Go.Proofs.Ythlaejodajdioaa
