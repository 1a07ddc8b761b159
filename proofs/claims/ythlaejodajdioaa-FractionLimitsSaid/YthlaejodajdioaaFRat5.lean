/-
  The program's fractions: products.
-/
import Derived.Test.YthlaejodajdioaaFRat4
set_option linter.unusedVariables false
namespace Go.Proofs.Ythlaejodajdioaa
open Go Go.RowKit Go.Deep
set_option maxHeartbeats 8000000 in
set_option maxRecDepth 20000 in
theorem times_small (an bn : Int) (ad bd : Nat) (w : World) (ha : vaB an ad = true) (hb : vaB bn bd = true) (h1 : smB an ad = true) (h2 : smB bn bd = true) :
    Calls Try.prog 34 #[.agg #[.int .i64 an, .int .i64 (ad : Int)], .agg #[.int .i64 bn, .int .i64 (bd : Int)]] w fun e w' => e = .returned (frV (an * bn) (ad * bd)) ∧ Cls w w' := by
  have S1 := Lib.hid (fun W => small_calls an ad W)
  have S2 := Lib.hid (fun W => small_calls bn bd W)
  obtain ⟨a1, _, _, _⟩ := vaB_rng ha
  obtain ⟨b1, _, _, _⟩ := vaB_rng hb
  obtain ⟨a2, a3, a4⟩ := smB_rng h1
  obtain ⟨b2, b3, b4⟩ := smB_rng h2
  have m1 := mul_small (n := an) (d := bn) ⟨a2, a3⟩ ⟨b2, b3⟩
  have m3 := mul_small (n := ad) (d := bd) ⟨by omega, a4⟩ ⟨by omega, b4⟩
  have m4 : 0 < ad * bd := Nat.mul_pos (by omega) (by omega)
  have e0 : ((ad : Int) * (bd : Int)) = ((ad * bd : Nat) : Int) := (Int.natCast_mul _ _).symm
  have C1 := Lib.hid (fun W => Of_calls (an * bn) ((ad : Int) * (bd : Int)) W (by unfold In64; omega) (by unfold In64; omega) (by omega))
  have et : turned (an * bn) ((ad : Int) * (bd : Int)) = an * bn := by unfold turned; rw [if_neg (by omega)]
  have ed : ((ad : Int) * (bd : Int)).natAbs = ad * bd := by rw [e0]; rfl
  rw [et, ed] at C1
  rw [h1] at S1
  rw [h2] at S2
  have q1 : IntKind.i64.wrap (an * bn) = an * bn := i64_id (by omega) (by omega)
  have q3 : IntKind.i64.wrap ((ad : Int) * (bd : Int)) = (ad : Int) * (bd : Int) := i64_id (by omega) (by omega)
  clear h1 h2 e0 et ed ha hb
  have HVE : frV (an * bn) (ad * bd) = .tuple #[.agg #[.int .i64 (frN (an * bn) (ad * bd)), .int .i64 (frD (an * bn) (ad * bd))], .int .i64 (frE (an * bn) (ad * bd))] := rfl
  rw [HVE] at C1 ⊢
  clear HVE
  generalize frN (an * bn) (ad * bd) = rn at *
  generalize frD (an * bn) (ad * bd) = rd at *
  generalize frE (an * bn) (ad * bd) = re at *
  go_enter Try.func34, Try.ntmps34
  go_wp2_with (first | (go_at_call 43; (with_reducible refine (S1.out _).mono ?_); rintro e _ ⟨rfl, ⟨y1, rfl⟩⟩; have y1s := y1.size; (try simp at y1s); have y1a : w.heap.size < y1.val.heap.size := (by omega); have y1b : w.heap.size + 1 < y1.val.heap.size := (by omega); have y1c : w.heap.size + 1 + 1 < y1.val.heap.size := (by omega)) | (go_at_call 43; (with_reducible refine (S2.out _).mono ?_); rintro e _ ⟨rfl, ⟨y2, rfl⟩⟩; have y2s := y2.size; (try simp at y2s); have y2a : w.heap.size < y2.val.heap.size := (by omega); have y2b : w.heap.size + 1 < y2.val.heap.size := (by omega); have y2c : w.heap.size + 1 + 1 < y2.val.heap.size := (by omega)) | (go_at_call 17; (with_reducible refine (C1.out _).mono ?_); rintro e _ ⟨rfl, ⟨y3, rfl⟩⟩; have y3s := y3.size; (try simp at y3s); have y3a : w.heap.size < y3.val.heap.size := (by omega); have y3b : w.heap.size + 1 < y3.val.heap.size := (by omega); have y3c : w.heap.size + 1 + 1 < y3.val.heap.size := (by omega); obtain ⟨c0, c1, c2, c3, c4⟩ := two_z ((y3.below.block (w.heap.size + 1 + 1) (by omega)).trans ((y2.below.block (w.heap.size + 1 + 1) (by omega)).trans ((y1.below.block (w.heap.size + 1 + 1) (by simp)).trans (new_at2 w _ _ _ _))))))
  refine ret_ex rfl ?_
  simp [results, Try.results34, go_sem, c3, c4]
  refine Cls.of ?_
  repeat first | with_reducible exact Below.refl _ _ | with_reducible refine Below.setCell ?_ (by first | omega | (simp; done) | (simp; omega)) _ | with_reducible refine Below.alloc ?_ (by first | omega | (simp; done) | (simp; omega)) _ | with_reducible refine Below.drew ?_ | with_reducible refine Ext.on _ ?_ (by first | omega | (simp; done) | (simp; omega))
structure TiW (an bn : Int) (ad bd o p u t : Nat) (x y : Int) : Prop where
  hx : (o : Int) * x = an
  hy : (p : Int) * y = bn
  hu : p * u = ad
  ht : o * t = bd
  hv : frI (an * bn) (ad * bd) = x * y
  hd : frd (an * bn) (ad * bd) = u * t
theorem tiW (an bn : Int) (ad bd : Nat) (ha : 0 < ad) (hb : 0 < bd) (h1 : Nat.gcd an.natAbs ad = 1) (h2 : Nat.gcd bn.natAbs bd = 1) :
    ∃ (u t : Nat) (x y : Int), TiW an bn ad bd (Nat.gcd an.natAbs bd) (Nat.gcd bn.natAbs ad) u t x y := by
  obtain ⟨x, hx⟩ : ((Nat.gcd an.natAbs bd : Nat) : Int) ∣ an := natCast_dvd'.2 (Nat.gcd_dvd_left _ _)
  obtain ⟨y, hy⟩ : ((Nat.gcd bn.natAbs ad : Nat) : Int) ∣ bn := natCast_dvd'.2 (Nat.gcd_dvd_left _ _)
  obtain ⟨u, hu⟩ := Nat.gcd_dvd_right bn.natAbs ad
  obtain ⟨t, ht⟩ := Nat.gcd_dvd_right an.natAbs bd
  obtain ⟨e1, e2⟩ := prod_wide ha hb h1 h2 rfl rfl hx.symm hy.symm hu.symm ht.symm
  exact ⟨u, t, x, y, hx.symm, hy.symm, hu.symm, ht.symm, e1, e2⟩
theorem tdiv_exact {n x : Int} {o : Nat} (ho : 0 < o) (h : (o : Int) * x = n) : n.tdiv (o : Int) = x := by
  rw [← h]; exact Int.mul_tdiv_cancel_left x (by omega)
theorem abs_le_of {n x : Int} {o : Nat} (ho : 0 < o) (h : (o : Int) * x = n) : x.natAbs ≤ n.natAbs := by
  rw [← h, Int.natAbs_mul, Int.natAbs_natCast]
  exact Nat.le_mul_of_pos_left _ ho
set_option maxHeartbeats 16000000 in
set_option maxRecDepth 20000 in
theorem times_great (an bn : Int) (ad bd : Nat) (w : World) (ha : vaB an ad = true) (hb : vaB bn bd = true) (sm1 : Bool) (h1 : smB an ad = sm1) (h2 : sm1 = true → smB bn bd = false) :
    Calls Try.prog 34 #[.agg #[.int .i64 an, .int .i64 (ad : Int)], .agg #[.int .i64 bn, .int .i64 (bd : Int)]] w fun e w' => e = .returned (frV (an * bn) (ad * bd)) ∧ Cls w w' := by
  have S1 := Lib.hid (fun W => small_calls an ad W)
  have S2 := Lib.hid (fun W => small_calls bn bd W)
  rw [h1] at S1
  obtain ⟨a1, a2, a3, a4⟩ := vaB_rng ha
  obtain ⟨b1, b2, b3, b4⟩ := vaB_rng hb
  obtain ⟨u, t, x, y, hp⟩ := tiW an bn ad bd (by omega) (by omega) (by have := vaB_gcd ha; simpa using this) (by have := vaB_gcd hb; simpa using this)
  have M1 := Lib.hid (fun W => (magnitude_calls an W (by omega) (by omega)).mono fun _ _ ⟨he, hw⟩ => (⟨he, Cls.same hw⟩ : _ ∧ Cls W _))
  have M2 := Lib.hid (fun W => (magnitude_calls bn W (by omega) (by omega)).mono fun _ _ ⟨he, hw⟩ => (⟨he, Cls.same hw⟩ : _ ∧ Cls W _))
  have D1 := Lib.hid (fun W => divisor_calls an.natAbs bd W (by omega) (by omega))
  have D2 := Lib.hid (fun W => divisor_calls bn.natAbs ad W (by omega) (by omega))
  generalize Nat.gcd an.natAbs bd = o at *
  generalize Nat.gcd bn.natAbs ad = p at *
  obtain ⟨u1, u2, u3, u4⟩ := nat_le_of_mul hp.hu (by omega)
  obtain ⟨t1, t2, t3, t4⟩ := nat_le_of_mul hp.ht (by omega)
  have hxb := abs_le_of t1 hp.hx
  have hyb := abs_le_of u1 hp.hy
  have i1 := mul_in (n := x) (d := y) ⟨by omega, by omega⟩ ⟨by omega, by omega⟩
  have i3 := mul_in (n := u) (d := t) ⟨by omega, by omega⟩ ⟨by omega, by omega⟩
  have j2 : In128 (frI (an * bn) (ad * bd)) := by rw [hp.hv]; unfold In128; omega
  have j3 : In128 ((frd (an * bn) (ad * bd) : Nat) : Int) := by rw [hp.hd, Int.natCast_mul]; unfold In128; omega
  have P1 := Lib.hid (fun W => product_calls x y W (by omega) (by omega))
  have P2 := Lib.hid (fun W => product_calls u t W (by omega) (by omega))
  have P7 := Lib.hid (fun W => fitting_calls (an * bn) (ad * bd) W j2 j3)
  rw [← hp.hv] at P1
  rw [show ((u : Int) * (t : Int)) = ((frd (an * bn) (ad * bd) : Nat) : Int) by rw [hp.hd, Int.natCast_mul]] at P2
  have HVE : frV (an * bn) (ad * bd) = .tuple #[.agg #[.int .i64 (frN (an * bn) (ad * bd)), .int .i64 (frD (an * bn) (ad * bd))], .int .i64 (frE (an * bn) (ad * bd))] := rfl
  rw [HVE] at P7 ⊢
  have f1 : an.tdiv (o : Int) = x := tdiv_exact t1 hp.hx
  have f2 : bn.tdiv (p : Int) = y := tdiv_exact u1 hp.hy
  have f3 : (ad : Int).tdiv (p : Int) = (u : Int) := tdiv_exact u1 (by rw [← Int.natCast_mul, hp.hu])
  have f4 : (bd : Int).tdiv (o : Int) = (t : Int) := tdiv_exact t1 (by rw [← Int.natCast_mul, hp.ht])
  have q1 : IntKind.i64.wrap (o : Int) = (o : Int) := i64_id (by omega) (by omega)
  have q2 : IntKind.i64.wrap (p : Int) = (p : Int) := i64_id (by omega) (by omega)
  have q3 : IntKind.i64.wrap x = x := i64_id (by omega) (by omega)
  have q4 : IntKind.i64.wrap y = y := i64_id (by omega) (by omega)
  have q5 : IntKind.i64.wrap (u : Int) = (u : Int) := i64_id (by omega) (by omega)
  have q8 : IntKind.i64.wrap (t : Int) = (t : Int) := i64_id (by omega) (by omega)
  have q6 : IntKind.u64.wrap (ad : Int) = (ad : Int) := u64_id (by omega)
  have q7 : IntKind.u64.wrap (bd : Int) = (bd : Int) := u64_id (by omega)
  have z1 : ¬ (o : Int) = 0 := by omega
  have z2 : ¬ o = 0 := by omega
  have z3 : ¬ (p : Int) = 0 := by omega
  have z4 : ¬ p = 0 := by omega
  clear HVE hp hxb hyb j2 j3 i1 i3 ha hb h1
  generalize frN (an * bn) (ad * bd) = rn at *
  generalize frD (an * bn) (ad * bd) = rd at *
  generalize frE (an * bn) (ad * bd) = re at *
  generalize wHi (frI (an * bn) (ad * bd)) = x1 at *
  generalize wLo (frI (an * bn) (ad * bd)) = x2 at *
  generalize wHi ((frd (an * bn) (ad * bd) : Nat) : Int) = x3 at *
  generalize wLo ((frd (an * bn) (ad * bd) : Nat) : Int) = x4 at *
  generalize an.natAbs = am at *
  generalize bn.natAbs = bm at *
  go_enter Try.func34, Try.ntmps34
  cases sm1
  · clear h2 S2
    go_wp2_with (go_at_call 43; (with_reducible refine (S1.out _).mono ?_); rintro e _ ⟨rfl, ⟨y1, rfl⟩⟩; have y1s := y1.size; (try simp at y1s); have y1a : w.heap.size < y1.val.heap.size := (by omega); have y1b : w.heap.size + 1 < y1.val.heap.size := (by omega); have y1c : w.heap.size + 1 + 1 < y1.val.heap.size := (by omega))
    have HB := Lib.hid ((y1.below.block (w.heap.size + 1 + 1) (by simp)).trans (new_at2 w _ _ _ _))
    refine wp_region_ext (by kernel_rfl) (by kernel_rfl) ?_
    repeat (go_big_quiet_step (first | (go_at_call 26; with_reducible exact Cls.call (M1.out _)) | (go_at_call 27; with_reducible exact Cls.call (D1.out _))))
    refine wpQuiet_nil ?_
    rintro _ ⟨y3, rfl⟩
    have y3s := y3.size
    (try simp at y3s)
    have y3a : w.heap.size < y3.val.heap.size := (by omega)
    have y3b : w.heap.size + 1 < y3.val.heap.size := (by omega)
    have y3c : w.heap.size + 1 + 1 < y3.val.heap.size := (by omega)
    go_wp2_with fail
    refine wp_region_ext (by kernel_rfl) (by kernel_rfl) ?_
    repeat (go_big_quiet_step (first | (go_at_call 26; with_reducible exact Cls.call (M2.out _)) | (go_at_call 27; with_reducible exact Cls.call (D2.out _))))
    refine wpQuiet_nil ?_
    rintro _ ⟨y4, rfl⟩
    have y4s := y4.size
    (try simp at y4s)
    have y4a : w.heap.size < y4.val.heap.size := (by omega)
    have y4b : w.heap.size + 1 < y4.val.heap.size := (by omega)
    have y4c : w.heap.size + 1 + 1 < y4.val.heap.size := (by omega)
    go_wp2_with fail
    refine wp_region_ext_tail 21 (by kernel_rfl) (by kernel_rfl) ?_
    simp only [List.take_succ_cons, List.take_zero, List.drop_succ_cons, List.drop_zero]
    repeat (go_big_quiet_step (first | (go_at_call 40; with_reducible exact Cls.call (P1.out _)) | (go_at_call 40; with_reducible exact Cls.call (P2.out _)) | (go_at_call 46; with_reducible exact Cls.call (P7.out _))))
    refine wpQuiet_nil ?_
    rintro _ ⟨y7, rfl⟩
    have y7s := y7.size
    (try simp at y7s)
    have y7a : w.heap.size < y7.val.heap.size := (by omega)
    have y7b : w.heap.size + 1 < y7.val.heap.size := (by omega)
    have y7c : w.heap.size + 1 + 1 < y7.val.heap.size := (by omega)
    have hbl : Below y1.val.heap.size y1.val y7.val := by repeat first | with_reducible exact Below.refl _ _ | with_reducible refine Below.setCell ?_ (by first | omega | (simp; done) | (simp; omega)) _ | with_reducible refine Below.alloc ?_ (by first | omega | (simp; done) | (simp; omega)) _ | with_reducible refine Below.drew ?_ | with_reducible refine Ext.on _ ?_ (by first | omega | (simp; done) | (simp; omega))
    obtain ⟨c0, c1, c2, c3, c4⟩ := two_z ((hbl.block (w.heap.size + 1 + 1) y1c).trans HB.out)
    have HBL := Lib.hid hbl
    clear hbl
    go_wp2_with fail
    refine ret_ex rfl ?_
    simp [results, Try.results34, go_sem, c3, c4]
    refine Cls.of ?_
    repeat first | with_reducible exact Below.refl _ _ | with_reducible refine Below.setCell ?_ (by first | omega | (simp; done) | (simp; omega)) _ | with_reducible refine Below.alloc ?_ (by first | omega | (simp; done) | (simp; omega)) _ | with_reducible refine Below.drew ?_ | with_reducible refine Ext.on _ ?_ (by first | omega | (simp; done) | (simp; omega))
  · rw [h2 rfl] at S2
    clear h2
    go_wp2_with (first | (go_at_call 43; (with_reducible refine (S1.out _).mono ?_); rintro e _ ⟨rfl, ⟨y1, rfl⟩⟩; have y1s := y1.size; (try simp at y1s); have y1a : w.heap.size < y1.val.heap.size := (by omega); have y1b : w.heap.size + 1 < y1.val.heap.size := (by omega); have y1c : w.heap.size + 1 + 1 < y1.val.heap.size := (by omega)) | (go_at_call 43; (with_reducible refine (S2.out _).mono ?_); rintro e _ ⟨rfl, ⟨y0, rfl⟩⟩; have y0s := y0.size; (try simp at y0s); have y0a : w.heap.size < y0.val.heap.size := (by omega); have y0b : w.heap.size + 1 < y0.val.heap.size := (by omega); have y0c : w.heap.size + 1 + 1 < y0.val.heap.size := (by omega)))
    have HB := Lib.hid ((y0.below.block (w.heap.size + 1 + 1) (by omega)).trans ((y1.below.block (w.heap.size + 1 + 1) (by simp)).trans (new_at2 w _ _ _ _)))
    refine wp_region_ext (by kernel_rfl) (by kernel_rfl) ?_
    repeat (go_big_quiet_step (first | (go_at_call 26; with_reducible exact Cls.call (M1.out _)) | (go_at_call 27; with_reducible exact Cls.call (D1.out _))))
    refine wpQuiet_nil ?_
    rintro _ ⟨y3, rfl⟩
    have y3s := y3.size
    (try simp at y3s)
    have y3a : w.heap.size < y3.val.heap.size := (by omega)
    have y3b : w.heap.size + 1 < y3.val.heap.size := (by omega)
    have y3c : w.heap.size + 1 + 1 < y3.val.heap.size := (by omega)
    go_wp2_with fail
    refine wp_region_ext (by kernel_rfl) (by kernel_rfl) ?_
    repeat (go_big_quiet_step (first | (go_at_call 26; with_reducible exact Cls.call (M2.out _)) | (go_at_call 27; with_reducible exact Cls.call (D2.out _))))
    refine wpQuiet_nil ?_
    rintro _ ⟨y4, rfl⟩
    have y4s := y4.size
    (try simp at y4s)
    have y4a : w.heap.size < y4.val.heap.size := (by omega)
    have y4b : w.heap.size + 1 < y4.val.heap.size := (by omega)
    have y4c : w.heap.size + 1 + 1 < y4.val.heap.size := (by omega)
    go_wp2_with fail
    refine wp_region_ext_tail 21 (by kernel_rfl) (by kernel_rfl) ?_
    simp only [List.take_succ_cons, List.take_zero, List.drop_succ_cons, List.drop_zero]
    repeat (go_big_quiet_step (first | (go_at_call 40; with_reducible exact Cls.call (P1.out _)) | (go_at_call 40; with_reducible exact Cls.call (P2.out _)) | (go_at_call 46; with_reducible exact Cls.call (P7.out _))))
    refine wpQuiet_nil ?_
    rintro _ ⟨y7, rfl⟩
    have y7s := y7.size
    (try simp at y7s)
    have y7a : w.heap.size < y7.val.heap.size := (by omega)
    have y7b : w.heap.size + 1 < y7.val.heap.size := (by omega)
    have y7c : w.heap.size + 1 + 1 < y7.val.heap.size := (by omega)
    have hbl : Below y0.val.heap.size y0.val y7.val := by repeat first | with_reducible exact Below.refl _ _ | with_reducible refine Below.setCell ?_ (by first | omega | (simp; done) | (simp; omega)) _ | with_reducible refine Below.alloc ?_ (by first | omega | (simp; done) | (simp; omega)) _ | with_reducible refine Below.drew ?_ | with_reducible refine Ext.on _ ?_ (by first | omega | (simp; done) | (simp; omega))
    obtain ⟨c0, c1, c2, c3, c4⟩ := two_z ((hbl.block (w.heap.size + 1 + 1) y0c).trans HB.out)
    have HBL := Lib.hid hbl
    clear hbl
    go_wp2_with fail
    refine ret_ex rfl ?_
    simp [results, Try.results34, go_sem, c3, c4]
    refine Cls.of ?_
    repeat first | with_reducible exact Below.refl _ _ | with_reducible refine Below.setCell ?_ (by first | omega | (simp; done) | (simp; omega)) _ | with_reducible refine Below.alloc ?_ (by first | omega | (simp; done) | (simp; omega)) _ | with_reducible refine Below.drew ?_ | with_reducible refine Ext.on _ ?_ (by first | omega | (simp; done) | (simp; omega))
theorem times_calls (an bn : Int) (ad bd : Nat) (w : World) (ha : vaB an ad = true) (hb : vaB bn bd = true) :
    Calls Try.prog 34 #[.agg #[.int .i64 an, .int .i64 (ad : Int)], .agg #[.int .i64 bn, .int .i64 (bd : Int)]] w fun e w' => e = .returned (frV (an * bn) (ad * bd)) ∧ Cls w w' := by
  cases h1 : smB an ad
  · exact times_great an bn ad bd w ha hb false h1 (fun h => by cases h)
  · cases h2 : smB bn bd
    · exact times_great an bn ad bd w ha hb true h1 (fun _ => h2)
    · exact times_small an bn ad bd w ha hb h1 h2
end Go.Proofs.Ythlaejodajdioaa
