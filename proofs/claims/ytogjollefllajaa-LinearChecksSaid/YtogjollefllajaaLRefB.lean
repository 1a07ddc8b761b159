/-
  The reference's fractions of any size: whole numbers, which is less; sums in lowest terms.
-/
import Derived.Test.YtogjollefllajaaLTimes
import Derived.Test.YtogjollefllajaaFBig7
import Derived.Test.YtogjollefllajaaLSum2
set_option linter.unusedVariables false
namespace Go.Proofs.Ytogjollefllajaa
open Go Go.RowKit Go.Deep
theorem wp_big {n k : Nat} (h : n < wp k) (hk : k ≤ 33) : n < 1000000000 ^ 100 := by
  have h1 : ∀ j, wp j ≤ 1000000000 ^ (3 * j) := by
    intro j
    unfold wp
    rw [Nat.pow_mul]
    exact Nat.pow_le_pow_left (by rw [show (1000000000 : Nat) ^ 3 = 1000000000000000000000000000 from rfl]; omega) j
  exact pow_big (Nat.lt_of_lt_of_le h (h1 k)) (by omega)
/-- A sum of two fractions in lowest terms. -/
theorem fr_add (N1 N2 : Int) {D1 D2 : Nat} (h1 : 0 < D1) (h2 : 0 < D2) :
    frI (frI N1 D1 * (frd N2 D2 : Int) + frI N2 D2 * (frd N1 D1 : Int)) (frd N1 D1 * frd N2 D2) = frI (N1 * D2 + N2 * D1) (D1 * D2) ∧ frd (frI N1 D1 * (frd N2 D2 : Int) + frI N2 D2 * (frd N1 D1 : Int)) (frd N1 D1 * frd N2 D2) = frd (N1 * D2 + N2 * D1) (D1 * D2) := by
  have a1 := frI_mul N1 D1
  have a2 := frd_mul N1 D1
  have a3 := gcd_pos_right (a := N1.natAbs) h1
  have a4 := frd_pos N1 h1
  have b1 := frI_mul N2 D2
  have b2 := frd_mul N2 D2
  have b3 := gcd_pos_right (a := N2.natAbs) h2
  have b4 := frd_pos N2 h2
  generalize frI N1 D1 = v1 at *
  generalize frd N1 D1 = d1 at *
  generalize Nat.gcd N1.natAbs D1 = c1 at *
  generalize frI N2 D2 = v2 at *
  generalize frd N2 D2 = d2 at *
  generalize Nat.gcd N2.natAbs D2 = c2 at *
  have hs := fr_scale (Nat.mul_pos a3 b3) (v1 * d2 + v2 * d1) (Nat.mul_pos a4 b4)
  have e1 : ((c1 * c2 : Nat) : Int) * (v1 * d2 + v2 * d1) = N1 * D2 + N2 * D1 := by
    rw [Int.mul_add, ← a1, ← b1, ← a2, ← b2, Int.natCast_mul, Int.natCast_mul, Int.natCast_mul]
    congr 1 <;> ac_rfl
  have e2 : c1 * c2 * (d1 * d2) = D1 * D2 := by rw [← a2, ← b2]; ac_rfl
  rw [e1, e2] at hs
  exact ⟨hs.1.symm, hs.2.symm⟩
set_option maxHeartbeats 4000000 in
set_option maxRecDepth 20000 in
theorem rWhole_calls (n : Int) (w : World) (h : In64 n) :
    Calls Try.prog 30 #[.int .i64 n] w fun e w' => ∃ s t : Sl, e = .returned (.agg #[.bool (decide (n < 0)), .slice s.a s.len s.cap, .slice t.a t.len t.cap]) ∧ NumAt w' s n.natAbs ∧ NumAt w' t 1 ∧ Cls w w' := by
  have C1 := Lib.hid (fun W => of_calls n W h.1 h.2)
  clear h
  go_enter Try.func30, Try.ntmps30
  go_wp2_with (go_at_call 55; (with_reducible refine (C1.out _).mono ?_); rintro e _ ⟨s, rfl, hs, ⟨y, rfl⟩⟩; have ys := y.size; (try simp at ys); have ya : w.heap.size < y.val.heap.size := (by omega); have HT := Lib.hid ((y.below.block w.heap.size (by simp)).trans (heap_alloc_new w _)); obtain ⟨k0, k1, k2, k3, k4, k5, k6⟩ := three_b HT.out)
  have HB : Below w.heap.size w y.val := by repeat first | with_reducible exact Below.refl _ _ | with_reducible refine Below.setCell ?_ (by first | omega | (simp; done) | (simp; omega)) _ | with_reducible refine Below.alloc ?_ (by first | omega | (simp; done) | (simp; omega)) _ | with_reducible refine Below.drew ?_ | with_reducible refine Ext.on _ ?_ (by first | omega | (simp; done) | (simp; omega))
  have H1 : ∀ v0 v1 v2 o, NumAt ((((y.val.setCell ⟨w.heap.size, 0, none⟩ v0).setCell ⟨w.heap.size, 1, none⟩ v1).setCell ⟨w.heap.size, 2, none⟩ v2).alloc o) s n.natAbs := fun v0 v1 v2 o => (NumAt.store3 hs HT.out v0 v1 v2).later ((Below.refl _ _).alloc (Nat.le_refl _) _)
  have H2 : ∀ v0 v1 v2, NumAt ((((y.val.setCell ⟨w.heap.size, 0, none⟩ v0).setCell ⟨w.heap.size, 1, none⟩ v1).setCell ⟨w.heap.size, 2, none⟩ v2).alloc (.cells #[.int .u64 1] 82)) ⟨some ⟨y.val.heap.size, 0, none⟩, 1, 1⟩ 1 := fun v0 v1 v2 => by
    have := one_num (((y.val.setCell ⟨w.heap.size, 0, none⟩ v0).setCell ⟨w.heap.size, 1, none⟩ v1).setCell ⟨w.heap.size, 2, none⟩ v2) 82
    simpa using this
  refine ret_ex rfl ⟨.agg #[.bool (decide (n < 0)), .slice s.a s.len s.cap, .slice (some ⟨y.val.heap.size, 0, none⟩) 1 1], by simp [results, Try.results30, go_sem, k4, k5, k6, ya], ⟨s, ⟨some ⟨y.val.heap.size, 0, none⟩, 1, 1⟩, rfl, ?_, ?_, ?_⟩⟩
  · exact H1 _ _ _ _
  · exact H2 _ _ _
  · exact Cls.of ((below3 HB (Nat.le_refl _) _ _ _).alloc (by simpa using Nat.le_of_lt ya) _)
set_option maxHeartbeats 8000000 in
set_option maxRecDepth 20000 in
theorem rLess_calls (N1 N2 : Int) (D1 D2 : Nat) (a1 : Option Addr) (n1 c1 : Nat) (a2 : Option Addr) (n2 c2 : Nat) (a3 : Option Addr) (n3 c3 : Nat) (a4 : Option Addr) (n4 c4 : Nat) (w : World) (h1 : NumAt w ⟨a1, n1, c1⟩ N1.natAbs) (h2 : NumAt w ⟨a2, n2, c2⟩ D1) (h3 : NumAt w ⟨a3, n3, c3⟩ N2.natAbs) (h4 : NumAt w ⟨a4, n4, c4⟩ D2)
    (k1 : N1.natAbs < 1000000000 ^ 100) (k2 : D1 < 1000000000 ^ 100) (k3 : N2.natAbs < 1000000000 ^ 100) (k4 : D2 < 1000000000 ^ 100) (hD1 : 0 < D1) (hD2 : 0 < D2) :
    Calls Try.prog 29 #[.agg #[.bool (decide (N1 < 0)), .slice a1 n1 c1, .slice a2 n2 c2], .agg #[.bool (decide (N2 < 0)), .slice a3 n3 c3, .slice a4 n4 c4]] w fun e w' => e = .returned (.bool (decide (N1 * D2 < N2 * D1))) ∧ Cls w w' := by
  have NB : Hid (∀ (W : World) (s : Sl), NumAt W s N2.natAbs → NumAt W s (-N2).natAbs) := Lib.hid fun W s h => by rwa [Int.natAbs_neg]
  obtain ⟨gb, hgb⟩ : ∃ gb, decide (-N2 < 0) = gb := ⟨_, rfl⟩
  have C1 := Lib.hid (fun (W : World) (hb : Below w.heap.size w W) => Turned_calls N2 a3 n3 c3 a4 n4 c4 W (h3.later hb))
  have C2 := Lib.hid (fun (W : World) (hb : Below w.heap.size w W) => Plus_calls N1 (-N2) D1 D2 a1 n1 c1 a2 n2 c2 a3 n3 c3 a4 n4 c4 W (h1.later hb) (h2.later hb) (NB.out _ _ (h3.later hb)) (h4.later hb) k1 k2 (by simpa using k3) k4 (Nat.mul_pos hD1 hD2))
  rw [hgb] at C1 C2
  have ER : Hid (decide (cmpI (frI (N1 * D2 + -N2 * D1) (D1 * D2)) 0 < 0) = decide (N1 * D2 < N2 * D1)) := Lib.hid (by
    rw [sign_fr _ (Nat.mul_pos hD1 hD2), Int.neg_mul, cmpI_sub]
    rw [Bool.eq_iff_iff, decide_eq_true_iff, decide_eq_true_iff]
    unfold cmpI
    split <;> (try split) <;> omega)
  have C3 : Hid (∀ (W : World) (s t : Sl), NumAt W s (frI (N1 * D2 + -N2 * D1) (D1 * D2)).natAbs → Calls Try.prog 34 #[.agg #[.bool (decide (frI (N1 * D2 + -N2 * D1) (D1 * D2) < 0)), .slice s.a s.len s.cap, .slice t.a t.len t.cap]] W fun e w' => e = .returned (.int .i64 (cmpI (frI (N1 * D2 + -N2 * D1) (D1 * D2)) 0)) ∧ Cls W w') := Lib.hid fun W s t hs => Sign_calls _ s.a s.len s.cap t.a t.len t.cap W hs
  clear h1 h2 h3 h4 k1 k2 k3 k4 hD1 hD2 NB hgb
  generalize decide (N1 * D2 < N2 * D1) = rr at *
  generalize N1 * D2 + -N2 * D1 = N at *
  generalize D1 * D2 = D at *
  obtain ⟨g1, hg1⟩ : ∃ g, decide (N1 < 0) = g := ⟨_, rfl⟩
  obtain ⟨g2, hg2⟩ : ∃ g, decide (N2 < 0) = g := ⟨_, rfl⟩
  rw [hg1] at C2 ⊢
  rw [hg2] at C1 ⊢
  clear hg1 hg2
  generalize cmpI (frI N D) 0 = cc at *
  go_enter Try.func29, Try.ntmps29
  go_wp2_with fail
  go_region_held3 (fun w' => w'.cell? ⟨w.heap.size, 0, none⟩ = some (.bool g1) ∧ w'.cell? ⟨w.heap.size, 1, none⟩ = some (.slice a1 n1 c1) ∧ w'.cell? ⟨w.heap.size, 2, none⟩ = some (.slice a2 n2 c2) ∧ w'.cell? ⟨w.heap.size + 1, 0, none⟩ = some (.bool g2) ∧ w'.cell? ⟨w.heap.size + 1, 1, none⟩ = some (.slice a3 n3 c3) ∧ w'.cell? ⟨w.heap.size + 1, 2, none⟩ = some (.slice a4 n4 c4))
    (first | (go_keep; done) | (refine ⟨?_, ?_, ?_, ?_, ?_, ?_⟩ <;> (rw [Ext.cell _ _ (by first | (simp; done) | (simp; omega) | omega)]; simp [*]; done)))
    (first
      | (go_at_call 56; (with_reducible refine Calls.mono (C1.out _ ?_) ?_); (focus (repeat first | with_reducible exact Below.refl _ _ | with_reducible refine Below.setCell ?_ (by first | omega | (simp; done) | (simp; omega)) _ | with_reducible refine Below.alloc ?_ (by first | omega | (simp; done) | (simp; omega)) _ | with_reducible refine Below.drew ?_ | with_reducible refine Ext.on _ ?_ (by first | omega | (simp; done) | (simp; omega)))); rintro e _ ⟨rfl, ⟨yt, rfl⟩⟩; have yts := yt.size; (try simp at yts); have yta : w.heap.size < yt.val.heap.size := (by omega); have ytb : w.heap.size + 1 < yt.val.heap.size := (by omega))
      | (go_at_call 32; (with_reducible refine Calls.mono (C2.out _ ?_) ?_); (focus (repeat first | with_reducible exact Below.refl _ _ | with_reducible refine Below.setCell ?_ (by first | omega | (simp; done) | (simp; omega)) _ | with_reducible refine Below.alloc ?_ (by first | omega | (simp; done) | (simp; omega)) _ | with_reducible refine Below.drew ?_ | with_reducible refine Ext.on _ ?_ (by first | omega | (simp; done) | (simp; omega)))); rintro e _ ⟨sn, st, rfl, hsn, hst, ⟨yp, rfl⟩⟩; have yps := yp.size; (try simp at yps); have ypa : w.heap.size < yp.val.heap.size := (by omega); have ypb : w.heap.size + 1 < yp.val.heap.size := (by omega))
      | (go_at_call 34; have G := Lib.hid (fun W hb => C3.out W sn st (hsn.later hb)); (with_reducible refine Calls.mono (G.out _ ?_) ?_); (focus (repeat first | with_reducible exact Below.refl _ _ | with_reducible refine Below.setCell ?_ (by first | omega | (simp; done) | (simp; omega)) _ | with_reducible refine Below.alloc ?_ (by first | omega | (simp; done) | (simp; omega)) _ | with_reducible refine Below.drew ?_ | with_reducible refine Ext.on _ ?_ (by first | omega | (simp; done) | (simp; omega)))); rintro e _ ⟨rfl, ⟨yf, rfl⟩⟩; have yfs := yf.size; (try simp at yfs); have yfa : w.heap.size < yf.val.heap.size := (by omega); have yfb : w.heap.size + 1 < yf.val.heap.size := (by omega); clear G))
  all_goals
    have HB : Below w.heap.size w yf.val := by repeat first | with_reducible exact Below.refl _ _ | with_reducible refine Below.setCell ?_ (by first | omega | (simp; done) | (simp; omega)) _ | with_reducible refine Below.alloc ?_ (by first | omega | (simp; done) | (simp; omega)) _ | with_reducible refine Below.drew ?_ | with_reducible refine Ext.on _ ?_ (by first | omega | (simp; done) | (simp; omega))
    go_wp2
    go_ret
    exact ⟨ret_bool ER.out, Cls.of HB⟩
end Go.Proofs.Ytogjollefllajaa
