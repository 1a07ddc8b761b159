/-
  The reference's division: the quotient lies in new blocks. The reference's lowest terms: their digits lie in new blocks.
-/
import Derived.Test.YthbdkhmgopahbaaJ03
import Derived.Test.YthbdkhmgopahbaaJ06
set_option linter.unusedVariables false
namespace Go.Proofs.Ythbdkhmgopahbaa
open Go Go.RowKit Go.Deep
set_option maxHeartbeats 8000000 in
theorem div_fresh (a : Option Addr) (n c : Nat) (a' : Option Addr) (n' c' : Nat) (x y : Nat) (w : World) (h : NumAt w ⟨a, n, c⟩ x) (h' : NumAt w ⟨a', n', c'⟩ y) (hn : n ≤ 500) (hn' : n' ≤ 500) (hy : 0 < y) :
    Calls Try.prog 100 #[.slice a n c, .slice a' n' c'] w fun e w' => ∃ s t : Sl, e = .returned (.tuple #[.slice s.a s.len s.cap, .slice t.a t.len t.cap]) ∧ NumAt w' s (x / y) ∧ NumAt w' t (x % y) ∧ (∀ b off, s.a = some ⟨b, off, none⟩ → w.heap.size ≤ b) ∧ Cls w w' := by
  have HN := Lib.hid h
  have HN' := Lib.hid h'
  have HL : Hid (n = (digs x).length) := Lib.hid h.1
  have HL' : Hid (n' = (digs y).length) := Lib.hid h'.1
  have HY := Lib.hid hy
  clear h h'
  obtain ⟨i0, hi, hz0, hz1, hz2⟩ := info_parts infoN
  go_enter Try.func100, Try.ntmps100
  go_wp2_with fail
  go_loopw [6, 7] (fun v p wr => ∃ (k : Nat) (P : Nat → Sl), p = .slice (P k).a (P k).len (P k).cap ∧ k ≤ 15000 ∧ Hid (k = 0 ∨ y * 2 ^ (k - 1) ≤ x) ∧ Hid (Pw w wr y k P v)) (fun v _ _ => 15001 - slLen v)
  case atStart => exact ⟨0, fun _ => ⟨a', n', c'⟩, rfl, by omega, Lib.hid (.inl rfl), Lib.hid (Pw.start HN'.out)⟩
  case round =>
    obtain ⟨k, P, rfl, hk, hlast, hP⟩ := hrel
    have hsz := hP.out.bel.size
    have C1 := Lib.hid (compare_calls (P k).a (P k).len (P k).cap a n c (y * 2 ^ k) x wr (hP.out.nums k (Nat.le_refl _)) (HN.out.later hP.out.bel))
    by_cases hgo : y * 2 ^ k ≤ x
    · have d1 : decide (cmpN (y * 2 ^ k) x ≤ 0) = true := decide_eq_true ((cmpN_le _ _).2 hgo)
      have hk2 : k < 15000 := by
        have := len_bound HY.out hgo (n := 500) (by rw [← HL.out]; exact hn)
        omega
      have hpl : (P k).len ≤ 1000 := by
        have e := (hP.out.nums k (Nat.le_refl _)).1
        have := digs_mono hgo
        rw [← HL.out] at this
        omega
      have HGO := Lib.hid hgo
      clear hgo
      generalize cmpN (y * 2 ^ k) x = cr at *
      go_wp2_with (first | (go_at_call 71; (with_reducible refine C1.out.mono ?_); rintro e _ ⟨rfl, ⟨y1, rfl⟩⟩; have ys := y1.size; have HP1 := Lib.hid (hP.out.later y1.below)) | (at_builtin; refine wpList_append_own_at _ rfl _ _ 144 rfl w.heap.size 65 i0 (.slice none 0 0) 1 24 Try.underlying144 hi hz0 hz1 hz2 rfl (by decide) _ k _ rfl (own_later' HP1.out.own (by repeat first | with_reducible exact Below.refl _ _ | with_reducible refine Below.setCell ?_ (by first | omega | (simp; done) | (simp; omega)) _ | with_reducible refine Below.alloc ?_ (by first | omega | (simp; done) | (simp; omega)) _ | with_reducible refine Below.drew ?_ | with_reducible refine Ext.on _ ?_ (by first | omega | (simp; done) | (simp; omega)))) ⟨y1.val.heap.size, 0, none⟩ 1 1 [slV (P k)] rfl rfl (cells_new' _ _ _) (one_sl _) (by unfold maxLen; omega) (by omega) (by first | (simp; done) | (simp; omega)) ?_; intro v1 w1 hown1 hg1 _ hob1; have HU := Lib.hid (HP1.out.push HY.out hg1 hob1); have HO1 := Lib.hid hown1; have s1 := HU.out.2.2.size; have C2 := Lib.hid (plus_calls (P k).a (P k).len (P k).cap (P k).a (P k).len (P k).cap _ _ w1 (HU.out.1 k (Nat.le_refl _)) (HU.out.1 k (Nat.le_refl _)) hpl hpl); clear hown1 hg1 hob1) | (go_at_call 70; (with_reducible refine C2.out.mono ?_); rintro e _ ⟨sn, rfl, hns, hfs, ⟨y2, rfl⟩⟩; have HP3 := Lib.hid (Pw.next HO1.out HU.out y2.below hns hfs); clear hns hfs))
      go_roundw
      case rel => exact ⟨k + 1, setP P (k + 1) sn, by simp [setP], by omega, Lib.hid (.inr HGO.out), HP3⟩
      case measure => have m1 := own_slLen hP.out.own; have m2 := own_slLen HO1.out; (simp [m1, m2]; omega)
    · have d1 : decide (cmpN (y * 2 ^ k) x ≤ 0) = false := decide_eq_false (fun h => hgo ((cmpN_le _ _).1 h))
      have HI0 : Hid (DivI x y k 0 x) := Lib.hid (DivI.start (by omega))
      clear hgo
      generalize cmpN (y * 2 ^ k) x = cr at *
      obtain ⟨va, cap, hv, hkc, hcm, hrest⟩ := hP.out.cell
      subst hv
      have HCL := Lib.hid hrest
      clear hrest
      unfold maxLen at hcm
      go_wp2_with (go_at_call 71; (with_reducible refine C1.out.mono ?_); rintro e _ ⟨rfl, ⟨y1, rfl⟩⟩; have ys := y1.size; have HP1 := Lib.hid (hP.out.later y1.below))
      go_loopw [0, 8, 9] (fun s0 s8 s9 wq => ∃ (j q r : Nat) (A Q : Sl), j ≤ k ∧ s9 = .int .i64 ((j : Int) - 1) ∧ s0 = .slice A.a A.len A.cap ∧ s8 = .slice Q.a Q.len Q.cap ∧ Hid (DivI x y j q r) ∧ Hid (NumAt wq A r) ∧ Hid (NumAt wq Q q) ∧ Hid (∀ b off, Q.a = some ⟨b, off, none⟩ → w.heap.size ≤ b) ∧ Cls y1.val wq) (fun _ _ s9 _ => (intOf s9 + 1).toNat)
      case atStart => exact ⟨k, 0, x, ⟨a, n, c⟩, Sl.z, Nat.le_refl _, rfl, rfl, rfl, HI0, Lib.hid (HN.out.later HP1.out.bel), Lib.hid (by unfold NumAt; rw [digs_zero]; exact UAt.nil), Lib.hid (fun b off h => by cases h), Cls.of (Below.refl _ _)⟩
      case round =>
        obtain ⟨j, q, r, A, Q, hj, rfl, rfl, rfl, hI, hA, hQ, hQF, z, rfl⟩ := hrel
        have hwz : w.heap.size ≤ z.val.heap.size := Nat.le_trans hP.out.bel.size (Nat.le_trans y1.size z.size)
        have hzs := z.size
        by_cases hj0 : 0 < j
        · obtain ⟨i, rfl⟩ : ∃ i, j = i + 1 := ⟨j - 1, by omega⟩
          obtain ⟨g, hva, hgs, hcell⟩ := HCL.out (by omega)
          subst hva
          have HPZ := Lib.hid (HP1.out.later z.below)
          have hgz : g < z.val.heap.size := by omega
          have zc : z.val.cell? ⟨g, i, none⟩ = some (.slice (P i).a (P i).len (P i).cap) := (z.below.cell (p := ⟨g, i, none⟩) (by show g < _; omega)).trans ((y1.below.cell (p := ⟨g, i, none⟩) hgs).trans (hcell i (by omega)))
          clear hcell
          have hAl : A.len ≤ 500 := by
            have := hA.out.1
            have := digs_mono hI.out.r_le
            have := HL.out
            omega
          have hQl : Q.len ≤ 1000 := by
            have := hQ.out.1
            have := digs_mono (hI.out.q_le HY.out)
            have := HL.out
            omega
          have hQ2 : Hid (∀ (s : Sl) (W : World), NumAt W s (q + q) → s.len ≤ 1000) := Lib.hid fun s W h => by
            have := h.1
            have := digs_mono (hI.out.qq_le HY.out)
            have := HL.out
            omega
          have C2 := Lib.hid (plus_calls Q.a Q.len Q.cap Q.a Q.len Q.cap _ _ z.val hQ.out hQ.out hQl hQl)
          have C3 : Hid (∀ W : World, Below z.val.heap.size z.val W → Calls Try.prog 71 #[.slice (P i).a (P i).len (P i).cap, .slice A.a A.len A.cap] W fun e w' => e = .returned (.int .i64 (cmpN (y * 2 ^ i) r)) ∧ Cls W w') := Lib.hid fun W hb => compare_calls (P i).a (P i).len (P i).cap A.a A.len A.cap _ _ W ((HPZ.out.nums i (by omega)).later hb) (hA.out.later hb)
          have C4 : Hid (y * 2 ^ i ≤ r → ∀ W : World, Below z.val.heap.size z.val W → Calls Try.prog 72 #[.slice A.a A.len A.cap, .slice (P i).a (P i).len (P i).cap] W fun e w' => ∃ s : Sl, e = .returned (.slice s.a s.len s.cap) ∧ NumAt w' s (r - y * 2 ^ i) ∧ Cls W w') := Lib.hid fun hle W hb => minus_calls A.a A.len A.cap (P i).a (P i).len (P i).cap _ _ W (hA.out.later hb) ((HPZ.out.nums i (by omega)).later hb) (by omega) hle
          have e0 : ((i + 1 : Nat) : Int) - 1 = (i : Int) := by omega
          rw [e0]
          clear e0
          have hik : i < k := by omega
          by_cases hgo : y * 2 ^ i ≤ r
          · have d2 : decide (cmpN (y * 2 ^ i) r ≤ 0) = true := decide_eq_true ((cmpN_le _ _).2 hgo)
            have C5 := Lib.hid (C4.out hgo)
            have HIN := Lib.hid (hI.out.yes hgo)
            clear hgo C4 hI
            generalize cmpN (y * 2 ^ i) r = cr2 at *
            have tok1 : True := trivial
            go_wp2_with (first | (go_at_call 70; have _t := tok1; (with_reducible refine C2.out.mono ?_); rintro e _ ⟨s2, rfl, hn2, _, ⟨y2, rfl⟩⟩; have y2s := y2.size; have hgy2 : g < y2.val.heap.size := (by omega); have HQ2 := Lib.hid hn2; have hs2 := hQ2.out _ _ hn2; clear hn2 tok1 _t) | (go_at_call 71; (with_reducible refine (C3.out _ y2.below).mono ?_); rintro e _ ⟨rfl, ⟨y3, rfl⟩⟩; have y3s := y3.size; have hgy3 : g < y3.val.heap.size := (by omega)) | (go_at_call 72; (with_reducible refine (C5.out _ (y3.on y2.below y2.size)).mono ?_); rintro e _ ⟨s4, rfl, hn4, ⟨y4, rfl⟩⟩; have y4s := y4.size; have HA4 := Lib.hid hn4; have HQ4 := Lib.hid ((HQ2.out.later y3.below).later y4.below); clear hn4) | (go_at_call 70; (with_reducible refine (plus_calls s2.a s2.len s2.cap (some ⟨y4.val.heap.size, 0, none⟩) 1 1 (q + q) 1 _ (HQ4.out.later ((Below.refl _ _).alloc (Nat.le_refl _) _)) (one_num _ _) hs2 (by decide)).mono ?_); rintro e _ ⟨s5, rfl, hn5, hf5, ⟨y5, rfl⟩⟩; have HF5 := Lib.hid hf5; clear hf5))
            go_roundw
            case rel => exact ⟨i, q + q + 1, r - y * 2 ^ i, s4, s5, by omega, rfl, rfl, rfl, HIN, Lib.hid ((HA4.out.later ((Below.refl _ _).alloc (Nat.le_refl _) _)).later (y5.below.mono (by simp))), Lib.hid hn5, Lib.hid (fun b off h => by have := HF5.out b off h; simp at this; omega), Cls.of (y5.on ((y4.on (y3.on (y2.on z.below (by omega)) (by omega)) (by omega)).alloc (by omega) _) (by simp; omega))⟩
            case measure => first | (simp [intOf]; done) | (simp [intOf]; omega)
          · have d2 : decide (cmpN (y * 2 ^ i) r ≤ 0) = false := decide_eq_false (fun h => hgo ((cmpN_le _ _).1 h))
            have HIN := Lib.hid (hI.out.no (by omega))
            clear hgo C4 hI
            generalize cmpN (y * 2 ^ i) r = cr2 at *
            go_wp2_with (first | (go_at_call 70; (with_reducible refine C2.out.mono ?_); rintro e _ ⟨s2, rfl, hn2, hf2, ⟨y2, rfl⟩⟩; have y2s := y2.size; have hgy2 : g < y2.val.heap.size := (by omega); have HQ2 := Lib.hid hn2; have HF2 := Lib.hid hf2; clear hn2 hf2) | (go_at_call 71; (with_reducible refine (C3.out _ y2.below).mono ?_); rintro e _ ⟨rfl, ⟨y3, rfl⟩⟩; have y3s := y3.size))
            go_roundw
            case rel => exact ⟨i, q + q, r, A, s2, by omega, rfl, rfl, rfl, HIN, Lib.hid ((hA.out.later y2.below).later y3.below), Lib.hid (HQ2.out.later y3.below), Lib.hid (fun b off h => by have := HF2.out b off h; omega), Cls.of (y3.on (y2.on z.below (by omega)) (by omega))⟩
            case measure => first | (simp [intOf]; done) | (simp [intOf]; omega)
        · obtain rfl : j = 0 := by omega
          have HE := Lib.hid (hI.out.end HY.out)
          go_wp2_with fail
          go_ret2
          exact ⟨Q, A, rfl, by rw [← HE.out.1]; exact hQ.out, by rw [← HE.out.2]; exact hA.out, hQF.out, Cls.of (z.on (y1.on hP.out.bel (by omega)) (by omega))⟩
end Go.Proofs.Ythbdkhmgopahbaa
set_option linter.unusedVariables false
namespace Go.Proofs.Ythbdkhmgopahbaa
open Go Go.RowKit Go.Deep
/-- The slice lies in blocks that are new since w. -/
def Fr (w : World) (s : Sl) : Prop := ∀ b off, s.a = some ⟨b, off, none⟩ → w.heap.size ≤ b
set_option maxHeartbeats 8000000 in
set_option maxRecDepth 20000 in
theorem lowest_zeroF (neg : Bool) (a : Option Addr) (n c : Nat) (a' : Option Addr) (n' c' : Nat) (D : Nat) (w : World) (h : NumAt w ⟨a, n, c⟩ 0) (hD : 0 < D) :
    Calls Try.prog 68 #[.agg #[.bool neg, .slice a n c, .slice a' n' c']] w fun e w' => ∃ s t : Sl, e = .returned (.agg #[.bool (decide (frI (sg neg 0) D < 0)), .slice s.a s.len s.cap, .slice t.a t.len t.cap]) ∧ NumAt w' s (frI (sg neg 0) D).natAbs ∧ NumAt w' t (frd (sg neg 0) D) ∧ Fr w s ∧ Fr w t ∧ Cls w w' := by
  obtain ⟨e1, e2⟩ := low_zero (neg := neg) hD
  rw [e1, e2]
  have hn : n = 0 := by have := h.1; rw [digs_zero] at this; exact this
  subst hn
  clear e1 e2 h
  have hx : decide ((0 : Int) < 0) = false := by decide
  rw [hx]
  have H1 := Lib.hid (one_num ((w.alloc (.cells #[.bool neg, .slice a 0 c, .slice a' n' c'] 67)).alloc (.cells #[.bool false, .slice none 0 0, .slice none 0 0] 67)) 91)
  go_enter Try.func68, Try.ntmps68
  go_wp2_with fail
  refine ret_ex rfl ?_
  simp [results, Try.results68, go_sem]
  refine ⟨⟨none, 0, 0⟩, ⟨some ⟨w.heap.size + 1 + 1, 0, none⟩, 1, 1⟩, by simp, num_zero _, ?_, (fun b off h => by cases h), (fun b off h => by simp only [Option.some.injEq, Addr.mk.injEq] at h; omega), Cls.of ?_⟩
  · have h := one_num ((w.alloc (.cells #[.bool neg, .slice a 0 c, .slice a' n' c'] 67)).alloc (.cells #[.bool false, .slice none 0 0, .slice (some ⟨w.heap.size + 1 + 1, 0, none⟩) 1 1] 67)) 91
    simpa using h
  · repeat first | with_reducible exact Below.refl _ _ | with_reducible refine Below.setCell ?_ (by first | omega | (simp; done) | (simp; omega)) _ | with_reducible refine Below.alloc ?_ (by first | omega | (simp; done) | (simp; omega)) _ | with_reducible refine Below.drew ?_ | with_reducible refine Ext.on _ ?_ (by first | omega | (simp; done) | (simp; omega))
set_option maxHeartbeats 8000000 in
set_option maxRecDepth 20000 in
theorem lowest_posF (neg : Bool) (a : Option Addr) (n c : Nat) (a' : Option Addr) (n' c' : Nat) (m D : Nat) (w : World) (h : NumAt w ⟨a, n, c⟩ m) (h' : NumAt w ⟨a', n', c'⟩ D) (hn : n ≤ 500) (hn' : n' ≤ 500) (hD : 0 < D) (hm : 0 < m) :
    Calls Try.prog 68 #[.agg #[.bool neg, .slice a n c, .slice a' n' c']] w fun e w' => ∃ s t : Sl, e = .returned (.agg #[.bool (decide (frI (sg neg m) D < 0)), .slice s.a s.len s.cap, .slice t.a t.len t.cap]) ∧ NumAt w' s (frI (sg neg m) D).natAbs ∧ NumAt w' t (frd (sg neg m) D) ∧ Fr w s ∧ Fr w t ∧ Cls w w' := by
  obtain ⟨e1, e2, e3⟩ := low_parts (neg := neg) hD hm
  rw [e1, e2, e3]
  have hn0 : 0 < n := by have e : n = (digs m).length := h.1; have := digs_len_pos hm; omega
  have hg : 0 < Nat.gcd m D := gcd_pos_right hD
  have HN := Lib.hid h
  have HD := Lib.hid h'
  have HG : Hid (∀ (s : Sl) (W : World), NumAt W s (Nat.gcd m D) → s.len ≤ 500) := Lib.hid fun s W hs => by
    have := hs.1
    have := digs_mono (Nat.le_of_dvd hD (Nat.gcd_dvd_right m D))
    have : n' = (digs D).length := h'.1
    omega
  have d1 : ((n : Int) == 0) = false := by simp; omega
  have C1 := Lib.hid (fun (W : World) (hb : Below w.heap.size w W) => gcd_calls a n c a' n' c' m D W (HN.out.later hb) (HD.out.later hb) hn hn')
  have C2 := Lib.hid (fun (W : World) (s : Sl) (hb : Below w.heap.size w W) (hs : NumAt W s (Nat.gcd m D)) => div_fresh a n c s.a s.len s.cap m (Nat.gcd m D) W (HN.out.later hb) hs hn (HG.out s W hs) hg)
  have C3 := Lib.hid (fun (W : World) (s : Sl) (hb : Below w.heap.size w W) (hs : NumAt W s (Nat.gcd m D)) => div_fresh a' n' c' s.a s.len s.cap D (Nat.gcd m D) W (HD.out.later hb) hs hn' (HG.out s W hs) hg)
  clear e1 e2 e3 h h' hm hD HN HD
  generalize m / Nat.gcd m D = q1 at *
  generalize D / Nat.gcd m D = q2 at *
  generalize m % Nat.gcd m D = r1 at *
  generalize D % Nat.gcd m D = r2 at *
  generalize Nat.gcd m D = g at *
  go_enter Try.func68, Try.ntmps68
  go_wp2_with (first | (go_at_call 96; have B0 : Below w.heap.size w _ := ((Below.refl w.heap.size w).alloc (Nat.le_refl _) (.cells #[.bool neg, .slice a n c, .slice a' n' c'] 67)).alloc (by simp) (.cells #[.bool false, .slice none 0 0, .slice none 0 0] 67); (with_reducible refine (C1.out _ B0).mono ?_); rintro e _ ⟨sg1, rfl, hsg, ⟨y1, rfl⟩⟩; have y1s := y1.size; (try simp at y1s); have B1 := Lib.hid (y1.on B0 (by simp; omega)); clear B0; have G1 := Lib.hid hsg; clear hsg; have k1 : w.heap.size < y1.val.heap.size := (by omega); have HT1 := Lib.hid ((y1.below.block (w.heap.size + 1) (by simp)).trans (new_at1 w _ _ _ 0))) | (go_at_call 100; (with_reducible refine (C2.out _ _ B1.out G1.out).mono ?_); rintro e _ ⟨sq, st, rfl, hsq, _, hfq, ⟨y2, rfl⟩⟩; have FQ := Lib.hid hfq; clear hfq; have y2s := y2.size; have B2 := Lib.hid (y2.on B1.out (by omega)); have G2 := Lib.hid (G1.out.later y2.below); have Q1 := Lib.hid hsq; clear hsq; have k2 : w.heap.size < y2.val.heap.size := (by omega); have HT2 := Lib.hid ((y2.below.block (w.heap.size + 1) (by omega)).trans HT1.out)) | (go_at_call 100; (with_reducible refine (C3.out _ _ B2.out G2.out).mono ?_); rintro e _ ⟨sp, su, rfl, hsp, _, hfp, ⟨y3, rfl⟩⟩; have FP := Lib.hid hfp; clear hfp; have y3s := y3.size; have B3 := Lib.hid (y3.on B2.out (by omega)); have Q2 := Lib.hid (Q1.out.later y3.below); have P2 := Lib.hid hsp; clear hsp; have k3 : w.heap.size < y3.val.heap.size := (by omega); have HT3 := Lib.hid ((y3.below.block (w.heap.size + 1) (by omega)).trans HT2.out); obtain ⟨c0, c1, c2, c3, c4, c5, c6⟩ := three_b HT3.out))
  refine ret_ex rfl ?_
  simp [results, Try.results68, go_sem, c4, c5, c6]
  exact ⟨sq, sp, by simp, NumAt.store3 Q2.out HT3.out _ _ _, NumAt.store3 P2.out HT3.out _ _ _, (fun b off h => by have := FQ.out b off h; omega), (fun b off h => by have := FP.out b off h; omega), Cls.of (below3 B3.out (by omega) _ _ _)⟩
theorem lowest_fresh (neg : Bool) (a : Option Addr) (n c : Nat) (a' : Option Addr) (n' c' : Nat) (m D : Nat) (w : World) (h : NumAt w ⟨a, n, c⟩ m) (h' : NumAt w ⟨a', n', c'⟩ D) (hn : n ≤ 500) (hn' : n' ≤ 500) (hD : 0 < D) :
    Calls Try.prog 68 #[.agg #[.bool neg, .slice a n c, .slice a' n' c']] w fun e w' => ∃ s t : Sl, e = .returned (.agg #[.bool (decide (frI (sg neg m) D < 0)), .slice s.a s.len s.cap, .slice t.a t.len t.cap]) ∧ NumAt w' s (frI (sg neg m) D).natAbs ∧ NumAt w' t (frd (sg neg m) D) ∧ Fr w s ∧ Fr w t ∧ Cls w w' := by
  by_cases hm : m = 0
  · subst hm
    exact lowest_zeroF neg a n c a' n' c' D w h hD
  · exact lowest_posF neg a n c a' n' c' m D w h h' hn hn' hD (Nat.pos_of_ne_zero hm)
end Go.Proofs.Ythbdkhmgopahbaa
