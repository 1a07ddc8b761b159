/-
  The reference's fractions of any size: in lowest terms, their signs, and as fractions again.
-/
import Derived.Test.YtogjollefllajaaFBig
set_option linter.unusedVariables false
namespace Go.Proofs.Ytogjollefllajaa
open Go Go.RowKit Go.Deep
def sg (neg : Bool) (m : Nat) : Int := if neg = true then -(m : Int) else m
theorem sg_abs (neg : Bool) (m : Nat) : (sg neg m).natAbs = m := by cases neg <;> simp [sg]
theorem low_parts {neg : Bool} {m D : Nat} (hD : 0 < D) (hm : 0 < m) : decide (frI (sg neg m) D < 0) = neg ∧ (frI (sg neg m) D).natAbs = m / Nat.gcd m D ∧ frd (sg neg m) D = D / Nat.gcd m D := by
  refine ⟨?_, by rw [frI_abs, sg_abs], by unfold frd; rw [sg_abs]⟩
  have h := frI_neg (N := sg neg m) hD
  cases neg
  · rw [decide_eq_false_iff_not, h]; simp [sg]
  · rw [decide_eq_true_iff, h]; simp [sg]; omega
theorem low_zero {neg : Bool} {D : Nat} (hD : 0 < D) : frI (sg neg 0) D = 0 ∧ frd (sg neg 0) D = 1 := by
  have e : sg neg 0 = 0 := by cases neg <;> rfl
  rw [e]
  exact ⟨frI_zero D, frd_zero hD⟩
theorem num_zero (W : World) : NumAt W ⟨none, 0, 0⟩ 0 := by unfold NumAt; rw [digs_zero]; exact UAt.nil
set_option maxHeartbeats 8000000 in
set_option maxRecDepth 20000 in
theorem lowest_zero (neg : Bool) (a : Option Addr) (n c : Nat) (a' : Option Addr) (n' c' : Nat) (D : Nat) (w : World) (h : NumAt w ⟨a, n, c⟩ 0) (hD : 0 < D) :
    Calls Try.prog 58 #[.agg #[.bool neg, .slice a n c, .slice a' n' c']] w fun e w' => ∃ s t : Sl, e = .returned (.agg #[.bool (decide (frI (sg neg 0) D < 0)), .slice s.a s.len s.cap, .slice t.a t.len t.cap]) ∧ NumAt w' s (frI (sg neg 0) D).natAbs ∧ NumAt w' t (frd (sg neg 0) D) ∧ Cls w w' := by
  obtain ⟨e1, e2⟩ := low_zero (neg := neg) hD
  rw [e1, e2]
  have hn : n = 0 := by have := h.1; rw [digs_zero] at this; exact this
  subst hn
  clear e1 e2 h
  have hx : decide ((0 : Int) < 0) = false := by decide
  rw [hx]
  have H1 := Lib.hid (one_num ((w.alloc (.cells #[.bool neg, .slice a 0 c, .slice a' n' c'] 62)).alloc (.cells #[.bool false, .slice none 0 0, .slice none 0 0] 62)) 82)
  go_enter Try.func58, Try.ntmps58
  go_wp2_with fail
  refine ret_ex rfl ?_
  simp [results, Try.results58, go_sem]
  refine ⟨⟨none, 0, 0⟩, ⟨some ⟨w.heap.size + 1 + 1, 0, none⟩, 1, 1⟩, by simp, num_zero _, ?_, Cls.of ?_⟩
  · have h := one_num ((w.alloc (.cells #[.bool neg, .slice a 0 c, .slice a' n' c'] 62)).alloc (.cells #[.bool false, .slice none 0 0, .slice (some ⟨w.heap.size + 1 + 1, 0, none⟩) 1 1] 62)) 82
    simpa using h
  · repeat first | with_reducible exact Below.refl _ _ | with_reducible refine Below.setCell ?_ (by first | omega | (simp; done) | (simp; omega)) _ | with_reducible refine Below.alloc ?_ (by first | omega | (simp; done) | (simp; omega)) _ | with_reducible refine Below.drew ?_ | with_reducible refine Ext.on _ ?_ (by first | omega | (simp; done) | (simp; omega))
set_option maxHeartbeats 8000000 in
set_option maxRecDepth 20000 in
theorem lowest_pos (neg : Bool) (a : Option Addr) (n c : Nat) (a' : Option Addr) (n' c' : Nat) (m D : Nat) (w : World) (h : NumAt w ⟨a, n, c⟩ m) (h' : NumAt w ⟨a', n', c'⟩ D) (hn : n ≤ 500) (hn' : n' ≤ 500) (hD : 0 < D) (hm : 0 < m) :
    Calls Try.prog 58 #[.agg #[.bool neg, .slice a n c, .slice a' n' c']] w fun e w' => ∃ s t : Sl, e = .returned (.agg #[.bool (decide (frI (sg neg m) D < 0)), .slice s.a s.len s.cap, .slice t.a t.len t.cap]) ∧ NumAt w' s (frI (sg neg m) D).natAbs ∧ NumAt w' t (frd (sg neg m) D) ∧ Cls w w' := by
  obtain ⟨e1, e2, e3⟩ := low_parts (neg := neg) hD hm
  rw [e1, e2, e3]
  have hn0 : 0 < n := by have e : n = (digs m).length := h.1; have := digs_len_pos hm; omega
  have hg : 0 < Nat.gcd m D := gcd_pos_right hD
  have HN := Lib.hid h
  have HD := Lib.hid h'
  have HG : Hid (∀ (s : Sl) (W : World), NumAt W s (Nat.gcd m D) → s.len ≤ 500) := Lib.hid fun s W hs => by
    have := hs.1
    have := digs_mono (Nat.le_of_dvd hD (Nat.gcd_dvd_right m D))
    have : n' = (digs D).length := h'.1
    omega
  have d1 : ((n : Int) == 0) = false := by simp; omega
  have C1 := Lib.hid (fun (W : World) (hb : Below w.heap.size w W) => gcd_calls a n c a' n' c' m D W (HN.out.later hb) (HD.out.later hb) hn hn')
  have C2 := Lib.hid (fun (W : World) (s : Sl) (hb : Below w.heap.size w W) (hs : NumAt W s (Nat.gcd m D)) => div_calls a n c s.a s.len s.cap m (Nat.gcd m D) W (HN.out.later hb) hs hn (HG.out s W hs) hg)
  have C3 := Lib.hid (fun (W : World) (s : Sl) (hb : Below w.heap.size w W) (hs : NumAt W s (Nat.gcd m D)) => div_calls a' n' c' s.a s.len s.cap D (Nat.gcd m D) W (HD.out.later hb) hs hn' (HG.out s W hs) hg)
  clear e1 e2 e3 h h' hm hD HN HD
  generalize m / Nat.gcd m D = q1 at *
  generalize D / Nat.gcd m D = q2 at *
  generalize m % Nat.gcd m D = r1 at *
  generalize D % Nat.gcd m D = r2 at *
  generalize Nat.gcd m D = g at *
  go_enter Try.func58, Try.ntmps58
  go_wp2_with (first | (go_at_call 54; have B0 : Below w.heap.size w _ := ((Below.refl w.heap.size w).alloc (Nat.le_refl _) (.cells #[.bool neg, .slice a n c, .slice a' n' c'] 62)).alloc (by simp) (.cells #[.bool false, .slice none 0 0, .slice none 0 0] 62); (with_reducible refine (C1.out _ B0).mono ?_); rintro e _ ⟨sg1, rfl, hsg, ⟨y1, rfl⟩⟩; have y1s := y1.size; (try simp at y1s); have B1 := Lib.hid (y1.on B0 (by simp; omega)); clear B0; have G1 := Lib.hid hsg; clear hsg; have k1 : w.heap.size < y1.val.heap.size := (by omega); have HT1 := Lib.hid ((y1.below.block (w.heap.size + 1) (by simp)).trans (new_at1 w _ _ _ 0))) | (go_at_call 83; (with_reducible refine (C2.out _ _ B1.out G1.out).mono ?_); rintro e _ ⟨sq, st, rfl, hsq, _, ⟨y2, rfl⟩⟩; have y2s := y2.size; have B2 := Lib.hid (y2.on B1.out (by omega)); have G2 := Lib.hid (G1.out.later y2.below); have Q1 := Lib.hid hsq; clear hsq; have k2 : w.heap.size < y2.val.heap.size := (by omega); have HT2 := Lib.hid ((y2.below.block (w.heap.size + 1) (by omega)).trans HT1.out)) | (go_at_call 83; (with_reducible refine (C3.out _ _ B2.out G2.out).mono ?_); rintro e _ ⟨sp, su, rfl, hsp, _, ⟨y3, rfl⟩⟩; have y3s := y3.size; have B3 := Lib.hid (y3.on B2.out (by omega)); have Q2 := Lib.hid (Q1.out.later y3.below); have P2 := Lib.hid hsp; clear hsp; have k3 : w.heap.size < y3.val.heap.size := (by omega); have HT3 := Lib.hid ((y3.below.block (w.heap.size + 1) (by omega)).trans HT2.out); obtain ⟨c0, c1, c2, c3, c4, c5, c6⟩ := three_b HT3.out))
  refine ret_ex rfl ?_
  simp [results, Try.results58, go_sem, c4, c5, c6]
  exact ⟨sq, sp, by simp, NumAt.store3 Q2.out HT3.out _ _ _, NumAt.store3 P2.out HT3.out _ _ _, Cls.of (below3 B3.out (by omega) _ _ _)⟩
theorem lowest_calls (neg : Bool) (a : Option Addr) (n c : Nat) (a' : Option Addr) (n' c' : Nat) (m D : Nat) (w : World) (h : NumAt w ⟨a, n, c⟩ m) (h' : NumAt w ⟨a', n', c'⟩ D) (hn : n ≤ 500) (hn' : n' ≤ 500) (hD : 0 < D) :
    Calls Try.prog 58 #[.agg #[.bool neg, .slice a n c, .slice a' n' c']] w fun e w' => ∃ s t : Sl, e = .returned (.agg #[.bool (decide (frI (sg neg m) D < 0)), .slice s.a s.len s.cap, .slice t.a t.len t.cap]) ∧ NumAt w' s (frI (sg neg m) D).natAbs ∧ NumAt w' t (frd (sg neg m) D) ∧ Cls w w' := by
  by_cases hm : m = 0
  · subst hm
    exact lowest_zero neg a n c a' n' c' D w h hD
  · exact lowest_pos neg a n c a' n' c' m D w h h' hn hn' hD (Nat.pos_of_ne_zero hm)
set_option maxHeartbeats 4000000 in
set_option maxRecDepth 20000 in
theorem Sign_calls (N : Int) (a : Option Addr) (n c : Nat) (a' : Option Addr) (n' c' : Nat) (w : World) (h : NumAt w ⟨a, n, c⟩ N.natAbs) :
    Calls Try.prog 34 #[.agg #[.bool (decide (N < 0)), .slice a n c, .slice a' n' c']] w fun e w' => e = .returned (.int .i64 (cmpI N 0)) ∧ Cls w w' := by
  have hl : n = (digs N.natAbs).length := h.1
  rcases Int.lt_trichotomy N 0 with hN | rfl | hN
  · have hn : 0 < n := by have := digs_len_pos (n := N.natAbs) (by omega); omega
    have e : cmpI N 0 = -1 := if_pos hN
    have d1 : decide (N < 0) = true := decide_eq_true hN
    have d2 : ((n : Int) == 0) = false := by simp; omega
    rw [e, d1]
    clear h hl hN e d1
    go_enter Try.func34, Try.ntmps34
    go_wp2_with fail
    go_ret
    refine ⟨rfl, Cls.of ?_⟩
    repeat first | with_reducible exact Below.refl _ _ | with_reducible refine Below.setCell ?_ (by first | omega | (simp; done) | (simp; omega)) _ | with_reducible refine Below.alloc ?_ (by first | omega | (simp; done) | (simp; omega)) _ | with_reducible refine Below.drew ?_ | with_reducible refine Ext.on _ ?_ (by first | omega | (simp; done) | (simp; omega))
  · have hn : n = 0 := by rw [hl]; simp [digs_zero]
    subst hn
    have e : cmpI 0 0 = 0 := rfl
    rw [e]
    clear h hl e
    go_enter Try.func34, Try.ntmps34
    go_wp2_with fail
    go_ret
    refine ⟨rfl, Cls.of ?_⟩
    repeat first | with_reducible exact Below.refl _ _ | with_reducible refine Below.setCell ?_ (by first | omega | (simp; done) | (simp; omega)) _ | with_reducible refine Below.alloc ?_ (by first | omega | (simp; done) | (simp; omega)) _ | with_reducible refine Below.drew ?_ | with_reducible refine Ext.on _ ?_ (by first | omega | (simp; done) | (simp; omega))
  · have hn : 0 < n := by have := digs_len_pos (n := N.natAbs) (by omega); omega
    have e : cmpI N 0 = 1 := by unfold cmpI; rw [if_neg (by omega), if_pos hN]
    have d1 : decide (N < 0) = false := decide_eq_false (by omega)
    have d2 : ((n : Int) == 0) = false := by simp; omega
    rw [e, d1]
    clear h hl hN e d1
    go_enter Try.func34, Try.ntmps34
    go_wp2_with fail
    go_ret
    refine ⟨rfl, Cls.of ?_⟩
    repeat first | with_reducible exact Below.refl _ _ | with_reducible refine Below.setCell ?_ (by first | omega | (simp; done) | (simp; omega)) _ | with_reducible refine Below.alloc ?_ (by first | omega | (simp; done) | (simp; omega)) _ | with_reducible refine Below.drew ?_ | with_reducible refine Ext.on _ ?_ (by first | omega | (simp; done) | (simp; omega))
end Go.Proofs.Ytogjollefllajaa
