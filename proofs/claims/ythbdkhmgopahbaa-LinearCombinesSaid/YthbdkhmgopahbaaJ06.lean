/-
  The reference's fractions of any size: in lowest terms, their signs, and as fractions again. The reference's fractions of any size: as fractions again. Fractions in order: plain integers.
-/
import Derived.Test.YthbdkhmgopahbaaJ05
set_option linter.unusedVariables false
namespace Go.Proofs.Ythbdkhmgopahbaa
open Go Go.RowKit Go.Deep
def sg (neg : Bool) (m : Nat) : Int := if neg = true then -(m : Int) else m
theorem sg_abs (neg : Bool) (m : Nat) : (sg neg m).natAbs = m := by cases neg <;> simp [sg]
theorem low_parts {neg : Bool} {m D : Nat} (hD : 0 < D) (hm : 0 < m) : decide (frI (sg neg m) D < 0) = neg ∧ (frI (sg neg m) D).natAbs = m / Nat.gcd m D ∧ frd (sg neg m) D = D / Nat.gcd m D := by
  refine ⟨?_, by rw [frI_abs, sg_abs], by unfold frd; rw [sg_abs]⟩
  have h := frI_neg (N := sg neg m) hD
  cases neg
  · rw [decide_eq_false_iff_not, h]; simp [sg]
  · rw [decide_eq_true_iff, h]; simp [sg]; omega
theorem low_zero {neg : Bool} {D : Nat} (hD : 0 < D) : frI (sg neg 0) D = 0 ∧ frd (sg neg 0) D = 1 := by
  have e : sg neg 0 = 0 := by cases neg <;> rfl
  rw [e]
  exact ⟨frI_zero D, frd_zero hD⟩
theorem num_zero (W : World) : NumAt W ⟨none, 0, 0⟩ 0 := by unfold NumAt; rw [digs_zero]; exact UAt.nil
set_option maxHeartbeats 8000000 in
set_option maxRecDepth 20000 in
theorem lowest_zero (neg : Bool) (a : Option Addr) (n c : Nat) (a' : Option Addr) (n' c' : Nat) (D : Nat) (w : World) (h : NumAt w ⟨a, n, c⟩ 0) (hD : 0 < D) :
    Calls Try.prog 68 #[.agg #[.bool neg, .slice a n c, .slice a' n' c']] w fun e w' => ∃ s t : Sl, e = .returned (.agg #[.bool (decide (frI (sg neg 0) D < 0)), .slice s.a s.len s.cap, .slice t.a t.len t.cap]) ∧ NumAt w' s (frI (sg neg 0) D).natAbs ∧ NumAt w' t (frd (sg neg 0) D) ∧ Cls w w' := by
  obtain ⟨e1, e2⟩ := low_zero (neg := neg) hD
  rw [e1, e2]
  have hn : n = 0 := by have := h.1; rw [digs_zero] at this; exact this
  subst hn
  clear e1 e2 h
  have hx : decide ((0 : Int) < 0) = false := by decide
  rw [hx]
  have H1 := Lib.hid (one_num ((w.alloc (.cells #[.bool neg, .slice a 0 c, .slice a' n' c'] 67)).alloc (.cells #[.bool false, .slice none 0 0, .slice none 0 0] 67)) 91)
  go_enter Try.func68, Try.ntmps68
  go_wp2_with fail
  refine ret_ex rfl ?_
  simp [results, Try.results68, go_sem]
  refine ⟨⟨none, 0, 0⟩, ⟨some ⟨w.heap.size + 1 + 1, 0, none⟩, 1, 1⟩, by simp, num_zero _, ?_, Cls.of ?_⟩
  · have h := one_num ((w.alloc (.cells #[.bool neg, .slice a 0 c, .slice a' n' c'] 67)).alloc (.cells #[.bool false, .slice none 0 0, .slice (some ⟨w.heap.size + 1 + 1, 0, none⟩) 1 1] 67)) 91
    simpa using h
  · repeat first | with_reducible exact Below.refl _ _ | with_reducible refine Below.setCell ?_ (by first | omega | (simp; done) | (simp; omega)) _ | with_reducible refine Below.alloc ?_ (by first | omega | (simp; done) | (simp; omega)) _ | with_reducible refine Below.drew ?_ | with_reducible refine Ext.on _ ?_ (by first | omega | (simp; done) | (simp; omega))
set_option maxHeartbeats 8000000 in
set_option maxRecDepth 20000 in
theorem lowest_pos (neg : Bool) (a : Option Addr) (n c : Nat) (a' : Option Addr) (n' c' : Nat) (m D : Nat) (w : World) (h : NumAt w ⟨a, n, c⟩ m) (h' : NumAt w ⟨a', n', c'⟩ D) (hn : n ≤ 500) (hn' : n' ≤ 500) (hD : 0 < D) (hm : 0 < m) :
    Calls Try.prog 68 #[.agg #[.bool neg, .slice a n c, .slice a' n' c']] w fun e w' => ∃ s t : Sl, e = .returned (.agg #[.bool (decide (frI (sg neg m) D < 0)), .slice s.a s.len s.cap, .slice t.a t.len t.cap]) ∧ NumAt w' s (frI (sg neg m) D).natAbs ∧ NumAt w' t (frd (sg neg m) D) ∧ Cls w w' := by
  obtain ⟨e1, e2, e3⟩ := low_parts (neg := neg) hD hm
  rw [e1, e2, e3]
  have hn0 : 0 < n := by have e : n = (digs m).length := h.1; have := digs_len_pos hm; omega
  have hg : 0 < Nat.gcd m D := gcd_pos_right hD
  have HN := Lib.hid h
  have HD := Lib.hid h'
  have HG : Hid (∀ (s : Sl) (W : World), NumAt W s (Nat.gcd m D) → s.len ≤ 500) := Lib.hid fun s W hs => by
    have := hs.1
    have := digs_mono (Nat.le_of_dvd hD (Nat.gcd_dvd_right m D))
    have : n' = (digs D).length := h'.1
    omega
  have d1 : ((n : Int) == 0) = false := by simp; omega
  have C1 := Lib.hid (fun (W : World) (hb : Below w.heap.size w W) => gcd_calls a n c a' n' c' m D W (HN.out.later hb) (HD.out.later hb) hn hn')
  have C2 := Lib.hid (fun (W : World) (s : Sl) (hb : Below w.heap.size w W) (hs : NumAt W s (Nat.gcd m D)) => div_calls a n c s.a s.len s.cap m (Nat.gcd m D) W (HN.out.later hb) hs hn (HG.out s W hs) hg)
  have C3 := Lib.hid (fun (W : World) (s : Sl) (hb : Below w.heap.size w W) (hs : NumAt W s (Nat.gcd m D)) => div_calls a' n' c' s.a s.len s.cap D (Nat.gcd m D) W (HD.out.later hb) hs hn' (HG.out s W hs) hg)
  clear e1 e2 e3 h h' hm hD HN HD
  generalize m / Nat.gcd m D = q1 at *
  generalize D / Nat.gcd m D = q2 at *
  generalize m % Nat.gcd m D = r1 at *
  generalize D % Nat.gcd m D = r2 at *
  generalize Nat.gcd m D = g at *
  go_enter Try.func68, Try.ntmps68
  go_wp2_with (first | (go_at_call 96; have B0 : Below w.heap.size w _ := ((Below.refl w.heap.size w).alloc (Nat.le_refl _) (.cells #[.bool neg, .slice a n c, .slice a' n' c'] 67)).alloc (by simp) (.cells #[.bool false, .slice none 0 0, .slice none 0 0] 67); (with_reducible refine (C1.out _ B0).mono ?_); rintro e _ ⟨sg1, rfl, hsg, ⟨y1, rfl⟩⟩; have y1s := y1.size; (try simp at y1s); have B1 := Lib.hid (y1.on B0 (by simp; omega)); clear B0; have G1 := Lib.hid hsg; clear hsg; have k1 : w.heap.size < y1.val.heap.size := (by omega); have HT1 := Lib.hid ((y1.below.block (w.heap.size + 1) (by simp)).trans (new_at1 w _ _ _ 0))) | (go_at_call 100; (with_reducible refine (C2.out _ _ B1.out G1.out).mono ?_); rintro e _ ⟨sq, st, rfl, hsq, _, ⟨y2, rfl⟩⟩; have y2s := y2.size; have B2 := Lib.hid (y2.on B1.out (by omega)); have G2 := Lib.hid (G1.out.later y2.below); have Q1 := Lib.hid hsq; clear hsq; have k2 : w.heap.size < y2.val.heap.size := (by omega); have HT2 := Lib.hid ((y2.below.block (w.heap.size + 1) (by omega)).trans HT1.out)) | (go_at_call 100; (with_reducible refine (C3.out _ _ B2.out G2.out).mono ?_); rintro e _ ⟨sp, su, rfl, hsp, _, ⟨y3, rfl⟩⟩; have y3s := y3.size; have B3 := Lib.hid (y3.on B2.out (by omega)); have Q2 := Lib.hid (Q1.out.later y3.below); have P2 := Lib.hid hsp; clear hsp; have k3 : w.heap.size < y3.val.heap.size := (by omega); have HT3 := Lib.hid ((y3.below.block (w.heap.size + 1) (by omega)).trans HT2.out); obtain ⟨c0, c1, c2, c3, c4, c5, c6⟩ := three_b HT3.out))
  refine ret_ex rfl ?_
  simp [results, Try.results68, go_sem, c4, c5, c6]
  exact ⟨sq, sp, by simp, NumAt.store3 Q2.out HT3.out _ _ _, NumAt.store3 P2.out HT3.out _ _ _, Cls.of (below3 B3.out (by omega) _ _ _)⟩
theorem lowest_calls (neg : Bool) (a : Option Addr) (n c : Nat) (a' : Option Addr) (n' c' : Nat) (m D : Nat) (w : World) (h : NumAt w ⟨a, n, c⟩ m) (h' : NumAt w ⟨a', n', c'⟩ D) (hn : n ≤ 500) (hn' : n' ≤ 500) (hD : 0 < D) :
    Calls Try.prog 68 #[.agg #[.bool neg, .slice a n c, .slice a' n' c']] w fun e w' => ∃ s t : Sl, e = .returned (.agg #[.bool (decide (frI (sg neg m) D < 0)), .slice s.a s.len s.cap, .slice t.a t.len t.cap]) ∧ NumAt w' s (frI (sg neg m) D).natAbs ∧ NumAt w' t (frd (sg neg m) D) ∧ Cls w w' := by
  by_cases hm : m = 0
  · subst hm
    exact lowest_zero neg a n c a' n' c' D w h hD
  · exact lowest_pos neg a n c a' n' c' m D w h h' hn hn' hD (Nat.pos_of_ne_zero hm)
set_option maxHeartbeats 4000000 in
set_option maxRecDepth 20000 in
theorem Sign_calls (N : Int) (a : Option Addr) (n c : Nat) (a' : Option Addr) (n' c' : Nat) (w : World) (h : NumAt w ⟨a, n, c⟩ N.natAbs) :
    Calls Try.prog 40 #[.agg #[.bool (decide (N < 0)), .slice a n c, .slice a' n' c']] w fun e w' => e = .returned (.int .i64 (cmpI N 0)) ∧ Cls w w' := by
  have hl : n = (digs N.natAbs).length := h.1
  rcases Int.lt_trichotomy N 0 with hN | rfl | hN
  · have hn : 0 < n := by have := digs_len_pos (n := N.natAbs) (by omega); omega
    have e : cmpI N 0 = -1 := if_pos hN
    have d1 : decide (N < 0) = true := decide_eq_true hN
    have d2 : ((n : Int) == 0) = false := by simp; omega
    rw [e, d1]
    clear h hl hN e d1
    go_enter Try.func40, Try.ntmps40
    go_wp2_with fail
    go_ret
    refine ⟨rfl, Cls.of ?_⟩
    repeat first | with_reducible exact Below.refl _ _ | with_reducible refine Below.setCell ?_ (by first | omega | (simp; done) | (simp; omega)) _ | with_reducible refine Below.alloc ?_ (by first | omega | (simp; done) | (simp; omega)) _ | with_reducible refine Below.drew ?_ | with_reducible refine Ext.on _ ?_ (by first | omega | (simp; done) | (simp; omega))
  · have hn : n = 0 := by rw [hl]; simp [digs_zero]
    subst hn
    have e : cmpI 0 0 = 0 := rfl
    rw [e]
    clear h hl e
    go_enter Try.func40, Try.ntmps40
    go_wp2_with fail
    go_ret
    refine ⟨rfl, Cls.of ?_⟩
    repeat first | with_reducible exact Below.refl _ _ | with_reducible refine Below.setCell ?_ (by first | omega | (simp; done) | (simp; omega)) _ | with_reducible refine Below.alloc ?_ (by first | omega | (simp; done) | (simp; omega)) _ | with_reducible refine Below.drew ?_ | with_reducible refine Ext.on _ ?_ (by first | omega | (simp; done) | (simp; omega))
  · have hn : 0 < n := by have := digs_len_pos (n := N.natAbs) (by omega); omega
    have e : cmpI N 0 = 1 := by unfold cmpI; rw [if_neg (by omega), if_pos hN]
    have d1 : decide (N < 0) = false := decide_eq_false (by omega)
    have d2 : ((n : Int) == 0) = false := by simp; omega
    rw [e, d1]
    clear h hl hN e d1
    go_enter Try.func40, Try.ntmps40
    go_wp2_with fail
    go_ret
    refine ⟨rfl, Cls.of ?_⟩
    repeat first | with_reducible exact Below.refl _ _ | with_reducible refine Below.setCell ?_ (by first | omega | (simp; done) | (simp; omega)) _ | with_reducible refine Below.alloc ?_ (by first | omega | (simp; done) | (simp; omega)) _ | with_reducible refine Below.drew ?_ | with_reducible refine Ext.on _ ?_ (by first | omega | (simp; done) | (simp; omega))
end Go.Proofs.Ythbdkhmgopahbaa
set_option linter.unusedVariables false
namespace Go.Proofs.Ythbdkhmgopahbaa
open Go Go.RowKit Go.Deep
theorem vl_drop (l : List Nat) (j : Nat) : vl (l.drop j) = l.getD j 0 + 1000000000 * vl (l.drop (j + 1)) := by
  by_cases h : j < l.length
  · rw [List.drop_eq_getElem_cons h]
    simp [vl, List.getD, h]
  · rw [List.drop_eq_nil_of_le (by omega), List.drop_eq_nil_of_le (by omega)]
    have : l.getD j 0 = 0 := by simp [List.getD, List.getElem?_eq_none (Nat.le_of_not_lt h)]
    rw [this]; simp [vl]
theorem vl_drop_le (l : List Nat) (j : Nat) : vl (l.drop j) ≤ vl l := by
  have := vl_split l j
  have h : 1 * vl (l.drop j) ≤ 1000000000 ^ (min j l.length) * vl (l.drop j) := Nat.mul_le_mul_right _ (Nat.pow_pos (by omega))
  omega
set_option maxHeartbeats 4000000 in
set_option maxRecDepth 20000 in
theorem number_no (a : Option Addr) (n c : Nat) (m : Nat) (w : World) (h : NumAt w ⟨a, n, c⟩ m) (hm : ¬ m ≤ 100000000000000000) :
    Calls Try.prog 63 #[.slice a n c] w fun e w' => e = .returned (.tuple #[.int .i64 0, .bool false]) ∧ Cls w w' := by
  have HN := Lib.hid h
  have C1 := Lib.hid (fun W => of_calls 100000000000000000 W (by omega) (by omega))
  have C2 := Lib.hid (fun (W : World) (s : Sl) (hb : Below w.heap.size w W) (hs : NumAt W s (100000000000000000 : Int).natAbs) => compare_calls a n c s.a s.len s.cap m _ W (HN.out.later hb) hs)
  have d1 : decide (0 < cmpN m (100000000000000000 : Int).natAbs) = true := by
    apply decide_eq_true
    unfold cmpN
    rw [if_neg (by omega), if_pos (by omega)]
    omega
  clear h hm HN
  generalize cmpN m (100000000000000000 : Int).natAbs = cr at *
  generalize (100000000000000000 : Int).natAbs = mx at *
  go_enter Try.func63, Try.ntmps63
  go_wp2_with (first | (go_at_call 67; (with_reducible refine (C1.out _).mono ?_); rintro e _ ⟨s1, rfl, hs1, ⟨y1, rfl⟩⟩; have H1 := Lib.hid hs1; clear hs1) | (go_at_call 71; (with_reducible refine (C2.out _ _ y1.below H1.out).mono ?_); rintro e _ ⟨rfl, ⟨y2, rfl⟩⟩))
  go_ret2
  exact ⟨rfl, Cls.of (y2.on y1.below y1.size)⟩
set_option maxHeartbeats 8000000 in
set_option maxRecDepth 20000 in
theorem number_yes (a : Option Addr) (n c : Nat) (m : Nat) (w : World) (h : NumAt w ⟨a, n, c⟩ m) (hm : m ≤ 100000000000000000) :
    Calls Try.prog 63 #[.slice a n c] w fun e w' => e = .returned (.tuple #[.int .i64 (m : Int), .bool true]) ∧ Cls w w' := by
  have HN := Lib.hid h
  have hle : n ≤ c := h.2.1
  have hmax : c ≤ maxLen := h.2.2.1
  unfold maxLen at hmax
  have HL : Hid (n = (digs m).length) := Lib.hid h.1
  have H := Lib.hid h.2.2.2
  have C1 := Lib.hid (fun W => of_calls 100000000000000000 W (by omega) (by omega))
  have C2 := Lib.hid (fun (W : World) (s : Sl) (hb : Below w.heap.size w W) (hs : NumAt W s (100000000000000000 : Int).natAbs) => compare_calls a n c s.a s.len s.cap m _ W (HN.out.later hb) hs)
  have d1 : decide (0 < cmpN m (100000000000000000 : Int).natAbs) = false := by
    apply decide_eq_false
    unfold cmpN
    split <;> (try split) <;> omega
  have HM := Lib.hid hm
  clear h hm HN
  generalize cmpN m (100000000000000000 : Int).natAbs = cr at *
  generalize (100000000000000000 : Int).natAbs = mx at *
  go_enter Try.func63, Try.ntmps63
  go_wp2_with (first | (go_at_call 67; (with_reducible refine (C1.out _).mono ?_); rintro e _ ⟨s1, rfl, hs1, ⟨y1, rfl⟩⟩; have H1 := Lib.hid hs1; clear hs1) | (go_at_call 71; (with_reducible refine (C2.out _ _ y1.below H1.out).mono ?_); rintro e _ ⟨rfl, ⟨y2, rfl⟩⟩))
  have HBW : Hid (Below w.heap.size w y2.val) := Lib.hid (y2.on y1.below y1.size)
  clear C1 C2 H1 d1
  generalize y2.val = Y at *
  go_loopw [4, 5] (fun s4 i wr => ∃ k : Nat, k ≤ n ∧ i = .int .i64 ((k : Int) - 1) ∧ s4 = .int .i64 (vl ((digs m).drop k) : Nat) ∧ wr = Y) (fun _ i _ => (intOf i + 1).toNat)
  case atStart => exact ⟨n, Nat.le_refl _, rfl, by rw [List.drop_eq_nil_of_le (by rw [← HL.out]; exact Nat.le_refl _)]; rfl, by trivial⟩
  case round =>
    obtain ⟨k, hk, rfl, rfl, hwr⟩ := hrel
    subst hwr
    by_cases h0 : 0 < k
    · obtain ⟨j, rfl⟩ : ∃ j, k = j + 1 := ⟨k - 1, by omega⟩
      obtain ⟨b, off, ea, hb, hcell⟩ := H.out.resolve_left (by show ¬ n = 0; omega)
      have ea1 : a = some ⟨b, off, none⟩ := ea
      subst ea1
      clear ea
      have q := (HBW.out.cell (p := ⟨b, off + j, none⟩) hb).trans (hcell j (by show j < n; omega))
      have hb2 := Nat.lt_of_lt_of_le hb HBW.out.size
      have hv := vl_drop (digs m) j
      have hv2 := vl_drop_le (digs m) j
      have hv3 := vl_drop_le (digs m) (j + 1)
      have hdj := (dg_digs m).getD j
      rw [vl_digs] at hv2 hv3
      have hmm := HM.out
      have HV := Lib.hid hv
      rw [hv] at hv2
      clear hcell hv
      generalize (digs m).getD j 0 = d at *
      generalize vl ((digs m).drop (j + 1)) = u at *
      have e0 : ((j + 1 : Nat) : Int) - 1 = (j : Int) := by omega
      rw [e0]
      clear e0
      go_wp2_with fail
      go_roundw
      case rel => exact ⟨j, by omega, rfl, by rw [HV.out]; congr 1; omega, by trivial⟩
      case measure => first | (simp [intOf]; done) | (simp [intOf]; omega)
    · obtain rfl : k = 0 := by omega
      go_wp2_with fail
      go_ret2
      exact ⟨by rw [List.drop_zero, vl_digs]; rfl, Cls.of HBW.out⟩
def nmI (m : Nat) : Int := if m ≤ 100000000000000000 then (m : Int) else 0
theorem number_calls (a : Option Addr) (n c : Nat) (m : Nat) (w : World) (h : NumAt w ⟨a, n, c⟩ m) :
    Calls Try.prog 63 #[.slice a n c] w fun e w' => e = .returned (.tuple #[.int .i64 (nmI m), .bool (decide (m ≤ 100000000000000000))]) ∧ Cls w w' := by
  by_cases hm : m ≤ 100000000000000000
  · have e : nmI m = m := if_pos hm
    rw [e, decide_eq_true hm]; exact number_yes a n c m w h hm
  · have e : nmI m = 0 := if_neg hm
    rw [e, decide_eq_false hm]; exact number_no a n c m w h hm
set_option maxHeartbeats 8000000 in
set_option maxRecDepth 20000 in
theorem Fit_calls (N : Int) (D : Nat) (a : Option Addr) (n c : Nat) (a' : Option Addr) (n' c' : Nat) (w : World) (h : NumAt w ⟨a, n, c⟩ (frI N D).natAbs) (h' : NumAt w ⟨a', n', c'⟩ (frd N D)) :
    Calls Try.prog 30 #[.agg #[.bool (decide (frI N D < 0)), .slice a n c, .slice a' n' c']] w fun e w' => e = .returned (frV N D) ∧ Cls w w' := by
  have HN := Lib.hid h
  have HD := Lib.hid h'
  have C1 := Lib.hid (fun (W : World) (hb : Below w.heap.size w W) => number_calls a n c _ W (HN.out.later hb))
  have C2 := Lib.hid (fun (W : World) (hb : Below w.heap.size w W) => number_calls a' n' c' _ W (HD.out.later hb))
  have FV : Hid ((frI N D).natAbs ≤ 100000000000000000 → frd N D ≤ 100000000000000000 → frV N D = .tuple #[.agg #[.int .i64 (frI N D), .int .i64 ((frd N D : Nat) : Int)], .int .i64 0]) := Lib.hid frV_ok
  have FN2 : Hid (¬ ((frI N D).natAbs ≤ 100000000000000000 ∧ frd N D ≤ 100000000000000000) → frV N D = .tuple #[.agg #[.int .i64 0, .int .i64 0], .int .i64 8]) := Lib.hid frV_no
  clear h h' HN HD
  generalize frV N D = V at *
  generalize frI N D = v at *
  generalize frd N D = d at *
  by_cases h1 : v.natAbs ≤ 100000000000000000
  · by_cases h2 : d ≤ 100000000000000000
    · rw [FV.out h1 h2]
      have e1 : nmI v.natAbs = (v.natAbs : Int) := if_pos h1
      have e2 : nmI d = (d : Int) := if_pos h2
      rw [e1, decide_eq_true h1] at C1
      rw [e2, decide_eq_true h2] at C2
      clear FV FN2 e1 e2
      by_cases hv : v < 0
      · have e3 : (v.natAbs : Int) = -v := by omega
        have e4 : decide (v < 0) = true := decide_eq_true hv
        rw [e3] at C1
        rw [e4]
        clear e3
        go_enter Try.func30, Try.ntmps30
        go_wp2_with (first | (go_at_call 63; have B0 : Below w.heap.size w _ := ((Below.refl w.heap.size w).alloc (Nat.le_refl _) (.cells #[.bool true, .slice a n c, .slice a' n' c'] 67)).alloc (by simp) (.cells #[.int .i64 0, .int .i64 0] 34); (with_reducible refine (C1.out _ B0).mono ?_); rintro e _ ⟨rfl, ⟨y1, rfl⟩⟩; have y1s := y1.size; (try simp at y1s); have B1 := Lib.hid (y1.on B0 (by simp; omega)); clear B0; have k1 : w.heap.size < y1.val.heap.size := (by omega); have HT1 := Lib.hid ((y1.below.block (w.heap.size + 1) (by simp)).trans (new_at1 w _ _ _ 0))) | (go_at_call 63; (with_reducible refine (C2.out _ B1.out).mono ?_); rintro e _ ⟨rfl, ⟨y2, rfl⟩⟩; have y2s := y2.size; have B2 := Lib.hid (y2.on B1.out (by omega)); have k2 : w.heap.size < y2.val.heap.size := (by omega); have HT2 := Lib.hid ((y2.below.block (w.heap.size + 1) (by omega)).trans HT1.out); obtain ⟨c0, c1, c2, c3, c4⟩ := two_z HT2.out))
        refine ret_ex rfl ?_
        simp [results, Try.results30, go_sem, c3, c4]
        exact Cls.of (((B2.out.setCell (Nat.le_succ _) _).setCell (Nat.le_succ _) _))
      · have e3 : (v.natAbs : Int) = v := by omega
        have e4 : decide (v < 0) = false := decide_eq_false hv
        rw [e3] at C1
        rw [e4]
        clear e3
        go_enter Try.func30, Try.ntmps30
        go_wp2_with (first | (go_at_call 63; have B0 : Below w.heap.size w _ := ((Below.refl w.heap.size w).alloc (Nat.le_refl _) (.cells #[.bool false, .slice a n c, .slice a' n' c'] 67)).alloc (by simp) (.cells #[.int .i64 0, .int .i64 0] 34); (with_reducible refine (C1.out _ B0).mono ?_); rintro e _ ⟨rfl, ⟨y1, rfl⟩⟩; have y1s := y1.size; (try simp at y1s); have B1 := Lib.hid (y1.on B0 (by simp; omega)); clear B0; have k1 : w.heap.size < y1.val.heap.size := (by omega); have HT1 := Lib.hid ((y1.below.block (w.heap.size + 1) (by simp)).trans (new_at1 w _ _ _ 0))) | (go_at_call 63; (with_reducible refine (C2.out _ B1.out).mono ?_); rintro e _ ⟨rfl, ⟨y2, rfl⟩⟩; have y2s := y2.size; have B2 := Lib.hid (y2.on B1.out (by omega)); have k2 : w.heap.size < y2.val.heap.size := (by omega); have HT2 := Lib.hid ((y2.below.block (w.heap.size + 1) (by omega)).trans HT1.out); obtain ⟨c0, c1, c2, c3, c4⟩ := two_z HT2.out))
        refine ret_ex rfl ?_
        simp [results, Try.results30, go_sem, c3, c4]
        exact Cls.of (((B2.out.setCell (Nat.le_succ _) _).setCell (Nat.le_succ _) _))
    · rw [FN2.out (fun h => h2 h.2)]
      rw [decide_eq_true h1] at C1
      rw [decide_eq_false h2] at C2
      clear FV FN2 h1 h2
      generalize nmI v.natAbs = i1 at *
      generalize nmI d = i2 at *
      generalize decide (v < 0) = bn at *
      go_enter Try.func30, Try.ntmps30
      go_wp2_with (first | (go_at_call 63; have B0 : Below w.heap.size w _ := ((Below.refl w.heap.size w).alloc (Nat.le_refl _) (.cells #[.bool bn, .slice a n c, .slice a' n' c'] 67)).alloc (by simp) (.cells #[.int .i64 0, .int .i64 0] 34); (with_reducible refine (C1.out _ B0).mono ?_); rintro e _ ⟨rfl, ⟨y1, rfl⟩⟩; have y1s := y1.size; (try simp at y1s); have B1 := Lib.hid (y1.on B0 (by simp; omega)); clear B0; have k1 : w.heap.size < y1.val.heap.size := (by omega); have HT1 := Lib.hid ((y1.below.block (w.heap.size + 1) (by simp)).trans (new_at1 w _ _ _ 0))) | (go_at_call 63; (with_reducible refine (C2.out _ B1.out).mono ?_); rintro e _ ⟨rfl, ⟨y2, rfl⟩⟩; have y2s := y2.size; have B2 := Lib.hid (y2.on B1.out (by omega)); have k2 : w.heap.size < y2.val.heap.size := (by omega); have HT2 := Lib.hid ((y2.below.block (w.heap.size + 1) (by omega)).trans HT1.out); obtain ⟨c0, c1, c2, c3, c4⟩ := two_z HT2.out))
      refine ret_ex rfl ?_
      simp [results, Try.results30, go_sem, c3, c4]
      exact Cls.of (((B2.out.setCell (Nat.le_succ _) _).setCell (Nat.le_succ _) _))
  · rw [FN2.out (fun h => h1 h.1)]
    rw [decide_eq_false h1] at C1
    generalize decide (d ≤ 100000000000000000) = bd at *
    clear FV FN2 h1
    generalize nmI v.natAbs = i1 at *
    generalize nmI d = i2 at *
    generalize decide (v < 0) = bn at *
    go_enter Try.func30, Try.ntmps30
    go_wp2_with (first | (go_at_call 63; have B0 : Below w.heap.size w _ := ((Below.refl w.heap.size w).alloc (Nat.le_refl _) (.cells #[.bool bn, .slice a n c, .slice a' n' c'] 67)).alloc (by simp) (.cells #[.int .i64 0, .int .i64 0] 34); (with_reducible refine (C1.out _ B0).mono ?_); rintro e _ ⟨rfl, ⟨y1, rfl⟩⟩; have y1s := y1.size; (try simp at y1s); have B1 := Lib.hid (y1.on B0 (by simp; omega)); clear B0; have k1 : w.heap.size < y1.val.heap.size := (by omega); have HT1 := Lib.hid ((y1.below.block (w.heap.size + 1) (by simp)).trans (new_at1 w _ _ _ 0))) | (go_at_call 63; (with_reducible refine (C2.out _ B1.out).mono ?_); rintro e _ ⟨rfl, ⟨y2, rfl⟩⟩; have y2s := y2.size; have B2 := Lib.hid (y2.on B1.out (by omega)); have k2 : w.heap.size < y2.val.heap.size := (by omega); have HT2 := Lib.hid ((y2.below.block (w.heap.size + 1) (by omega)).trans HT1.out); obtain ⟨c0, c1, c2, c3, c4⟩ := two_z HT2.out))
    refine ret_ex rfl ?_
    simp [results, Try.results30, go_sem, c3, c4]
    exact Cls.of (((B2.out.setCell (Nat.le_succ _) _).setCell (Nat.le_succ _) _))
end Go.Proofs.Ythbdkhmgopahbaa
namespace Go.Proofs.Ythbdkhmgopahbaa
theorem cmpI_cases (a b : Int) : cmpI a b = -1 ∧ a < b ∨ cmpI a b = 0 ∧ a = b ∨ cmpI a b = 1 ∧ b < a := by
  unfold cmpI; split <;> (try split) <;> omega
theorem cmpI_anti (a b : Int) : cmpI b a = -cmpI a b := by
  rcases cmpI_cases a b with ⟨h, _⟩ | ⟨h, _⟩ | ⟨h, _⟩ <;> rcases cmpI_cases b a with ⟨h', _⟩ | ⟨h', _⟩ | ⟨h', _⟩ <;> omega
theorem cmpI_same (a : Int) : cmpI a a = 0 := by
  rcases cmpI_cases a a with ⟨h, _⟩ | ⟨h, _⟩ | ⟨h, _⟩ <;> omega
theorem crs_anti (n d n' d' : Int) : crs n' d' n d = -crs n d n' d' := cmpI_anti _ _
theorem cmpI_le {a b : Int} : cmpI a b ≤ 0 ↔ a ≤ b := by
  rcases cmpI_cases a b with ⟨h, _⟩ | ⟨h, _⟩ | ⟨h, _⟩ <;> omega
theorem crs_trans {n d n' d' p q : Int} (hd : 1 ≤ d) (hd' : 1 ≤ d') (hq : 1 ≤ q) (h : crs n d n' d' ≤ 0) (h' : crs n' d' p q ≤ 0) : crs n d p q ≤ 0 := by
  have h1 := cmpI_le.1 h
  have h2 := cmpI_le.1 h'
  refine cmpI_le.2 ?_
  have a1 : n * d' * q ≤ n' * d * q := Int.mul_le_mul_of_nonneg_right h1 (by omega)
  have a2 : n' * q * d ≤ p * d' * d := Int.mul_le_mul_of_nonneg_right h2 (by omega)
  have a3 : n' * d * q = n' * q * d := by ac_rfl
  have a4 : n * d' * q = n * q * d' := by ac_rfl
  have a5 : p * d' * d = p * d * d' := by ac_rfl
  have a6 : n * q * d' ≤ p * d * d' := by omega
  exact Int.le_of_mul_le_mul_right a6 (by omega)
theorem vaB_gcd {n d : Int} (h : vaB n d = true) : Nat.gcd n.natAbs d.natAbs = 1 := by
  unfold vaB at h; simp at h; exact h.2
theorem dvd_of_cross {n d n' d' : Int} (h : Nat.gcd n.natAbs d.natAbs = 1) (e : n * d' = n' * d) : d.natAbs ∣ d'.natAbs := by
  have e1 : n.natAbs * d'.natAbs = n'.natAbs * d.natAbs := by rw [← Int.natAbs_mul, ← Int.natAbs_mul, e]
  have h1 : d.natAbs ∣ n.natAbs * d'.natAbs := ⟨n'.natAbs, by rw [e1, Nat.mul_comm]⟩
  have h2 : Nat.Coprime d.natAbs n.natAbs := by unfold Nat.Coprime; rw [Nat.gcd_comm]; exact h
  exact h2.dvd_of_dvd_mul_left h1
theorem crs_eq {n d n' d' : Int} (h : vaB n d = true) (h' : vaB n' d' = true) : crs n d n' d' = 0 ↔ n = n' ∧ d = d' := by
  obtain ⟨a1, _, _, _⟩ := vaB_rng h
  obtain ⟨b1, _, _, _⟩ := vaB_rng h'
  constructor
  · intro h0
    have e : n * d' = n' * d := by
      unfold crs at h0
      rcases cmpI_cases (n * d') (n' * d) with ⟨h1, _⟩ | ⟨h1, h2⟩ | ⟨h1, _⟩ <;> omega
    have d1 := Nat.le_of_dvd (by omega) (dvd_of_cross (vaB_gcd h) e)
    have d2 := Nat.le_of_dvd (by omega) (dvd_of_cross (vaB_gcd h') e.symm)
    have hd : d = d' := by omega
    subst hd
    exact ⟨Int.eq_of_mul_eq_mul_right (by omega) e, rfl⟩
  · rintro ⟨rfl, rfl⟩
    exact cmpI_same _
theorem floor_lo {n d : Int} (hd : 1 ≤ d) : n / d * d ≤ n := Int.ediv_mul_le n (by omega)
theorem floor_hi {n d : Int} (hd : 1 ≤ d) : n < (n / d + 1) * d := by
  have := Int.lt_ediv_add_one_mul_self n (show 0 < d by omega)
  exact this
theorem floor_ge {n d : Int} (hn : -100000000000000000 ≤ n) (hd : 1 ≤ d) : -100000000000000000 ≤ n / d := by
  refine (Int.le_ediv_iff_mul_le (by omega)).2 ?_
  have : -100000000000000000 * d ≤ -100000000000000000 * 1 := Int.mul_le_mul_of_nonpos_left (by omega) (by omega)
  omega
theorem whole_valid {n : Int} (h : -100000000000000000 ≤ n) (h' : n ≤ 100000000000000000) : vaB n 1 = true := by
  unfold vaB rngB
  simp
  omega
theorem floor_cmp {n d : Int} (h : vaB n d = true) : crs (n / d) 1 n d ≤ 0 := by
  obtain ⟨a1, _, _, _⟩ := vaB_rng h
  refine cmpI_le.2 ?_
  have := floor_lo (n := n) a1
  omega
theorem floor_next {n d : Int} (h : vaB n d = true) : crs n d (n / d + 1) 1 < 0 := by
  obtain ⟨a1, _, _, _⟩ := vaB_rng h
  have := floor_hi (n := n) a1
  unfold crs
  rcases cmpI_cases (n * 1) ((n / d + 1) * d) with ⟨h1, _⟩ | ⟨h1, _⟩ | ⟨h1, _⟩ <;> omega
theorem cpF_val {n d n' d' : Int} (h : vaB n d = true) (h' : vaB n' d' = true) : cpF n d n' d' = crs n d n' d' := by simp [cpF, h, h']
theorem cpF_same (n d : Int) : cpF n d n d = 0 := by
  unfold cpF crs
  rw [cmpI_same]
  split <;> rfl
end Go.Proofs.Ythbdkhmgopahbaa
