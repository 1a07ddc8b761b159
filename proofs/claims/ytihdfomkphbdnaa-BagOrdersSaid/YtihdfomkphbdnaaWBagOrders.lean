/-
  The walk of the law BagOrders: it returns true for every two bags.
-/
import Derived.Test.YtihdfomkphbdnaaBRef1
set_option linter.unusedVariables false
namespace Go.Proofs.Ytihdfomkphbdnaa
open Go Go.RowKit
theorem vss_rev (l : List Rw) (r : Row) : (vss l.reverse).count r = (vss l).count r := by
  have : vss l.reverse = (vss l).reverse := by simp [vss]
  rw [this, List.count_reverse]
theorem take_rev (l : List Rw) (j : Nat) (hj : j < l.length) : l.reverse.take (j + 1) = l.reverse.take j ++ [l.getD (l.length - 1 - j) default] := by
  rw [List.take_succ_eq_append_getElem (by simpa using hj)]
  congr 2
  rw [List.getElem_reverse]
  simp [List.getD, show l.length - 1 - j < l.length by omega]
set_option maxHeartbeats 16000000 in
set_option maxRecDepth 100000 in
theorem bagOrders_some (a : Option Addr) (n c : Nat) (l : List Rw) (a' : Option Addr) (n' c' : Nat) (l' : List Rw) (w : World) (h : Rwx w a n c l) (h' : Rwx w a' n' c' l') (hf : fewB n l = true) (hf' : fewB n' l' = true) :
    Calls Try.prog 6 #[.slice a n c, .slice a' n' c'] w fun e w' => e = .returned (.bool true) ∧ Below w.heap.size w w' := by
  obtain ⟨i0, hi, hz0, hz1, hz2⟩ := info_parts infoR
  have hn := (fewB_iff.1 hf).1
  have hn' := (fewB_iff.1 hf').1
  have HX := Lib.hid h
  have HX2 := Lib.hid h'
  have HA := Lib.hid (h.rws (fewB_iff.1 hf).2)
  have HA2 := Lib.hid (h'.rws (fewB_iff.1 hf').2)
  have HLN : Hid (l.length = n ∧ l'.length = n') := Lib.hid ⟨h.ln, h'.ln⟩
  have HF : Hid (fewB n l = true) := Lib.hid hf
  have HF2 : Hid (fewB n' l' = true) := Lib.hid hf'
  clear h h' hf hf'
  have f0 : True := trivial
  go_enter Try.func6, Try.ntmps6
  go_wp2_with (first | (go_at_call 8; have _t := f0; ((with_reducible refine (Few_true _ _ _ l _ HX.out HF.out).mono ?_); rintro e _ ⟨rfl, x, rfl⟩; clear f0 _t; have f1 : True := trivial)) | (go_at_call 8; have _t := f1; ((with_reducible refine (Few_true _ _ _ l' _ (HX2.out.later x.below) HF2.out).mono ?_); rintro e _ ⟨rfl, y, rfl⟩; have HBs : Hid (Below w.heap.size w y.val) := Lib.hid (x.below.trans (y.below.mono x.size)); clear f1 _t; have g0 : True := trivial)))
  generalize y.val = wy at *
  clear y
  have swy := HBs.out.size
  have ew : IntKind.i64.wrap ((n : Int) - 1) = (n : Int) - 1 := by simp [IntKind.wrap, IntKind.bits, IntKind.signed]; omega
  go_loopw [5, 6] (fun s5 s6 wr => ∃ i j : Nat, i + j = n ∧ s6 = .int .i64 ((i : Int) - 1) ∧ Hid (wr.ownsRow wy.heap.size 24 1 s5 j (flatR (l.reverse.take j))) ∧ Hid (Below wy.heap.size wy wr)) (fun _ s6 _ => (intOf s6 + 1).toNat)
  case atStart => exact ⟨n, 0, rfl, (by first | rfl | (simp; omega)), Lib.hid (by simpa [flatR] using World.ownsRow_nil wy wy.heap.size 24 1), Lib.hid (Below.refl _ _)⟩
  case round =>
    obtain ⟨i, j, hij, rfl, hO, hBr⟩ := hrel
    have sr := hBr.out.size
    by_cases h1 : i = 0
    · subst h1
      obtain rfl : n = j := by omega
      have hlen : l.length = n := HLN.out.1
      have hO2 : wr.ownsRow wy.heap.size 24 1 u5 n (flatR l.reverse) := by
        have := hO.out
        rwa [List.take_of_length_le (by rw [List.length_reverse]; omega)] at this
      have hBw := HBs.out.trans (hBr.out.mono swy)
      obtain ⟨ca, cc, rfl, k1, k2, k3⟩ := Rws.own hO2 (fun r hr => (HA.out.ok r (List.mem_reverse.1 hr)).later hBw)
      have HREV : Hid (∀ r, (vss l.reverse).count r = (vss l).count r) := Lib.hid (vss_rev l)
      have HC_0 := Lib.hid k3
      have HB0 := Lib.hid hBw
      clear hO2 hO hBw k3 hlen
      generalize l.reverse = lr at *
      have m0 : True := trivial
      go_wp2_with (first | (go_at_call 12; have _t := m0; ((with_reducible refine (Same_true _ _ _ l _ _ _ lr _ (HA.out.later HB0.out) HC_0.out (by omega) (by omega) (fun r => by have e9 := HREV.out r; omega)).mono ?_); rintro e _ ⟨rfl, y0, rfl⟩; have HS := y0.below; have HB1 : Hid (Below w.heap.size w y0.val) := Lib.hid (HB0.out.trans (HS.mono HB0.out.size)); have HC_1 := Lib.hid (HC_0.out.later HS); clear HS m0 _t HC_0; have m1 : True := trivial)) | (go_at_call 16; have _t := m1; ((with_reducible refine (Canonical_calls _ _ _ l _ (HA.out.later HB1.out) (by omega)).mono ?_); rintro e w2 ⟨b1, d1, R1, rfl, hx⟩; have X1 := Lib.hid hx; clear hx; have K1 : Hid (∀ r, (vss R1).count r = addF ((vss l).count r) ((([] : List Row)).count r)) := Lib.hid X1.out.2.2.2.1.2; have L1 : Hid (R1.length ≤ l.length + (([] : List Row)).length) := Lib.hid (by have h := X1.out.2.2.2.1.le addF_le; simp only [vss_len] at h ⊢; exact h); have U1 : R1.length ≤ 80 := (by have h := L1.out; have h1 := HLN.out;  simp only [vss_len, List.length_nil] at h; omega); have HS := X1.out.2.2.2.2; have HB2 : Hid (Below w.heap.size w w2) := Lib.hid (HB1.out.trans (HS.mono HB1.out.size)); have HC_2 := Lib.hid (HC_1.out.later HS); have N1_2 := Lib.hid X1.out.1; clear HS m1 _t HC_1; have m2 : True := trivial)) | (go_at_call 16; have _t := m2; ((with_reducible refine (Canonical_calls _ _ _ lr _ HC_2.out (by omega)).mono ?_); rintro e w3 ⟨b2, d2, R2, rfl, hx⟩; have X2 := Lib.hid hx; clear hx; have K2 : Hid (∀ r, (vss R2).count r = addF ((vss lr).count r) ((([] : List Row)).count r)) := Lib.hid X2.out.2.2.2.1.2; have L2 : Hid (R2.length ≤ lr.length + (([] : List Row)).length) := Lib.hid (by have h := X2.out.2.2.2.1.le addF_le; simp only [vss_len] at h ⊢; exact h); have U2 : R2.length ≤ 80 := (by have h := L2.out; have h1 := HLN.out; have q0 := HC_2.out.ln;  simp only [vss_len, List.length_nil] at h; omega); have HS := X2.out.2.2.2.2; have HB3 : Hid (Below w.heap.size w w3) := Lib.hid (HB2.out.trans (HS.mono HB2.out.size)); have HC_3 := Lib.hid (HC_2.out.later HS); have N1_3 := Lib.hid (N1_2.out.later HS); have N2_3 := Lib.hid X2.out.1; clear HS m2 _t HC_2 N1_2; have m3 : True := trivial)) | (go_at_call 15; have _t := m3; ((with_reducible refine (Equal_true _ _ _ R1 _ _ _ R2 _ N1_3.out N2_3.out (by omega) (Combs_eq X1.out.2.2.2.1 X2.out.2.2.2.1 (fun r => by have e9 := HREV.out r; have e0 := K1.out r; have e1 := K2.out r; simp only [repF, addF, subF, minF, if_true, Bool.false_eq_true, if_false, List.count_nil] at e0 e1; omega))).mono ?_); rintro e _ ⟨rfl, y3, rfl⟩; have HS := y3.below; have HB4 : Hid (Below w.heap.size w y3.val) := Lib.hid (HB3.out.trans (HS.mono HB3.out.size)); have HC_4 := Lib.hid (HC_3.out.later HS); have N1_4 := Lib.hid (N1_3.out.later HS); have N2_4 := Lib.hid (N2_3.out.later HS); clear HS m3 _t HC_3 N1_3 N2_3; have m4 : True := trivial)) | (go_at_call 16; have _t := m4; ((with_reducible refine (Canonical_calls _ _ _ l _ (HA.out.later HB4.out) (by omega)).mono ?_); rintro e w5 ⟨b4, d4, R4, rfl, hx⟩; have X4 := Lib.hid hx; clear hx; have K4 : Hid (∀ r, (vss R4).count r = addF ((vss l).count r) ((([] : List Row)).count r)) := Lib.hid X4.out.2.2.2.1.2; have L4 : Hid (R4.length ≤ l.length + (([] : List Row)).length) := Lib.hid (by have h := X4.out.2.2.2.1.le addF_le; simp only [vss_len] at h ⊢; exact h); have U4 : R4.length ≤ 80 := (by have h := L4.out; have h1 := HLN.out;  simp only [vss_len, List.length_nil] at h; omega); have HS := X4.out.2.2.2.2; have HB5 : Hid (Below w.heap.size w w5) := Lib.hid (HB4.out.trans (HS.mono HB4.out.size)); have HC_5 := Lib.hid (HC_4.out.later HS); have N1_5 := Lib.hid (N1_4.out.later HS); have N2_5 := Lib.hid (N2_4.out.later HS); have N4_5 := Lib.hid X4.out.1; generalize hk : R4.length = k4 at N4_5 U4 ⊢; obtain rfl : n = k4 := (by have h := len_of_count_eq (l := vss R4) (s := vss l) (fun r => by have e := K4.out r; simp only [addF, List.count_nil] at e; omega); rw [vss_len, vss_len] at h; have := HLN.out; omega); clear hk; clear HS m4 _t HC_4 N1_4 N2_4; have m5 : True := trivial)) | (go_at_call 20; have _t := m5; ((with_reducible refine (Except_calls true _ _ _ l _ _ _ l' _ (HA.out.later HB5.out) (HA2.out.later HB5.out) (by omega) (by omega)).mono ?_); rintro e w6 ⟨b5, d5, R5, rfl, hx⟩; have X5 := Lib.hid hx; clear hx; have K5 : Hid (∀ r, (vss R5).count r = (repF true subF) ((vss l).count r) (((vss l')).count r)) := Lib.hid X5.out.2.2.2.1.2; have L5 : Hid (R5.length ≤ l.length + ((vss l')).length) := Lib.hid (by have h := X5.out.2.2.2.1.le (repF_le subF_le); simp only [vss_len] at h ⊢; exact h); have U5 : R5.length ≤ 160 := (by have h := L5.out; have h1 := HLN.out;  simp only [vss_len, List.length_nil] at h; omega); have HS := X5.out.2.2.2.2; have HB6 : Hid (Below w.heap.size w w6) := Lib.hid (HB5.out.trans (HS.mono HB5.out.size)); have HC_6 := Lib.hid (HC_5.out.later HS); have N1_6 := Lib.hid (N1_5.out.later HS); have N2_6 := Lib.hid (N2_5.out.later HS); have N4_6 := Lib.hid (N4_5.out.later HS); have N5_6 := Lib.hid X5.out.1; clear HS m5 _t HC_5 N1_5 N2_5 N4_5; have m6 : True := trivial)) | (go_at_call 20; have _t := m6; ((with_reducible refine (Except_calls true _ _ _ lr _ _ _ l' _ HC_6.out (HA2.out.later HB6.out) (by omega) (by omega)).mono ?_); rintro e w7 ⟨b6, d6, R6, rfl, hx⟩; have X6 := Lib.hid hx; clear hx; have K6 : Hid (∀ r, (vss R6).count r = (repF true subF) ((vss lr).count r) (((vss l')).count r)) := Lib.hid X6.out.2.2.2.1.2; have L6 : Hid (R6.length ≤ lr.length + ((vss l')).length) := Lib.hid (by have h := X6.out.2.2.2.1.le (repF_le subF_le); simp only [vss_len] at h ⊢; exact h); have U6 : R6.length ≤ 160 := (by have h := L6.out; have h1 := HLN.out; have q0 := HC_6.out.ln;  simp only [vss_len, List.length_nil] at h; omega); have HS := X6.out.2.2.2.2; have HB7 : Hid (Below w.heap.size w w7) := Lib.hid (HB6.out.trans (HS.mono HB6.out.size)); have HC_7 := Lib.hid (HC_6.out.later HS); have N1_7 := Lib.hid (N1_6.out.later HS); have N2_7 := Lib.hid (N2_6.out.later HS); have N4_7 := Lib.hid (N4_6.out.later HS); have N5_7 := Lib.hid (N5_6.out.later HS); have N6_7 := Lib.hid X6.out.1; clear HS m6 _t HC_6 N1_6 N2_6 N4_6 N5_6; have m7 : True := trivial)) | (go_at_call 15; have _t := m7; ((with_reducible refine (Equal_true _ _ _ R5 _ _ _ R6 _ N5_7.out N6_7.out (by omega) (Combs_eq X5.out.2.2.2.1 X6.out.2.2.2.1 (fun r => by have e9 := HREV.out r; have e0 := K5.out r; have e1 := K6.out r; simp only [repF, addF, subF, minF, if_true, Bool.false_eq_true, if_false, List.count_nil] at e0 e1; omega))).mono ?_); rintro e _ ⟨rfl, y7, rfl⟩; have HS := y7.below; have HB8 : Hid (Below w.heap.size w y7.val) := Lib.hid (HB7.out.trans (HS.mono HB7.out.size)); have HC_8 := Lib.hid (HC_7.out.later HS); have N1_8 := Lib.hid (N1_7.out.later HS); have N2_8 := Lib.hid (N2_7.out.later HS); have N4_8 := Lib.hid (N4_7.out.later HS); have N5_8 := Lib.hid (N5_7.out.later HS); have N6_8 := Lib.hid (N6_7.out.later HS); clear HS m7 _t HC_7 N1_7 N2_7 N4_7 N5_7 N6_7; have m8 : True := trivial)) | (go_at_call 13; have _t := m8; ((with_reducible refine (Contains_true _ _ _ l _ _ _ lr _ (HA.out.later HB8.out) HC_8.out (by omega) (by omega) (fun r => by have e9 := HREV.out r; omega)).mono ?_); rintro e _ ⟨rfl, y8, rfl⟩; have HS := y8.below; have HB9 : Hid (Below w.heap.size w y8.val) := Lib.hid (HB8.out.trans (HS.mono HB8.out.size)); have HC_9 := Lib.hid (HC_8.out.later HS); have N1_9 := Lib.hid (N1_8.out.later HS); have N2_9 := Lib.hid (N2_8.out.later HS); have N4_9 := Lib.hid (N4_8.out.later HS); have N5_9 := Lib.hid (N5_8.out.later HS); have N6_9 := Lib.hid (N6_8.out.later HS); clear HS m8 _t HC_8 N1_8 N2_8 N4_8 N5_8 N6_8; have m9 : True := trivial)))
      go_ret
      exact ⟨rfl, HB9.out⟩
    · obtain ⟨k, rfl⟩ : ∃ k, i = k + 1 := ⟨i - 1, by omega⟩
      have ei : (((k + 1 : Nat) : Int) - 1) = (k : Int) := by omega
      rw [ei]
      have hkl : k < l.length := by have := HLN.out; omega
      have hjl : j < l.length := by have := HLN.out; omega
      have HT : Hid (l.reverse.take (j + 1) = l.reverse.take j ++ [l.getD k default]) := Lib.hid (by have e := take_rev l j hjl; rw [show l.length - 1 - j = k by have := HLN.out; omega] at e; exact e)
      obtain ⟨b, off, ea, hb, hcell⟩ := HA.out.at_.resolve_left (by omega)
      have q0 := (hBr.out.cell (p := ⟨b, off + k, none⟩) (by show b < _; omega)).trans ((HBs.out.cell (p := ⟨b, off + k, none⟩) hb).trans (hcell k (by omega)))
      clear hcell
      have HOK : Hid (flatR (l.reverse.take (j + 1)) = flatR (l.reverse.take j) ++ [(l.getD k default).enc]) := Lib.hid (by rw [HT.out]; simp [flatR])
      subst ea
      generalize l.getD k default = u at *
      obtain ⟨ra, rl, rc, rv⟩ := u
      simp only [Rw.enc] at q0
      have hk0 : (0 : Int) ≤ (k : Int) := by omega
      have hkn : (k : Int) < (n : Int) := by omega
      have tok1 : True := trivial
      go_wp2_with (at_builtin; have _t := tok1; refine wpList_append_own _ rfl _ _ 22 rfl wy.heap.size 24 i0 (.slice none 0 0) 1 24 Try.underlying22 hi hz0 hz1 hz2 rfl (by decide) _ _ _ rfl (own_later' hO.out ((Below.refl _ _).alloc (Nat.le_refl _) _)) ⟨wr.heap.size, 0, none⟩ 1 1 [.slice ra rl rc] rfl rfl (cells_new' _ _ _) (flatR_one [(⟨ra, rl, rc, rv⟩ : Rw)]) (by unfold maxLen; omega) (by omega) (by simp; omega) ?_; intro v1 w4 hown4 hg4 _; have HO4 : Hid (w4.ownsRow wy.heap.size 24 1 v1 (j + 1) (flatR (l.reverse.take (j + 1)))) := Lib.hid (by rw [HOK.out]; exact hown4); have HB4 : Hid (Below wy.heap.size wy w4) := Lib.hid (Below.grown (hBr.out.alloc (by omega) _) hg4 (by simp; omega) (fun g hg => (hO.out.lt g hg).1)); clear hown4 hg4 tok1 _t)
      go_roundw
      case rel => exact ⟨k, j + 1, by omega, (by first | rfl | go_num), HO4, HB4⟩
      case measure => first | (simp [intOf]; done) | (simp [intOf]; omega)
theorem bagOrders_walk (a : Option Addr) (n c : Nat) (l : List Rw) (a' : Option Addr) (n' c' : Nat) (l' : List Rw) (w : World) (h : Rwx w a n c l) (h' : Rwx w a' n' c' l') :
    Calls Try.prog 6 #[.slice a n c, .slice a' n' c'] w fun e w' => e = .returned (.bool true) ∧ Below w.heap.size w w' := by
  cases hf : fewB n l with
  | false =>
    have HX := Lib.hid h
    have HF : Hid (fewB n l = false) := Lib.hid hf
    clear h h' hf
    go_enter Try.func6, Try.ntmps6
    go_wp2_with (go_at_call 8; ((with_reducible refine (Few_false _ _ _ l _ HX.out HF.out).mono ?_); rintro e _ ⟨rfl, x, rfl⟩))
    go_ret
    exact ⟨rfl, x.below⟩
  | true =>
    cases hf' : fewB n' l' with
    | false =>
      have HX := Lib.hid h
      have HX2 := Lib.hid h'
      have HF : Hid (fewB n l = true) := Lib.hid hf
      have HF2 : Hid (fewB n' l' = false) := Lib.hid hf'
      clear h h' hf hf'
      have f0 : True := trivial
      go_enter Try.func6, Try.ntmps6
      go_wp2_with (first | (go_at_call 8; have _t := f0; ((with_reducible refine (Few_true _ _ _ l _ HX.out HF.out).mono ?_); rintro e _ ⟨rfl, x, rfl⟩; clear f0 _t; have f1 : True := trivial)) | (go_at_call 8; have _t := f1; ((with_reducible refine (Few_false _ _ _ l' _ (HX2.out.later x.below) HF2.out).mono ?_); rintro e _ ⟨rfl, y, rfl⟩)))
      go_ret
      exact ⟨rfl, x.below.trans (y.below.mono x.size)⟩
    | true => exact bagOrders_some a n c l a' n' c' l' w h h' hf hf'
end Go.Proofs.Ytihdfomkphbdnaa
