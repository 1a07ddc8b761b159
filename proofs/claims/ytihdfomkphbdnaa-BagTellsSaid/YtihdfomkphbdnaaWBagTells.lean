/-
  The walk of the law BagTells: it returns true for every two bags.
-/
import Derived.Test.YtihdfomkphbdnaaBDif
import Derived.Deep.DeepCutAuto
set_option linter.unusedVariables false
namespace Go.Proofs.Ytihdfomkphbdnaa
open Go Go.RowKit
theorem rCount_at (a : Option Addr) (n c : Nat) (l : List Rw) (ra : Option Addr) (rl rc : Nat) (rv : List Vl) (w : World) (h : Rws w a n l) (hs : Rw.Ok w ⟨ra, rl, rc, rv⟩) (hn : n ≤ 20000) (k : Int) (hk : (((vss l).count rv : Nat) : Int) = k) :
    Calls Try.prog 27 #[.slice a n c, .slice ra rl rc] w fun e w' => e = .returned (.int .i64 k) ∧ Cls w w' := by
  rw [← hk]; exact rCount_calls a n c l ⟨ra, rl, rc, rv⟩ w h hs hn
theorem Same_false (a : Option Addr) (n c : Nat) (l : List Rw) (a' : Option Addr) (n' c' : Nat) (l' : List Rw) (w : World) (h : Rws w a n l) (h' : Rws w a' n' l') (hn : n ≤ 10000) (hn' : n' ≤ 10000) (hc : ¬ ∀ r, (vss l).count r = (vss l').count r) :
    Calls Try.prog 12 #[.slice a n c, .slice a' n' c'] w fun e w' => e = .returned (.bool false) ∧ Cls w w' := by
  have := Same_calls a n c l a' n' c' l' w h h' hn hn'
  rwa [show eqB (vss l) (vss l') = false by rw [Bool.eq_false_iff]; exact fun e => hc (eqB_iff.1 e)] at this
set_option maxHeartbeats 32000000 in
set_option maxRecDepth 100000 in
theorem bagTells_some (a : Option Addr) (n c : Nat) (l : List Rw) (a' : Option Addr) (n' c' : Nat) (l' : List Rw) (w : World) (h : Rwx w a n c l) (h' : Rwx w a' n' c' l') (hf : fewB n l = true) (hf' : fewB n' l' = true) :
    Calls Try.prog 7 #[.slice a n c, .slice a' n' c'] w fun e w' => e = .returned (.bool true) ∧ Below w.heap.size w w' := by
  have hn := (fewB_iff.1 hf).1
  have hn' := (fewB_iff.1 hf').1
  have HX := Lib.hid h
  have HX2 := Lib.hid h'
  have HA := Lib.hid (h.rws (fewB_iff.1 hf).2)
  have HA2 := Lib.hid (h'.rws (fewB_iff.1 hf').2)
  have HLN : Hid (l.length = n ∧ l'.length = n') := Lib.hid ⟨h.ln, h'.ln⟩
  have HCAP : Hid (n ≤ c ∧ c ≤ maxLen ∧ n' ≤ c' ∧ c' ≤ maxLen) := Lib.hid ⟨h.le, h.cp, h'.le, h'.cp⟩
  have HF : Hid (fewB n l = true) := Lib.hid hf
  have HF2 : Hid (fewB n' l' = true) := Lib.hid hf'
  clear h h' hf hf'
  have f0 : True := trivial
  go_enter Try.func7, Try.ntmps7
  go_upto_if 27 with (first | (go_at_call 8; have _t := f0; ((with_reducible refine (Few_true _ _ _ l _ HX.out HF.out).mono ?_); rintro e _ ⟨rfl, x, rfl⟩; clear f0 _t; have f1 : True := trivial)) | (go_at_call 8; have _t := f1; ((with_reducible refine (Few_true _ _ _ l' _ (HX2.out.later x.below) HF2.out).mono ?_); rintro e _ ⟨rfl, y, rfl⟩; have HB0 : Hid (Below w.heap.size w y.val) := Lib.hid (x.below.trans (y.below.mono x.size)); clear f1 _t; have m0 : True := trivial)) | (go_at_call 9; have _t := m0; ((with_reducible refine (Difference_calls _ _ _ l _ _ _ l' _ (HA.out.later HB0.out) (HA2.out.later HB0.out) (by omega) (by omega)).mono ?_); rintro e w1 ⟨⟨ea, el, ec, ev⟩, dm, dn, he, hx⟩; have he2 : e = .returned (.tuple #[.slice ea el ec, .int .i64 (dm : Int), .int .i64 (dn : Int)]) := he; clear he; subst he2; have D1 := Lib.hid hx; clear hx; have HB1 : Hid (Below w.heap.size w w1) := Lib.hid (HB0.out.trans (D1.out.2.2.2.2.mono HB0.out.size)); clear m0 _t; have m1 : True := trivial)))
  rcases D1.out.2.1 with ⟨hcq, hev, hdm, hdn⟩ | ⟨hne, hdm, hdn, hlt⟩
  · have hel : el = 0 := by have := D1.out.1.holds.1; rw [hev] at this; exact this.symm
    have hnn : n' = n := by
      have := len_of_count_eq hcq
      rw [vss_len, vss_len] at this
      have := HLN.out
      omega
    have HQ := Lib.hid hcq
    clear hcq hev
    subst hdm hdn hel hnn
    go_wp2_with (first | (go_at_call 12; have _t := m1; ((with_reducible refine (Same_true _ _ _ l _ _ _ l' _ (HA.out.later HB1.out) (HA2.out.later HB1.out) (by omega) (by omega) HQ.out).mono ?_); rintro e _ ⟨rfl, y1, rfl⟩; have HB2 : Hid (Below w.heap.size w y1.val) := Lib.hid (HB1.out.trans (y1.below.mono HB1.out.size)); clear m1 _t; have m2 : True := trivial)) | (go_at_call 13; have _t := m2; ((with_reducible refine (Contains_true _ _ _ l _ _ _ l' _ (HA.out.later HB2.out) (HA2.out.later HB2.out) (by omega) (by omega) (fun r => Nat.le_of_eq (HQ.out r).symm)).mono ?_); rintro e _ ⟨rfl, y2, rfl⟩; have HB3 : Hid (Below w.heap.size w y2.val) := Lib.hid (HB2.out.trans (y2.below.mono HB2.out.size)); clear m2 _t; have m3 : True := trivial)) | (go_at_call 13; have _t := m3; ((with_reducible refine (Contains_true _ _ _ l' _ _ _ l _ (HA2.out.later HB3.out) (HA.out.later HB3.out) (by omega) (by omega) (fun r => Nat.le_of_eq (HQ.out r))).mono ?_); rintro e _ ⟨rfl, y3, rfl⟩; have HB4 : Hid (Below w.heap.size w y3.val) := Lib.hid (HB3.out.trans (y3.below.mono HB3.out.size)); clear m3 _t)))
    go_ret
    exact ⟨rfl, HB4.out⟩
  · have hmz : ((dm : Int) == (dn : Int)) = false := by rw [beq_eq_false_iff_ne]; omega
    have hmz2 : ¬ ((dm : Int) = (dn : Int)) := by omega
    have HNQ : Hid (¬ ∀ r, (vss l).count r = (vss l').count r) := Lib.hid (fun e => hne (by rw [hdm, hdn]; exact e ev))
    have HDM : Hid ((((vss l).count ev : Nat) : Int) = (dm : Int)) := Lib.hid (by rw [hdm])
    have HDN : Hid ((((vss l').count ev : Nat) : Int) = (dn : Int)) := Lib.hid (by rw [hdn])
    have HLT := Lib.hid hlt
    have HE : Hid (Rw.Ok w1 ⟨ea, el, ec, ev⟩) := Lib.hid D1.out.1
    clear hdm hdn hlt hne
    go_wp2_with (first | (go_at_call 12; have _t := m1; ((with_reducible refine (Same_false _ _ _ l _ _ _ l' _ (HA.out.later HB1.out) (HA2.out.later HB1.out) (by omega) (by omega) HNQ.out).mono ?_); rintro e _ ⟨rfl, y1, rfl⟩; have HB2 : Hid (Below w.heap.size w y1.val) := Lib.hid (HB1.out.trans (y1.below.mono HB1.out.size)); have HE2 := Lib.hid (HE.out.later y1.below); clear m1 _t HE; have m2 : True := trivial)) | (go_at_call 27; have _t := m2; ((with_reducible refine (rCount_at _ _ _ l ea el ec ev _ (HA.out.later HB2.out) HE2.out (by omega) _ HDM.out).mono ?_); rintro e _ ⟨rfl, y2, rfl⟩; have HB3 : Hid (Below w.heap.size w y2.val) := Lib.hid (HB2.out.trans (y2.below.mono HB2.out.size)); have HE3 := Lib.hid (HE2.out.later y2.below); clear m2 _t HE2; have m3 : True := trivial)) | (go_at_call 27; have _t := m3; ((with_reducible refine (rCount_at _ _ _ l' ea el ec ev _ (HA2.out.later HB3.out) HE3.out (by omega) _ HDN.out).mono ?_); rintro e _ ⟨rfl, y3, rfl⟩; have HB4 : Hid (Below w.heap.size w y3.val) := Lib.hid (HB3.out.trans (y3.below.mono HB3.out.size)); have HE4 := Lib.hid (HE3.out.later y3.below); clear m3 _t HE3; have m4 : True := trivial)) | (go_at_call 19; have _t := m4; ((with_reducible refine (rUnion_true _ _ _ l _ _ _ l' _ (HA.out.later HB4.out) (HA2.out.later HB4.out) (by omega) (by omega) HCAP.out.1 HCAP.out.2.2.1 HCAP.out.2.1 HCAP.out.2.2.2).mono ?_); rintro e w5 ⟨ua, uc, U, rfl, hx⟩; have XU := Lib.hid hx; clear hx; have hul : U.length ≤ 160 := (by have h := XU.out.2.2.2.1.le (repF_le addF_le); simp only [vss_len] at h; have := HLN.out; omega); have HB5 : Hid (Below w.heap.size w w5) := Lib.hid (HB4.out.trans (XU.out.2.2.2.2.mono HB4.out.size)); have HE5 := Lib.hid (HE4.out.later XU.out.2.2.2.2); clear m4 _t HE4; have m5 : True := trivial)) | (go_at_call 25; have _t := m5; ((with_reducible refine (rDistinct_calls _ _ _ U _ XU.out.1 (by omega) XU.out.2.1 XU.out.2.2.1).mono ?_); rintro e w6 ⟨va, vc, V, rfl, hx⟩; have XV := Lib.hid hx; clear hx; have hvl : V.length ≤ 160 := (by have h := XV.out.2.2.2.1.le (repF_le addF_le); simp only [vss_len, List.length_nil] at h; omega); have HB6 : Hid (Below w.heap.size w w6) := Lib.hid (HB5.out.trans (XV.out.2.2.2.2.mono HB5.out.size)); have HE6 := Lib.hid (HE5.out.later XV.out.2.2.2.2); clear m5 _t HE5)))
    have HV : Hid (Rws w6 va V.length V) := Lib.hid XV.out.1
    have s6 := HB6.out.size
    have HA6 := Lib.hid (HA.out.later HB6.out)
    have HA26 := Lib.hid (HA2.out.later HB6.out)
    clear XU XV D1 HB0 HB1 HB2 HB3 HB4 HB5
    generalize hnv : V.length = nv at *
    have HNV := Lib.hid hnv
    clear hnv
    go_loopw [9] (fun s wr => ∃ j : Nat, j ≤ nv ∧ s = .int .i64 ((j : Nat) : Int) ∧ Cls w6 wr) (fun s _ => nv - (intOf s).toNat)
    case atStart => exact ⟨0, Nat.zero_le _, rfl, Cls.of (Below.refl _ _)⟩
    case round =>
      obtain ⟨j, hj, rfl, z, rfl⟩ := hrel
      have sz := z.size
      by_cases h1 : j < nv
      · obtain ⟨bv, ov, ev'⟩ := HV.out.addr (by omega)
        subst ev'
        have hjz : (j : Int) < (nv : Int) := by omega
        have hbV := (HV.out.cellAt (Below.refl _ _) h1).1
        have qV := (HV.out.cellAt (Below.refl _ _) h1).2
        have okV := HV.out.get j
        have HC : Hid (∀ W, Below w6.heap.size w6 W → Calls Try.prog 11 #[(V.getD j default).enc, .slice ea el ec] W fun e w' => e = .returned (.int .i64 (cmpL (V.getD j default).vs ev)) ∧ Cls W w') := Lib.hid fun W hW => rCompareRows_calls _ _ _ _ _ _ _ _ W (okV.later hW).holds (HE6.out.later hW).holds okV.le HE6.out.le okV.cap HE6.out.cap
        have HEQ : Hid (cmpL (V.getD j default).vs ev < 0 → (vss l).count (V.getD j default).vs = (vss l').count (V.getD j default).vs) := Lib.hid (fun e => HLT.out _ e)
        have HOV := Lib.hid okV
        clear okV
        generalize V.getD j default = u at *
        obtain ⟨xa, xl, xc, xv⟩ := u
        simp only [Rw.enc] at qV HC
        simp only at HEQ HC
        generalize cmpL xv ev = q at *
        by_cases hq : q < 0
        · have e1 := HEQ.out hq
          have H1 : Hid (∀ W, Below w6.heap.size w6 W → Calls Try.prog 27 #[.slice a n c, .slice xa xl xc] W fun e w' => e = .returned (.int .i64 (((vss l).count xv : Nat) : Int)) ∧ Cls W w') := Lib.hid fun W hW => rCount_at _ _ _ l xa xl xc xv W (HA6.out.later hW) (HOV.out.later hW) (by omega) _ rfl
          have H2 : Hid (∀ W, Below w6.heap.size w6 W → Calls Try.prog 27 #[.slice a' n' c', .slice xa xl xc] W fun e w' => e = .returned (.int .i64 (((vss l).count xv : Nat) : Int)) ∧ Cls W w') := Lib.hid fun W hW => rCount_at _ _ _ l' xa xl xc xv W (HA26.out.later hW) (HOV.out.later hW) (by omega) _ (by rw [e1])
          clear e1
          generalize (vss l).count xv = cc at *
          go_wp2_with (go_at_call 11; ((with_reducible refine (Cls.call (HC.out _ z.below)).mono ?_); rintro e _ ⟨rfl, z2, rfl⟩))
          refine wp_region_on (by kernel_rfl) (by kernel_rfl) ?_
          repeat (go_big_quiet_step (first | (go_at_call 27; with_reducible exact Cls.call (H1.out _ (Ext.below _))) | (go_at_call 27; with_reducible exact Cls.call (H2.out _ (Ext.below _)))))
          refine wpQuiet_nil ?_
          rintro _ ⟨z3, rfl⟩
          go_wp2_with fail
          go_roundw
          case rel => exact ⟨j + 1, by omega, by go_num, z3, rfl⟩
          case measure => simp [intOf]; omega
        · go_wp2_with (go_at_call 11; ((with_reducible refine (Cls.call (HC.out _ z.below)).mono ?_); rintro e _ ⟨rfl, z2, rfl⟩))
          go_ret
          exact ⟨rfl, HB6.out.trans (z2.below.mono s6)⟩
      · have hjz : ¬ (j : Int) < (nv : Int) := by omega
        go_wp2_with fail
        go_ret
        exact ⟨rfl, HB6.out.trans (z.below.mono s6)⟩
theorem bagTells_walk (a : Option Addr) (n c : Nat) (l : List Rw) (a' : Option Addr) (n' c' : Nat) (l' : List Rw) (w : World) (h : Rwx w a n c l) (h' : Rwx w a' n' c' l') :
    Calls Try.prog 7 #[.slice a n c, .slice a' n' c'] w fun e w' => e = .returned (.bool true) ∧ Below w.heap.size w w' := by
  cases hf : fewB n l with
  | false =>
    have HX := Lib.hid h
    have HF : Hid (fewB n l = false) := Lib.hid hf
    clear h h' hf
    go_enter Try.func7, Try.ntmps7
    go_wp2_with (go_at_call 8; ((with_reducible refine (Few_false _ _ _ l _ HX.out HF.out).mono ?_); rintro e _ ⟨rfl, x, rfl⟩))
    go_ret
    exact ⟨rfl, x.below⟩
  | true =>
    cases hf' : fewB n' l' with
    | false =>
      have HX := Lib.hid h
      have HX2 := Lib.hid h'
      have HF : Hid (fewB n l = true) := Lib.hid hf
      have HF2 : Hid (fewB n' l' = false) := Lib.hid hf'
      clear h h' hf hf'
      have f0 : True := trivial
      go_enter Try.func7, Try.ntmps7
      go_wp2_with (first | (go_at_call 8; have _t := f0; ((with_reducible refine (Few_true _ _ _ l _ HX.out HF.out).mono ?_); rintro e _ ⟨rfl, x, rfl⟩; clear f0 _t; have f1 : True := trivial)) | (go_at_call 8; have _t := f1; ((with_reducible refine (Few_false _ _ _ l' _ (HX2.out.later x.below) HF2.out).mono ?_); rintro e _ ⟨rfl, y, rfl⟩)))
      go_ret
      exact ⟨rfl, x.below.trans (y.below.mono x.size)⟩
    | true => exact bagTells_some a n c l a' n' c' l' w h h' hf hf'
end Go.Proofs.Ytihdfomkphbdnaa
