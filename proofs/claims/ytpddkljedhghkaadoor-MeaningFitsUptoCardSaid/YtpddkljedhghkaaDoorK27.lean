/-
  The first error of an instance for a schema: the reference's Fits. Which expressions the laws look at, and the size of an expression, for all expressions.
-/
import Derived.Test.YtpddkljedhghkaaDoorK26
import Derived.Test.YtpddkljedhghkaaDoorK01
import Derived.BigQuiet
set_option linter.unusedVariables false
namespace Go.Proofs.YtpddkljedhghkaaDoor
open Go Go.RowKit Go.Deep
def reF (tb : Nat → Tb) (r : Nat → Nat → Sl) (f : Nat → Nat → Nat → Vl) (j : Nat) : Nat → Int := rowEk (tysT (tb j)) (tb j).cs.len (r j) (f j)
def beF (tb : Nat → Tb) (f : Nat → Nat → Nat → Vl) (j k : Nat) : Nat → Int := badE (tysT (tb j)) (f j k)
theorem tysT_at (t : Tb) {c : Nat} (h : c < t.cs.len) : tysT t c = (t.col c).ty := by
  unfold tysT tyL
  simp [List.getD, h]
theorem tabE_is (tb : Nat → Tb) (t : Nat → Sl) (r : Nat → Nat → Sl) (f : Nat → Nat → Nat → Vl) (j : Nat) : (200 < (t j).len → tabE tb t r f j = 8) ∧ (¬ 200 < (t j).len → tabE tb t r f j = fstE (reF tb r f j) 0 (t j).len) := rowsE_is _ _ _ _ _
theorem reF_is (tb : Nat → Tb) (r : Nat → Nat → Sl) (f : Nat → Nat → Nat → Vl) (j k : Nat) : ((r j k).len ≠ (tb j).cs.len → reF tb r f j k = 9) ∧ ((r j k).len = (tb j).cs.len → reF tb r f j k = fstE (beF tb f j k) 0 (r j k).len) := rowE_is _ _ _ _
theorem beF_is (tb : Nat → Tb) (f : Nat → Nat → Nat → Vl) (j k c : Nat) (h : c < (tb j).cs.len) : (badV ((tb j).col c).ty (f j k c) = true → beF tb f j k c = 4) ∧ (badV ((tb j).col c).ty (f j k c) = false → beF tb f j k c = 0) := by
  have := badE_is (tysT (tb j)) (f j k) c
  rw [tysT_at _ h] at this
  exact this
set_option maxHeartbeats 32000000 in
set_option maxRecDepth 20000 in
theorem rFits_calls (sl : Sl) (tb : Nat → Tb) (v : Int) (s : Sl) (t : Nat → Sl) (r : Nat → Nat → Sl) (f : Nat → Nat → Nat → Vl) (w : World) (h : TabsAt w sl tb) (hi : InsAt w s t r f)
    (hv : ∀ W, Below w.heap.size w W → Calls Tryd.prog 18 #[.agg #[.slice sl.a sl.len sl.cap]] W fun e w' => e = .returned (.int .i64 v) ∧ Cls W w') :
    Calls Tryd.prog 22 #[.agg #[.slice sl.a sl.len sl.cap], .agg #[.slice s.a s.len s.cap]] w fun e w' => e = .returned (.int .i64 (fitE v sl.len tb s.len t r f)) ∧ Cls w w' := by
  have hle := h.1.1
  have hmax := h.1.2.1
  have hle2 := hi.tabs.1
  have hmax2 := hi.tabs.2.1
  unfold maxLen at hmax hmax2
  have HRW := Lib.hid h.1.2.2.2
  have HCW : Hid (∀ j, j < sl.len → ∀ c, c < (tb j).cs.len → ∃ b off, (tb j).cs.a = some ⟨b, off, none⟩ ∧ b < w.heap.size ∧ w.cell? ⟨b, off + c * 3 + 1, none⟩ = some (.int .i64 ((tb j).col c).ty)) := Lib.hid fun j hj c hc => by
    obtain ⟨b, off, ha, hb, h1⟩ := (h.2 j hj).cols.2.2.2 c hc
    exact ⟨b, off, ha, hb, h1 1 (by omega)⟩
  have HCM : Hid (∀ j, j < sl.len → (tb j).cs.len ≤ maxLen) := Lib.hid fun j hj => Nat.le_trans (h.2 j hj).cols.1 (h.2 j hj).cols.2.1
  have HIW := Lib.hid hi.tabs.2.2.2
  have HTW : Hid (∀ j, j < s.len → (t j).len ≤ maxLen ∧ ∀ k, k < (t j).len → ((r j k).len ≤ maxLen ∧ ∃ b off, (t j).a = some ⟨b, off, none⟩ ∧ b < w.heap.size ∧ w.cell? ⟨b, off + k, none⟩ = some (.slice (r j k).a (r j k).len (r j k).cap)) ∧ ∀ c, c < (r j k).len → (f j k c).s.size ≤ maxLen ∧ ∃ b off, (r j k).a = some ⟨b, off, none⟩ ∧ b < w.heap.size ∧ w.cell? ⟨b, off + c * 3, none⟩ = some (.int .i64 (f j k c).k) ∧ w.cell? ⟨b, off + c * 3 + 1, none⟩ = some (.int .i64 (f j k c).n) ∧ w.cell? ⟨b, off + c * 3 + 2, none⟩ = some (.string (f j k c).s)) := Lib.hid fun j hj => by
    have h1 := hi.rws j hj
    refine ⟨Nat.le_trans h1.rows.1 h1.rows.2.1, fun k hk => ⟨⟨Nat.le_trans (h1.vals k hk).1 (h1.vals k hk).2.1, ?_⟩, fun c hc => ⟨h1.txt k hk c hc, ?_⟩⟩⟩
    · obtain ⟨b, off, ha, hb, h2⟩ := h1.rows.2.2.2 k hk
      have h3 := h2 0 (by omega)
      rw [Nat.mul_one, Nat.add_zero] at h3
      exact ⟨b, off, ha, hb, h3⟩
    · obtain ⟨b, off, ha, hb, h2⟩ := (h1.vals k hk).2.2.2 c hc
      exact ⟨b, off, ha, hb, h2 0 (by omega), h2 1 (by omega), h2 2 (by omega)⟩
  have CV := Lib.hid hv
  have HIS := Lib.hid (fitE_is v sl.len tb s.len t r f)
  have HI1 := Lib.hid (tabE_is tb t r f)
  have HI2 := Lib.hid (reF_is tb r f)
  have HI3 := Lib.hid (beF_is tb f)
  clear h hi hv
  generalize fitE v sl.len tb s.len t r f = fe at *
  generalize tabE tb t r f = te at *
  generalize reF tb r f = rf at *
  generalize beF tb f = bf at *
  obtain ⟨sa, sn, sc⟩ := sl
  obtain ⟨ia, im, ic⟩ := s
  simp only at hle hmax hle2 hmax2 HRW HCW HCM HIW HTW CV HIS ⊢
  have hbl1 : ((w.alloc (.cells #[.slice sa sn sc] 45)).alloc (.cells #[.slice ia im ic] 61)).heap[w.heap.size]? = some (.cells #[.slice sa sn sc] 45) := by
    rw [(((Below.refl _ _).alloc (Nat.le_refl _) _) : Below (w.alloc (.cells #[.slice sa sn sc] 45)).heap.size (w.alloc (.cells #[.slice sa sn sc] 45)) ((w.alloc (.cells #[.slice sa sn sc] 45)).alloc (.cells #[.slice ia im ic] 61))).block w.heap.size (by simp)]
    exact heap_alloc_new w _
  have hbl2 : ((w.alloc (.cells #[.slice sa sn sc] 45)).alloc (.cells #[.slice ia im ic] 61)).heap[w.heap.size + 1]? = some (.cells #[.slice ia im ic] 61) := by
    have := heap_alloc_new (w.alloc (.cells #[.slice sa sn sc] 45)) (.cells #[.slice ia im ic] 61)
    simpa using this
  have HBL1 := Lib.hid hbl1
  have HBL2 := Lib.hid hbl2
  have HB0 : Hid (Below w.heap.size w ((w.alloc (.cells #[.slice sa sn sc] 45)).alloc (.cells #[.slice ia im ic] 61))) := Lib.hid (by repeat first | with_reducible exact Below.refl _ _ | with_reducible refine Below.setCell ?_ (by first | omega | (simp; done) | (simp; omega)) _ | with_reducible refine Below.alloc ?_ (by first | omega | (simp; done) | (simp; omega)) _ | with_reducible refine Below.drew ?_ | with_reducible refine Ext.on _ ?_ (by first | omega | (simp; done) | (simp; omega)))
  have h0s : ((w.alloc (.cells #[.slice sa sn sc] 45)).alloc (.cells #[.slice ia im ic] 61)).heap.size = w.heap.size + 2 := by simp
  have h0a : w.heap.size < ((w.alloc (.cells #[.slice sa sn sc] 45)).alloc (.cells #[.slice ia im ic] 61)).heap.size := by omega
  have h0b : w.heap.size + 1 < ((w.alloc (.cells #[.slice sa sn sc] 45)).alloc (.cells #[.slice ia im ic] 61)).heap.size := by omega
  have H0S := Lib.hid h0s
  clear hbl1 hbl2 h0s
  by_cases hv0 : v = 0
  · have d1 : (v == 0) = true := by simp [hv0]
    have d1' : (v != 0) = false := by simp [hv0]
    by_cases hn : im = sn
    · subst hn
      have HV := Lib.hid (HIS.out.2.2 hv0 rfl)
      clear HIS hv0
      go_enter Tryd.func22, Tryd.ntmps22
      go_wp2_with (go_at_call 18; ((with_reducible refine (CV.out _ HB0.out).mono ?_); rintro e _ ⟨rfl, y, rfl⟩; have ys := y.size; obtain ⟨l1, l2, l3, l4, l5⟩ := y.lts h0a; obtain ⟨l6, l7, l8, l9, l10⟩ := y.lts h0b))
      have HS1 := Lib.hid ((y.below.block _ h0a).trans HBL1.out)
      have HS2 := Lib.hid ((y.below.block _ h0b).trans HBL2.out)
      have HBY : Hid (Below w.heap.size w y.val) := Lib.hid (y.on HB0.out (by omega))
      have hY : w.heap.size + 1 < y.val.heap.size := by omega
      clear HBL1 HBL2 HB0 h0a h0b H0S CV d1 d1' l1 l2 l3 l4 l5 l6 l7 l8 l9 l10 ys
      generalize y.val = Y at *
      obtain ⟨b0, _, k1⟩ := one_z HS1.out
      obtain ⟨b1, _, k2⟩ := one_z HS2.out
      go_loopw [6] (fun i wr => ∃ j : Nat, j ≤ im ∧ i = .int .i64 j ∧ fstE te 0 im = fstE te j (im - j) ∧ Cls Y wr) (fun i _ => im - (intOf i).toNat)
      case atStart => exact ⟨0, Nat.zero_le _, rfl, rfl, Cls.of (Below.refl _ _)⟩
      case round =>
        obtain ⟨j, hj, rfl, he, x, rfl⟩ := hrel
        have HE := Lib.hid he
        clear he
        have xs := x.size
        obtain ⟨l1, l2, l3, l4, l5⟩ := x.lts b0
        obtain ⟨l6, l7, l8, l9, l10⟩ := x.lts b1
        by_cases hlt : j < im
        · obtain ⟨b, off, ha, hb2, hc⟩ := HRW.out j hlt
          have hYb : b < Y.heap.size := by omega
          have hcm := HCM.out j hlt
          unfold maxLen at hcm
          subst ha
          have q1 := hc 1 (by omega)
          simp only [Tb.cells, Sl.v, List.getElem?_cons_zero, List.getElem?_cons_succ] at q1
          rw [← HBY.out.cell (p := ⟨b, _, none⟩) hb2] at q1
          obtain ⟨ib, ioff, hia, hib, hic⟩ := HIW.out j hlt
          have hYib : ib < Y.heap.size := by omega
          subst hia
          have p0 := hic 0 (by omega)
          simp only [Sl.v, List.getElem?_cons_zero, Nat.add_zero, Nat.mul_one] at p0
          rw [← HBY.out.cell (p := ⟨ib, _, none⟩) hib] at p0
          have hS : Hid (im - j = (im - (j + 1)) + 1) := Lib.hid (by omega)
          have HCC := Lib.hid (HCW.out j hlt)
          obtain ⟨htm, htk⟩ := HTW.out j hlt
          unfold maxLen at htm
          have HTK := Lib.hid htk
          have HJ1 := Lib.hid (HI1.out j)
          have HJ2 := Lib.hid (HI2.out j)
          have HJ3 := Lib.hid (HI3.out j)
          obtain ⟨m1, m2, m3, m4, m5⟩ := x.lts hYb
          obtain ⟨m6, m7, m8, m9, m10⟩ := x.lts hYib
          clear hc hic htk
          have hej : te j = te j := rfl
          clear hej
          generalize (tb j).cs = cs at *
          generalize (tb j).col = col at *
          generalize rf j = rj at *
          generalize bf j = bj at *
          generalize r j = rr at *
          generalize f j = ff at *
          generalize t j = u at *
          obtain ⟨ca, cn, cc⟩ := cs
          obtain ⟨ta, tn, tc⟩ := u
          simp only at q1 p0 hcm htm HCC HTK HJ1 HJ2 HJ3
          by_cases h200 : 200 < tn
          · have d2 : decide ((200 : Int) < (tn : Int)) = true := by simp; omega
            have HP := Lib.hid (HJ1.out.1 h200)
            clear HJ1 HJ2 HJ3 HTK HCC
            go_wp2_with fail
            go_ret
            exact ⟨ret_int (by rw [HV.out, HE.out, hS.out, fstE_stop (by rw [HP.out]; decide), HP.out]), Cls.of (x.on HBY.out (by omega))⟩
          · have d2 : decide ((200 : Int) < (tn : Int)) = false := by simp; omega
            have HP := Lib.hid (HJ1.out.2 h200)
            clear HJ1
            go_wp2_with fail
            go_loopw [7] (fun i wr => ∃ k : Nat, k ≤ tn ∧ i = .int .i64 k ∧ fstE rj 0 tn = fstE rj k (tn - k) ∧ Cls Y wr) (fun i _ => tn - (intOf i).toNat)
            case atStart => exact ⟨0, Nat.zero_le _, rfl, rfl, x, rfl⟩
            case round =>
              obtain ⟨k, hk, rfl, he2, x2, rfl⟩ := hrel
              have HE2 := Lib.hid he2
              clear he2
              have xs2 := x2.size
              obtain ⟨n1, n2, n3, n4, n5⟩ := x2.lts b0
              obtain ⟨n6, n7, n8, n9, n10⟩ := x2.lts b1
              obtain ⟨o1, o2, o3, o4, o5⟩ := x2.lts hYb
              obtain ⟨o6, o7, o8, o9, o10⟩ := x2.lts hYib
              by_cases hltk : k < tn
              · obtain ⟨⟨hrm, rb, roff, hra, hrb, r0⟩, hvv⟩ := HTK.out k hltk
                subst hra
                have hYr : rb < Y.heap.size := by omega
                rw [← HBY.out.cell (p := ⟨rb, _, none⟩) hrb] at r0
                unfold maxLen at hrm
                have HVV := Lib.hid hvv
                have HK2 := Lib.hid (HJ2.out k)
                have HK3 := Lib.hid (HJ3.out k)
                have hS2 : Hid (tn - k = (tn - (k + 1)) + 1) := Lib.hid (by omega)
                obtain ⟨s1, s2, s3, s4, s5⟩ := x2.lts hYr
                clear hvv HJ2 HJ3
                generalize bj k = bk at *
                generalize rr k = ru at *
                generalize ff k = fk at *
                obtain ⟨ra, rn, rc⟩ := ru
                simp only at r0 hrm HVV HK2
                by_cases hrn : rn = cn
                · subst hrn
                  have HP2 := Lib.hid (HK2.out.2 rfl)
                  clear HK2
                  go_wp2_with fail
                  go_loopw [9] (fun i wr => ∃ c : Nat, c ≤ rn ∧ i = .int .i64 c ∧ fstE bk 0 rn = fstE bk c (rn - c) ∧ Cls Y wr) (fun i _ => rn - (intOf i).toNat)
                  case atStart => exact ⟨0, Nat.zero_le _, rfl, rfl, x2, rfl⟩
                  case round =>
                    obtain ⟨c, hc3, rfl, he3, x3, rfl⟩ := hrel
                    have HE3 := Lib.hid he3
                    clear he3
                    have xs3 := x3.size
                    by_cases hltc : c < rn
                    · obtain ⟨hxs, vb2, voff, hva, hvb, p0', p1, p2⟩ := HVV.out c hltc
                      subst hva
                      have hYv : vb2 < Y.heap.size := by omega
                      rw [← HBY.out.cell (p := ⟨vb2, _, none⟩) hvb] at p0' p1 p2
                      obtain ⟨cb, coff, hca, hcb, c1⟩ := HCC.out c hltc
                      subst hca
                      have hYc : cb < Y.heap.size := by omega
                      rw [← HBY.out.cell (p := ⟨cb, _, none⟩) hcb] at c1
                      have HB0 := Lib.hid (HK3.out c hltc)
                      have hS3 : Hid (rn - c = (rn - (c + 1)) + 1) := Lib.hid (by omega)
                      generalize fk c = v at *
                      generalize (col c).ty = ty at *
                      obtain ⟨vk, vn, vs⟩ := v
                      simp only at p0' p1 p2 hxs
                      have C1 : Hid (∀ W, Calls Tryd.prog 15 #[.agg #[.int .i64 vk, .int .i64 vn, .string vs]] W fun r w' => r = .returned (.bool (vB vk vn vs)) ∧ Cls W w') := Lib.hid fun W => rValid_calls vk vn vs W hxs
                      have HBS : Hid (badV ty ⟨vk, vn, vs⟩ = (!(vB vk vn vs) || (!(vk == 0) && !(vk == ty)))) := Lib.hid rfl
                      clear hxs
                      generalize vB vk vn vs = vb at C1 HBS
                      generalize badV ty ⟨vk, vn, vs⟩ = bv at HB0 HBS
                      cases vb
                      · have hbv : bv = true := by rw [HBS.out]; rfl
                        have HB := Lib.hid (HB0.out.1 hbv)
                        clear hbv HBS HB0
                        go_wp2_with fail
                        refine wp_region_on (by kernel_rfl) (by kernel_rfl) ?_
                        repeat (go_big_quiet_step ((go_at_call 15; exact Cls.call (C1.out _))))
                        refine wpQuiet_nil ?_
                        rintro _ ⟨y4, rfl⟩
                        go_wp2_with fail
                        go_ret
                        exact ⟨ret_int (by rw [HV.out, HE.out, hS.out, fstE_stop (by rw [HP.out, HE2.out, hS2.out, fstE_stop (by rw [HP2.out, HE3.out, hS3.out, fstE_stop (by rw [HB.out]; decide), HB.out]; decide), HP2.out, HE3.out, hS3.out, fstE_stop (by rw [HB.out]; decide), HB.out]; decide), HP.out, HE2.out, hS2.out, fstE_stop (by rw [HP2.out, HE3.out, hS3.out, fstE_stop (by rw [HB.out]; decide), HB.out]; decide), HP2.out, HE3.out, hS3.out, fstE_stop (by rw [HB.out]; decide), HB.out]), Cls.of (y4.on HBY.out (by omega))⟩
                      · by_cases hk0 : vk = 0
                        · subst hk0
                          have hbv : bv = false := by rw [HBS.out]; rfl
                          have HB := Lib.hid (HB0.out.2 hbv)
                          clear hbv HBS HB0
                          go_wp2_with fail
                          refine wp_region_on (by kernel_rfl) (by kernel_rfl) ?_
                          repeat (go_big_quiet_step ((go_at_call 15; exact Cls.call (C1.out _))))
                          refine wpQuiet_nil ?_
                          rintro _ ⟨y4, rfl⟩
                          go_wp2_with fail
                          go_roundw
                          case rel => exact ⟨c + 1, by omega, by go_num, by rw [HE3.out, hS3.out, fstE_go HB.out], y4, rfl⟩
                          case measure => simp [intOf]; omega
                        · by_cases hkt : vk = ty
                          · subst hkt
                            have hbv : bv = false := by rw [HBS.out]; simp
                            have HB := Lib.hid (HB0.out.2 hbv)
                            have d1 : (vk == 0) = false := by simp [hk0]
                            have d2 : (vk != 0) = true := by simp [hk0]
                            clear hbv HBS HB0 hk0
                            go_wp2_with fail
                            refine wp_region_on (by kernel_rfl) (by kernel_rfl) ?_
                            repeat (go_big_quiet_step ((go_at_call 15; exact Cls.call (C1.out _))))
                            refine wpQuiet_nil ?_
                            rintro _ ⟨y4, rfl⟩
                            go_wp2_with fail
                            go_roundw
                            case rel => exact ⟨c + 1, by omega, by go_num, by rw [HE3.out, hS3.out, fstE_go HB.out], y4, rfl⟩
                            case measure => simp [intOf]; omega
                          · have hbv : bv = true := by rw [HBS.out]; simp [hk0, hkt]
                            have HB := Lib.hid (HB0.out.1 hbv)
                            have d1 : (vk == 0) = false := by simp [hk0]
                            have d2 : (vk != 0) = true := by simp [hk0]
                            have d3 : (vk == ty) = false := by simp [hkt]
                            have d4 : (vk != ty) = true := by simp [hkt]
                            clear hbv HBS HB0 hk0 hkt
                            go_wp2_with fail
                            refine wp_region_on (by kernel_rfl) (by kernel_rfl) ?_
                            repeat (go_big_quiet_step ((go_at_call 15; exact Cls.call (C1.out _))))
                            refine wpQuiet_nil ?_
                            rintro _ ⟨y4, rfl⟩
                            go_wp2_with fail
                            go_ret
                            exact ⟨ret_int (by rw [HV.out, HE.out, hS.out, fstE_stop (by rw [HP.out, HE2.out, hS2.out, fstE_stop (by rw [HP2.out, HE3.out, hS3.out, fstE_stop (by rw [HB.out]; decide), HB.out]; decide), HP2.out, HE3.out, hS3.out, fstE_stop (by rw [HB.out]; decide), HB.out]; decide), HP.out, HE2.out, hS2.out, fstE_stop (by rw [HP2.out, HE3.out, hS3.out, fstE_stop (by rw [HB.out]; decide), HB.out]; decide), HP2.out, HE3.out, hS3.out, fstE_stop (by rw [HB.out]; decide), HB.out]), Cls.of (y4.on HBY.out (by omega))⟩
                    · have hz3 : Hid (rn - c = 0) := Lib.hid (by omega)
                      have HP3 : Hid (rj k = 0) := Lib.hid (by rw [HP2.out, HE3.out, hz3.out]; rfl)
                      go_wp2_with fail
                      go_roundw
                      case rel => exact ⟨k + 1, by omega, by go_num, by rw [HE2.out, hS2.out, fstE_go HP3.out], x3, rfl⟩
                      case measure => simp [intOf]; omega
                · have d5 : ((rn : Int) == (cn : Int)) = false := by simp; omega
                  have d6 : ((rn : Int) != (cn : Int)) = true := by simp; omega
                  have d7 : ¬ ((rn : Int) = (cn : Int)) := by omega
                  have HP2 := Lib.hid (HK2.out.1 hrn)
                  clear HK2 hrn
                  go_wp2_with fail
                  go_ret
                  exact ⟨ret_int (by rw [HV.out, HE.out, hS.out, fstE_stop (by rw [HP.out, HE2.out, hS2.out, fstE_stop (by rw [HP2.out]; decide), HP2.out]; decide), HP.out, HE2.out, hS2.out, fstE_stop (by rw [HP2.out]; decide), HP2.out]), Cls.of (x2.on HBY.out (by omega))⟩
              · have hz2 : Hid (tn - k = 0) := Lib.hid (by omega)
                have HP3 : Hid (te j = 0) := Lib.hid (by rw [HP.out, HE2.out, hz2.out]; rfl)
                go_wp2_with fail
                go_roundw
                case rel => exact ⟨j + 1, by omega, by go_num, by rw [HE.out, hS.out, fstE_go HP3.out], x2, rfl⟩
                case measure => simp [intOf]; omega
        · have hz : Hid (im - j = 0) := Lib.hid (by omega)
          go_wp2_with fail
          go_ret
          exact ⟨ret_int (by rw [HV.out, HE.out, hz.out]; rfl), Cls.of (x.on HBY.out (by omega))⟩
    · have e1 : ((im : Int) == (sn : Int)) = false := by simp; omega
      have e2 : ((im : Int) != (sn : Int)) = true := by simp; omega
      have e3 : ¬ ((im : Int) = (sn : Int)) := by omega
      have HV := Lib.hid (HIS.out.2.1 hv0 hn)
      clear HIS hv0 hn
      go_enter Tryd.func22, Tryd.ntmps22
      go_wp2_with (go_at_call 18; ((with_reducible refine (CV.out _ HB0.out).mono ?_); rintro e _ ⟨rfl, y, rfl⟩; have ys := y.size; obtain ⟨l1, l2, l3, l4, l5⟩ := y.lts h0a; obtain ⟨l6, l7, l8, l9, l10⟩ := y.lts h0b))
      go_ret
      exact ⟨ret_int HV.out.symm, Cls.of (y.on HB0.out (by omega))⟩
  · have d1 : (v == 0) = false := by simp [hv0]
    have d1' : (v != 0) = true := by simp [hv0]
    have HV := Lib.hid (HIS.out.1 hv0)
    clear HIS hv0
    go_enter Tryd.func22, Tryd.ntmps22
    go_wp2_with (go_at_call 18; ((with_reducible refine (CV.out _ HB0.out).mono ?_); rintro e _ ⟨rfl, y, rfl⟩; have ys := y.size; obtain ⟨l1, l2, l3, l4, l5⟩ := y.lts h0a; obtain ⟨l6, l7, l8, l9, l10⟩ := y.lts h0b))
    go_ret
    exact ⟨ret_int HV.out.symm, Cls.of (y.on HB0.out (by omega))⟩
end Go.Proofs.YtpddkljedhghkaaDoor
set_option linter.unusedVariables false
namespace Go.Proofs.YtpddkljedhghkaaDoor
open Go Go.RowKit
mutual
def fewB : Ex → Nat → Bool
  | .mk _ _ _ t _ l, d => if 60 < d then false else if 12 < l.length then false else if 200 < t.size then false else fewL l (d + 1)
def fewL : List Ex → Nat → Bool
  | [], _ => true
  | k :: r, d => if fewB k d = true then fewL r d else false
end
theorem fewB_eq (e : Ex) (d : Nat) : fewB e d = if 60 < d then false else if 12 < e.kids.length then false else if 200 < e.text.size then false else fewL e.kids (d + 1) := by
  cases e; unfold fewB; rfl
mutual
def sizeW : Ex → Int
  | .mk _ _ _ _ _ l => sizeL l 1
def sizeL : List Ex → Int → Int
  | [], n => n
  | k :: r, n => sizeL r (wrap64 (n + sizeW k))
end
theorem sizeW_eq (e : Ex) : sizeW e = sizeL e.kids 1 := by
  cases e; simp only [sizeW, Ex.kids]
theorem fewL_go {l : List Ex} {j d : Nat} (h : j < l.length) (hk : fewB (l.getD j Ex.z) d = true) : fewL (l.drop j) d = fewL (l.drop (j + 1)) d := by
  rw [dropE h, fewL, if_pos hk]
theorem fewL_stop {l : List Ex} {j d : Nat} (h : j < l.length) (hk : fewB (l.getD j Ex.z) d = false) : fewL (l.drop j) d = false := by
  rw [dropE h, fewL, if_neg (by rw [hk]; exact Bool.false_ne_true)]
theorem sizeL_go {l : List Ex} {j : Nat} {n : Int} (h : j < l.length) : sizeL (l.drop j) n = sizeL (l.drop (j + 1)) (wrap64 (n + sizeW (l.getD j Ex.z))) := by
  rw [dropE h, sizeL]

set_option maxHeartbeats 2000000 in
theorem few_calls : ∀ (e : Ex) (d : Nat) (a : Option Addr) (len cap : Nat) (ok : Nat → Prop) (w : World), Kids w ok a len cap e.kids → e.text.size ≤ maxLen → d ≤ 61 →
    Calls Tryd.prog 65 #[.agg #[.int .i64 e.op, .int .i64 e.ty, .int .i64 e.num, .string e.text, .int .i64 e.col, .slice a len cap], .int .i64 (d : Nat)] w fun r w' => r = .returned (.bool (fewB e d)) ∧ Cls w w' := by
  refine Ex.ind fun e ih => ?_
  intro d a len cap ok w hk ht hd
  have hlen := hk.len_eq
  have hle := hk.le
  have hmax := hk.max
  unfold maxLen at hmax ht
  by_cases h1 : 60 < d
  · have d1 : decide (60 < (d : Int)) = true := by simp; omega
    go_enter Tryd.func65, Tryd.ntmps65
    go_wp2_with fail
    all_goals
      go_ret
      refine ⟨ret_bool (by rw [fewB_eq, if_pos h1]), Cls.of ?_⟩
      repeat first | with_reducible exact Below.refl _ _ | with_reducible refine Below.setCell ?_ (by first | omega | (simp; done) | (simp; omega)) _ | with_reducible refine Below.alloc ?_ (by first | omega | (simp; done) | (simp; omega)) _ | with_reducible refine Below.drew ?_ | with_reducible refine Ext.on _ ?_ (by first | omega | (simp; done) | (simp; omega))
  · have d1 : decide (60 < (d : Int)) = false := by simp; omega
    by_cases h2 : 12 < len
    · have d2 : decide (12 < (len : Int)) = true := by simp; omega
      go_enter Tryd.func65, Tryd.ntmps65
      go_wp2_with fail
      all_goals
        go_ret
        refine ⟨ret_bool (by rw [fewB_eq, if_neg h1, if_pos (by omega)]), Cls.of ?_⟩
        repeat first | with_reducible exact Below.refl _ _ | with_reducible refine Below.setCell ?_ (by first | omega | (simp; done) | (simp; omega)) _ | with_reducible refine Below.alloc ?_ (by first | omega | (simp; done) | (simp; omega)) _ | with_reducible refine Below.drew ?_ | with_reducible refine Ext.on _ ?_ (by first | omega | (simp; done) | (simp; omega))
    · have d2 : decide (12 < (len : Int)) = false := by simp; omega
      by_cases h3 : 200 < e.text.size
      · have d3 : decide (200 < (e.text.size : Int)) = true := by simp; omega
        go_enter Tryd.func65, Tryd.ntmps65
        go_wp2_with fail
        all_goals
          go_ret
          refine ⟨ret_bool (by rw [fewB_eq, if_neg h1, if_neg (by omega), if_pos h3]), Cls.of ?_⟩
          repeat first | with_reducible exact Below.refl _ _ | with_reducible refine Below.setCell ?_ (by first | omega | (simp; done) | (simp; omega)) _ | with_reducible refine Below.alloc ?_ (by first | omega | (simp; done) | (simp; omega)) _ | with_reducible refine Below.drew ?_ | with_reducible refine Ext.on _ ?_ (by first | omega | (simp; done) | (simp; omega))
      · have d3 : decide (200 < (e.text.size : Int)) = false := by simp; omega
        have HL := Lib.hid hlen
        have HE : Hid (fewB e d = fewL e.kids (d + 1)) := Lib.hid (by rw [fewB_eq, if_neg h1, if_neg (by omega), if_neg h3])
        clear hlen
        go_enter Tryd.func65, Tryd.ntmps65
        go_wp2_with fail
        go_loopw [5] (fun i wr => ∃ j : Nat, j ≤ len ∧ i = .int .i64 j ∧ fewB e d = fewL (e.kids.drop j) (d + 1) ∧ Cls (w.alloc (.cells #[.int .i64 e.op, .int .i64 e.ty, .int .i64 e.num, .string e.text, .int .i64 e.col, .slice a len cap] 30)) wr) (fun i _ => len - (intOf i).toNat)
        case atStart => exact ⟨0, Nat.zero_le _, rfl, HE.out, Cls.of (Below.refl _ _)⟩
        case round =>
          clear HE
          obtain ⟨j, hj, rfl, he, x, rfl⟩ := hrel
          have HE := Lib.hid he
          clear he
          by_cases hlt : j < len
          · obtain ⟨a', len', cap', ⟨b, off, rfl, hb, hok, q0, q1, q2, q3, q4, q5⟩, hfine, hk'⟩ := hk.at_ hlt
            have hb1 : b < w.heap.size + 1 := by omega
            have hmem := getD_mem (l := e.kids) (i := j) (by rw [HL.out]; exact hlt)
            have HK : Hid (Kids x.val ok a' len' cap' (e.kids.getD j Ex.z).kids) := Lib.hid ((hk'.later ((Below.refl _ _).alloc (Nat.le_refl _) _)).later x.below)
            have HT : Hid ((e.kids.getD j Ex.z).text.size ≤ maxLen) := Lib.hid hfine.2.2.2.1
            have hd1 : (d : Int) + 1 = ((d + 1 : Nat) : Int) := by omega
            have C1 : Hid (Calls Tryd.prog 65 #[.agg #[.int .i64 (e.kids.getD j Ex.z).op, .int .i64 (e.kids.getD j Ex.z).ty, .int .i64 (e.kids.getD j Ex.z).num, .string (e.kids.getD j Ex.z).text, .int .i64 (e.kids.getD j Ex.z).col, .slice a' len' cap'], .int .i64 ((d : Int) + 1)] x.val fun r w' => r = .returned (.bool (fewB (e.kids.getD j Ex.z) (d + 1))) ∧ Cls x.val w') := Lib.hid (by rw [hd1]; exact ih _ hmem (d + 1) a' len' cap' ok x.val HK.out HT.out (by omega))
            clear hk hk' hfine hmem hd1 ih
            cases hb2 : fewB (e.kids.getD j Ex.z) (d + 1)
            all_goals
              have HB := Lib.hid hb2
              rw [hb2] at C1
              clear hb2
              go_wp2_with (go_at_call 65; ((refine (Cls.call C1.out).mono ?_); rintro r _ ⟨rfl, y, rfl⟩))
            · go_ret
              refine ⟨ret_bool (by rw [HE.out, fewL_stop (by rw [HL.out]; exact hlt) HB.out]), Cls.of ?_⟩
              repeat first | with_reducible exact Below.refl _ _ | with_reducible refine Below.setCell ?_ (by first | omega | (simp; done) | (simp; omega)) _ | with_reducible refine Below.alloc ?_ (by first | omega | (simp; done) | (simp; omega)) _ | with_reducible refine Below.drew ?_ | with_reducible refine Ext.on _ ?_ (by first | omega | (simp; done) | (simp; omega))
            · go_roundw
              case rel => exact ⟨j + 1, by omega, by go_num, by rw [HE.out, fewL_go (by rw [HL.out]; exact hlt) HB.out], y, rfl⟩
              case measure => simp [intOf]; omega
          · go_wp2_with fail
            go_ret
            refine ⟨ret_bool (by rw [HE.out, List.drop_of_length_le (by rw [HL.out]; omega), fewL]), Cls.of ?_⟩
            repeat first | with_reducible exact Below.refl _ _ | with_reducible refine Below.setCell ?_ (by first | omega | (simp; done) | (simp; omega)) _ | with_reducible refine Below.alloc ?_ (by first | omega | (simp; done) | (simp; omega)) _ | with_reducible refine Below.drew ?_ | with_reducible refine Ext.on _ ?_ (by first | omega | (simp; done) | (simp; omega))
set_option maxHeartbeats 2000000 in
theorem Size_calls : ∀ (e : Ex) (a : Option Addr) (len cap : Nat) (ok : Nat → Prop) (w : World), Kids w ok a len cap e.kids →
    Calls Tryd.prog 12 #[.agg #[.int .i64 e.op, .int .i64 e.ty, .int .i64 e.num, .string e.text, .int .i64 e.col, .slice a len cap]] w fun r w' => r = .returned (.int .i64 (sizeW e)) ∧ Cls w w' := by
  refine Ex.ind fun e ih => ?_
  intro a len cap ok w hk
  have hlen := hk.len_eq
  have hle := hk.le
  have hmax := hk.max
  unfold maxLen at hmax
  have HL := Lib.hid hlen
  have HE : Hid (sizeW e = sizeL e.kids 1) := Lib.hid (sizeW_eq e)
  clear hlen
  go_enter Tryd.func12, Tryd.ntmps12
  go_wp2_with fail
  go_loopw [3, 4] (fun n i wr => ∃ (j : Nat) (m : Int), j ≤ len ∧ i = .int .i64 j ∧ n = .int .i64 m ∧ sizeW e = sizeL (e.kids.drop j) m ∧ Cls (w.alloc (.cells #[.int .i64 e.op, .int .i64 e.ty, .int .i64 e.num, .string e.text, .int .i64 e.col, .slice a len cap] 30)) wr) (fun _ i _ => len - (intOf i).toNat)
  case atStart => exact ⟨0, 1, Nat.zero_le _, rfl, rfl, HE.out, Cls.of (Below.refl _ _)⟩
  case round =>
    clear HE
    obtain ⟨j, m, hj, rfl, rfl, he, x, rfl⟩ := hrel
    have HE := Lib.hid he
    clear he
    by_cases hlt : j < len
    · obtain ⟨a', len', cap', ⟨b, off, rfl, hb, hok, q0, q1, q2, q3, q4, q5⟩, hfine, hk'⟩ := hk.at_ hlt
      have hb1 : b < w.heap.size + 1 := by omega
      have hmem := getD_mem (l := e.kids) (i := j) (by rw [HL.out]; exact hlt)
      have HK : Hid (Kids x.val ok a' len' cap' (e.kids.getD j Ex.z).kids) := Lib.hid ((hk'.later ((Below.refl _ _).alloc (Nat.le_refl _) _)).later x.below)
      have C1 := Lib.hid (ih _ hmem a' len' cap' ok x.val HK.out)
      clear hk hk' hfine hmem ih
      go_wp2_with (go_at_call 12; ((refine (Cls.call C1.out).mono ?_); rintro r _ ⟨rfl, y, rfl⟩))
      go_roundw
      case rel => exact ⟨j + 1, _, by omega, by go_num, rfl, by rw [HE.out, sizeL_go (by rw [HL.out]; exact hlt)]; rfl, y, rfl⟩
      case measure => simp [intOf]; omega
    · go_wp2_with fail
      go_ret
      refine ⟨ret_int (by rw [HE.out, List.drop_of_length_le (by rw [HL.out]; omega), sizeL]), Cls.of ?_⟩
      repeat first | with_reducible exact Below.refl _ _ | with_reducible refine Below.setCell ?_ (by first | omega | (simp; done) | (simp; omega)) _ | with_reducible refine Below.alloc ?_ (by first | omega | (simp; done) | (simp; omega)) _ | with_reducible refine Below.drew ?_ | with_reducible refine Ext.on _ ?_ (by first | omega | (simp; done) | (simp; omega))
theorem fewL_depth : ∀ (e : Ex) (d : Nat), fewB e d = true → d ≤ 60 := by
  intro e d h
  rw [fewB_eq] at h
  split at h
  · cases h
  · omega
def bigB (e : Ex) : Bool := if fewB e 0 = true then decide (sizeW e ≤ 600) else false
set_option maxHeartbeats 1000000 in
theorem Few_calls (e : Ex) (a : Option Addr) (len cap : Nat) (ok : Nat → Prop) (w : World) (hk : Kids w ok a len cap e.kids) (ht : e.text.size ≤ maxLen) :
    Calls Tryd.prog 24 #[.agg #[.int .i64 e.op, .int .i64 e.ty, .int .i64 e.num, .string e.text, .int .i64 e.col, .slice a len cap]] w fun r w' => r = .returned (.bool (bigB e)) ∧ Cls w w' := by
  have HK := Lib.hid hk
  have C1 : Hid (∀ x : Ext (w.alloc (.cells #[.int .i64 e.op, .int .i64 e.ty, .int .i64 e.num, .string e.text, .int .i64 e.col, .slice a len cap] 30)), Calls Tryd.prog 65 #[.agg #[.int .i64 e.op, .int .i64 e.ty, .int .i64 e.num, .string e.text, .int .i64 e.col, .slice a len cap], .int .i64 0] x.val fun r w' => r = .returned (.bool (fewB e 0)) ∧ Cls x.val w') := Lib.hid (fun x => few_calls e 0 a len cap ok x.val ((HK.out.later ((Below.refl _ _).alloc (Nat.le_refl _) _)).later x.below) ht (by omega))
  have C2 : Hid (∀ x : Ext (w.alloc (.cells #[.int .i64 e.op, .int .i64 e.ty, .int .i64 e.num, .string e.text, .int .i64 e.col, .slice a len cap] 30)), Calls Tryd.prog 12 #[.agg #[.int .i64 e.op, .int .i64 e.ty, .int .i64 e.num, .string e.text, .int .i64 e.col, .slice a len cap]] x.val fun r w' => r = .returned (.int .i64 (sizeW e)) ∧ Cls x.val w') := Lib.hid (fun x => Size_calls e a len cap ok x.val ((HK.out.later ((Below.refl _ _).alloc (Nat.le_refl _) _)).later x.below))
  have HB : bigB e = if fewB e 0 = true then decide (sizeW e ≤ 600) else false := rfl
  clear hk ht
  cases hf : fewB e 0
  all_goals
    rw [hf] at C1 HB
    have HF := Lib.hid HB
    clear HB hf
    go_enter Tryd.func24, Tryd.ntmps24
    go_wp2_with (first | (go_at_call 65; ((refine (C1.out ⟨_, Below.refl _ _⟩).mono ?_); rintro r _ ⟨rfl, y, rfl⟩)) | (go_at_call 12; ((refine (Cls.call (C2.out _)).mono ?_); rintro r _ ⟨rfl, y2, rfl⟩)))
    go_ret
    refine ⟨ret_bool ?_, Cls.of ?_⟩
    · rw [HF.out]; simp
    · repeat first | with_reducible exact Below.refl _ _ | with_reducible refine Below.setCell ?_ (by first | omega | (simp; done) | (simp; omega)) _ | with_reducible refine Below.alloc ?_ (by first | omega | (simp; done) | (simp; omega)) _ | with_reducible refine Below.drew ?_ | with_reducible refine Ext.on _ ?_ (by first | omega | (simp; done) | (simp; omega))
end Go.Proofs.YtpddkljedhghkaaDoor
