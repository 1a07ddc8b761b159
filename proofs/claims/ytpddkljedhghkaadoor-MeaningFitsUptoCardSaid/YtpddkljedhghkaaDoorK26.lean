/-
  The first error of a row of an instance: the program's. The first error of an instance for a schema: the program's Fits.
-/
import Derived.Test.YtpddkljedhghkaaDoorK25
import Derived.Test.YtpddkljedhghkaaDoorK11
set_option linter.unusedVariables false
namespace Go.Proofs.YtpddkljedhghkaaDoor
open Go Go.RowKit Go.Deep
set_option maxHeartbeats 8000000 in
set_option maxRecDepth 20000 in
theorem rowError_calls (ts rs : Sl) (tyf : Nat → Int) (f : Nat → Vl) (w : World) (ht : SlAt w 1 ts (intC tyf)) (hr : SlAt w 3 rs (fun j => vlC (f j))) (hx : ∀ j, j < rs.len → (f j).s.size ≤ maxLen) :
    Calls Tryd.prog 109 #[.slice ts.a ts.len ts.cap, .slice rs.a rs.len rs.cap] w fun r w' => r = .returned (.int .i64 (rowE tyf ts.len rs.len f)) ∧ Cls w w' := by
  have htl := ht.1
  have htm := ht.2.1
  have hrl := hr.1
  have hrm := hr.2.1
  unfold maxLen at htm hrm
  have HT := Lib.hid ht.2.2.2
  have HR := Lib.hid hr.2.2.2
  have HX := Lib.hid hx
  have HIS := Lib.hid (rowE_is tyf ts.len rs.len f)
  have HBE := Lib.hid (badE_is tyf f)
  clear ht hr hx
  generalize rowE tyf ts.len rs.len f = re at *
  generalize badE tyf f = be at *
  obtain ⟨ta, tn, tc⟩ := ts
  obtain ⟨ra, rn, rc⟩ := rs
  simp only at htl htm hrl hrm HT HR HX HIS ⊢
  by_cases hn : rn = tn
  · subst hn
    have HV := Lib.hid (HIS.out.2 rfl)
    clear HIS
    go_enter Tryd.func109, Tryd.ntmps109
    go_wp2_with fail
    go_loopw [14] (fun i wr => ∃ j : Nat, j ≤ rn ∧ i = .int .i64 j ∧ fstE be 0 rn = fstE be j (rn - j) ∧ Cls w wr) (fun i _ => rn - (intOf i).toNat)
    case atStart => exact ⟨0, Nat.zero_le _, rfl, rfl, Cls.of (Below.refl _ _)⟩
    case round =>
      obtain ⟨j, hj, rfl, he, x, rfl⟩ := hrel
      have HE := Lib.hid he
      clear he
      have xs := x.size
      by_cases hlt : j < rn
      · obtain ⟨b, off, ha, hb, hc⟩ := HR.out j hlt
        subst ha
        obtain ⟨tb, toff, hta, htb, htc⟩ := HT.out j hlt
        subst hta
        have q0 := hc 0 (by omega)
        have q1 := hc 1 (by omega)
        have q2 := hc 2 (by omega)
        have t0 := htc 0 (by omega)
        have hxs := HX.out j hlt
        have HB0 := Lib.hid (HBE.out j)
        simp only [vlC, intC, List.getElem?_cons_zero, List.getElem?_cons_succ, Nat.add_zero, Nat.mul_one] at q0 q1 q2 t0
        have hS : Hid (rn - j = (rn - (j + 1)) + 1) := Lib.hid (by omega)
        clear hc htc
        rw [← x.below.cell (p := ⟨b, _, none⟩) hb] at q0 q1 q2
        rw [← x.below.cell (p := ⟨tb, _, none⟩) htb] at t0
        have hb2 : b < x.val.heap.size := by omega
        have htb2 : tb < x.val.heap.size := by omega
        generalize f j = v at *
        generalize tyf j = ty at *
        obtain ⟨vk, vn, vs⟩ := v
        simp only at q0 q1 q2 hxs
        have C1 : Hid (∀ W, Calls Tryd.prog 113 #[.agg #[.int .i64 vk, .int .i64 vn, .string vs]] W fun r w' => r = .returned (.bool (vB vk vn vs)) ∧ Cls W w') := Lib.hid fun W => Valid_calls vk vn vs W hxs
        have HBS : Hid (badV ty ⟨vk, vn, vs⟩ = (!(vB vk vn vs) || (!(vk == 0) && !(vk == ty)))) := Lib.hid rfl
        clear hxs
        generalize vB vk vn vs = vb at C1 HBS
        generalize badV ty ⟨vk, vn, vs⟩ = bv at HB0 HBS
        have hbl : (x.val.alloc (.cells #[.int .i64 vk, .int .i64 vn, .string vs] 39)).heap[x.val.heap.size]? = some (.cells #[.int .i64 vk, .int .i64 vn, .string vs] 39) := heap_alloc_new _ _
        have HBL := Lib.hid hbl
        have HBW : Hid (Below w.heap.size w (x.val.alloc (.cells #[.int .i64 vk, .int .i64 vn, .string vs] 39))) := Lib.hid (x.below.trans (((Below.refl _ _).alloc (Nat.le_refl _) _).mono x.size))
        have has : (x.val.alloc (.cells #[.int .i64 vk, .int .i64 vn, .string vs] 39)).heap.size = x.val.heap.size + 1 := by simp
        have HCT : Hid ((x.val.alloc (.cells #[.int .i64 vk, .int .i64 vn, .string vs] 39)).cell? ⟨tb, toff + j, none⟩ = some (.int .i64 ty)) := Lib.hid (by rw [((Below.refl _ _).alloc (Nat.le_refl _) _ : Below x.val.heap.size x.val _).cell (p := ⟨tb, _, none⟩) htb2]; exact t0)
        clear hbl
        cases vb
        · have hbv : bv = true := by rw [HBS.out]; rfl
          have HB := Lib.hid (HB0.out.1 hbv)
          clear hbv HBS HB0
          go_wp2_with fail
          generalize (x.val.alloc (.cells #[.int .i64 vk, .int .i64 vn, .string vs] 39)) = WA at HBL HBW HCT has ⊢
          obtain ⟨c0, c1, c2, c3, c4, c5, c6⟩ := three_z HBL.out
          refine wp_region_ext (by kernel_rfl) (by kernel_rfl) ?_
          repeat (go_big_quiet_step ((go_at_call 113; exact Cls.call (C1.out _))))
          refine wpQuiet_nil ?_
          rintro _ ⟨y, rfl⟩
          go_wp2_with fail
          go_ret
          exact ⟨ret_int (by rw [HV.out, HE.out, hS.out, fstE_stop (by rw [HB.out]; decide), HB.out]), Cls.of (y.on HBW.out (by omega))⟩
        · by_cases hk0 : vk = 0
          · subst hk0
            have hbv : bv = false := by rw [HBS.out]; rfl
            have HB := Lib.hid (HB0.out.2 hbv)
            clear hbv HBS HB0
            go_wp2_with fail
            generalize (x.val.alloc (.cells #[.int .i64 0, .int .i64 vn, .string vs] 39)) = WA at HBL HBW HCT has ⊢
            obtain ⟨c0, c1, c2, c3, c4, c5, c6⟩ := three_z HBL.out
            refine wp_region_ext (by kernel_rfl) (by kernel_rfl) ?_
            repeat (go_big_quiet_step ((go_at_call 113; exact Cls.call (C1.out _))))
            refine wpQuiet_nil ?_
            rintro _ ⟨y, rfl⟩
            go_wp2_with fail
            go_roundw
            case rel => exact ⟨j + 1, by omega, by go_num, by rw [HE.out, hS.out, fstE_go HB.out], Cls.of (y.on HBW.out (by omega))⟩
            case measure => simp [intOf]; omega
          · by_cases hkt : vk = ty
            · subst hkt
              have hbv : bv = false := by rw [HBS.out]; simp
              have HB := Lib.hid (HB0.out.2 hbv)
              have d1 : (vk == 0) = false := by simp [hk0]
              have d2 : (vk != 0) = true := by simp [hk0]
              clear hbv HBS HB0 hk0
              go_wp2_with fail
              generalize (x.val.alloc (.cells #[.int .i64 vk, .int .i64 vn, .string vs] 39)) = WA at HBL HBW HCT has ⊢
              obtain ⟨c0, c1, c2, c3, c4, c5, c6⟩ := three_z HBL.out
              have tt := HCT.out
              have htW : tb < WA.heap.size := by omega
              refine wp_region_ext (by kernel_rfl) (by kernel_rfl) ?_
              repeat (go_big_quiet_step ((go_at_call 113; exact Cls.call (C1.out _))))
              refine wpQuiet_nil ?_
              rintro _ ⟨y, rfl⟩
              go_wp2_with fail
              go_roundw
              case rel => exact ⟨j + 1, by omega, by go_num, by rw [HE.out, hS.out, fstE_go HB.out], Cls.of (y.on HBW.out (by omega))⟩
              case measure => simp [intOf]; omega
            · have hbv : bv = true := by rw [HBS.out]; simp [hk0, hkt]
              have HB := Lib.hid (HB0.out.1 hbv)
              have d1 : (vk == 0) = false := by simp [hk0]
              have d2 : (vk != 0) = true := by simp [hk0]
              have d3 : (vk == ty) = false := by simp [hkt]
              have d4 : (vk != ty) = true := by simp [hkt]
              clear hbv HBS HB0 hk0 hkt
              go_wp2_with fail
              generalize (x.val.alloc (.cells #[.int .i64 vk, .int .i64 vn, .string vs] 39)) = WA at HBL HBW HCT has ⊢
              obtain ⟨c0, c1, c2, c3, c4, c5, c6⟩ := three_z HBL.out
              have tt := HCT.out
              have htW : tb < WA.heap.size := by omega
              refine wp_region_ext (by kernel_rfl) (by kernel_rfl) ?_
              repeat (go_big_quiet_step ((go_at_call 113; exact Cls.call (C1.out _))))
              refine wpQuiet_nil ?_
              rintro _ ⟨y, rfl⟩
              go_wp2_with fail
              go_ret
              exact ⟨ret_int (by rw [HV.out, HE.out, hS.out, fstE_stop (by rw [HB.out]; decide), HB.out]), Cls.of (y.on HBW.out (by omega))⟩
      · have hz : Hid (rn - j = 0) := Lib.hid (by omega)
        go_wp2_with fail
        go_ret
        exact ⟨ret_int (by rw [HV.out, HE.out, hz.out]; rfl), x, rfl⟩
  · have d1 : ((rn : Int) == (tn : Int)) = false := by simp; omega
    have d2 : ((rn : Int) != (tn : Int)) = true := by simp; omega
    have HV := Lib.hid (HIS.out.1 hn)
    have hn2 : ¬ ((rn : Int) = (tn : Int)) := by omega
    clear HIS hn
    go_enter Tryd.func109, Tryd.ntmps109
    go_wp2_with fail
    go_ret
    exact ⟨ret_int HV.out.symm, Cls.of (Below.refl _ _)⟩
set_option maxHeartbeats 8000000 in
set_option maxRecDepth 20000 in
theorem rowsError_calls (ts s : Sl) (tyf : Nat → Int) (r : Nat → Sl) (f : Nat → Nat → Vl) (w : World) (ht : SlAt w 1 ts (intC tyf)) (hr : RwsAt w s r f) :
    Calls Tryd.prog 63 #[.slice ts.a ts.len ts.cap, .slice s.a s.len s.cap] w fun e w' => e = .returned (.int .i64 (rowsE tyf ts.len s.len r f)) ∧ Cls w w' := by
  have hrl := hr.rows.1
  have hrm := hr.rows.2.1
  unfold maxLen at hrm
  have HR := Lib.hid hr.rows.2.2.2
  have HC : Hid (∀ k, k < s.len → ∀ W, Below w.heap.size w W → Calls Tryd.prog 109 #[.slice ts.a ts.len ts.cap, .slice (r k).a (r k).len (r k).cap] W fun e w' => e = .returned (.int .i64 (rowEk tyf ts.len r f k)) ∧ Cls W w') := Lib.hid fun k hk W hW => rowError_calls ts (r k) tyf (f k) W (ht.later hW) ((hr.vals k hk).later hW) (hr.txt k hk)
  have HIS := Lib.hid (rowsE_is tyf ts.len s.len r f)
  clear ht hr
  generalize rowsE tyf ts.len s.len r f = re at *
  generalize rowEk tyf ts.len r f = be at *
  obtain ⟨ta, tn, tc⟩ := ts
  obtain ⟨ra, rn, rc⟩ := s
  simp only at hrl hrm HR HC HIS ⊢
  by_cases hn : 200 < rn
  · have d1 : decide ((200 : Int) < (rn : Int)) = true := by simp; omega
    have HV := Lib.hid (HIS.out.1 hn)
    clear HIS
    go_enter Tryd.func63, Tryd.ntmps63
    go_wp2_with fail
    go_ret
    exact ⟨ret_int HV.out.symm, Cls.of (Below.refl _ _)⟩
  · have d1 : decide ((200 : Int) < (rn : Int)) = false := by simp; omega
    have HV := Lib.hid (HIS.out.2 hn)
    clear HIS
    go_enter Tryd.func63, Tryd.ntmps63
    go_wp2_with fail
    go_loopw [13] (fun i wr => ∃ j : Nat, j ≤ rn ∧ i = .int .i64 j ∧ fstE be 0 rn = fstE be j (rn - j) ∧ Cls w wr) (fun i _ => rn - (intOf i).toNat)
    case atStart => exact ⟨0, Nat.zero_le _, rfl, rfl, Cls.of (Below.refl _ _)⟩
    case round =>
      obtain ⟨j, hj, rfl, he, x, rfl⟩ := hrel
      have HE := Lib.hid he
      clear he
      have xs := x.size
      by_cases hlt : j < rn
      · obtain ⟨b, off, ha, hb, hc⟩ := HR.out j hlt
        subst ha
        have q0 := hc 0 (by omega)
        have C1 := Lib.hid (HC.out j hlt)
        simp only [Sl.v, List.getElem?_cons_zero, Nat.add_zero, Nat.mul_one] at q0
        have hS : Hid (rn - j = (rn - (j + 1)) + 1) := Lib.hid (by omega)
        obtain ⟨g1, g2, g3, g4, g5⟩ := x.lts hb
        clear hc
        generalize r j = u at *
        obtain ⟨ua, un, uc⟩ := u
        simp only at q0 C1
        have HEV : Hid (∀ e, be j = e → be j = e) := Lib.hid fun _ h => h
        generalize hbe : be j = e at C1
        have HB := Lib.hid hbe
        clear hbe HEV
        by_cases he0 : e = 0
        · subst he0
          go_wp2_with (go_at_call 109; ((with_reducible refine (C1.out _ (Ext.below _)).mono ?_); rintro e2 _ ⟨rfl, y, rfl⟩))
          go_roundw
          case rel => exact ⟨j + 1, by omega, by go_num, by rw [HE.out, hS.out, fstE_go HB.out], Cls.of (y.on x.below xs)⟩
          case measure => simp [intOf]; omega
        · have d3 : (e == 0) = false := by simp [he0]
          have d4 : (e != 0) = true := by simp [he0]
          have HN := Lib.hid he0
          clear he0
          go_wp2_with (go_at_call 109; ((with_reducible refine (C1.out _ (Ext.below _)).mono ?_); rintro e2 _ ⟨rfl, y, rfl⟩))
          go_ret
          exact ⟨ret_int (by rw [HV.out, HE.out, hS.out, fstE_stop (by rw [HB.out]; exact HN.out), HB.out]), Cls.of (y.on x.below xs)⟩
      · have hz : Hid (rn - j = 0) := Lib.hid (by omega)
        go_wp2_with fail
        go_ret
        exact ⟨ret_int (by rw [HV.out, HE.out, hz.out]; rfl), x, rfl⟩
end Go.Proofs.YtpddkljedhghkaaDoor
set_option linter.unusedVariables false
namespace Go.Proofs.YtpddkljedhghkaaDoor
open Go Go.RowKit Go.Deep
set_option maxHeartbeats 16000000 in
set_option maxRecDepth 20000 in
theorem Fits_calls (sl : Sl) (tb : Nat → Tb) (v : Int) (s : Sl) (t : Nat → Sl) (r : Nat → Nat → Sl) (f : Nat → Nat → Nat → Vl) (w : World) (h : TabsAt w sl tb) (hi : InsAt w s t r f)
    (hv : ∀ W, Below w.heap.size w W → Calls Tryd.prog 17 #[.agg #[.slice sl.a sl.len sl.cap]] W fun e w' => e = .returned (.int .i64 v) ∧ Cls W w') (hcs : ∀ i, i < sl.len → (tb i).cs.len ≤ 1000) :
    Calls Tryd.prog 21 #[.agg #[.slice sl.a sl.len sl.cap], .agg #[.slice s.a s.len s.cap]] w fun e w' => e = .returned (.int .i64 (fitE v sl.len tb s.len t r f)) ∧ Cls w w' := by
  have hle := h.1.1
  have hmax := h.1.2.1
  have hle2 := hi.tabs.1
  have hmax2 := hi.tabs.2.1
  unfold maxLen at hmax hmax2
  have HRW := Lib.hid h.1.2.2.2
  have HIW := Lib.hid hi.tabs.2.2.2
  have CV := Lib.hid hv
  have CT : Hid (∀ j, j < sl.len → ∀ W, Below w.heap.size w W → Calls Tryd.prog 64 #[.agg #[.string (tb j).name, .slice (tb j).cs.a (tb j).cs.len (tb j).cs.cap, .slice (tb j).ps.a (tb j).ps.len (tb j).ps.cap, .slice (tb j).us.a (tb j).us.len (tb j).us.cap, .slice (tb j).fs.a (tb j).fs.len (tb j).fs.cap, .slice (tb j).ks.a (tb j).ks.len (tb j).ks.cap]] W fun e w' => ∃ u : Sl, e = .returned u.v ∧ u.len = (tb j).cs.len ∧ SlAt w' 1 u (intC (tysT (tb j))) ∧ Cls W w') := Lib.hid fun j hj W hW => sTypes_calls (tb j) W ((h.2 j hj).later hW) (hcs j hj)
  have CR : Hid (∀ j, j < s.len → ∀ (u : Sl) W, Below w.heap.size w W → u.len = (tb j).cs.len → SlAt W 1 u (intC (tysT (tb j))) → Calls Tryd.prog 63 #[.slice u.a u.len u.cap, .slice (t j).a (t j).len (t j).cap] W fun e w' => e = .returned (.int .i64 (tabE tb t r f j)) ∧ Cls W w') := Lib.hid fun j hj u W hW hu hsu => by
    have := rowsError_calls u (t j) (tysT (tb j)) (r j) (f j) W hsu ((hi.rws j hj).later hW)
    rw [hu] at this
    rw [hu]
    exact this
  have HIS := Lib.hid (fitE_is v sl.len tb s.len t r f)
  clear h hi hv hcs
  generalize fitE v sl.len tb s.len t r f = fe at *
  generalize tabE tb t r f = te at *
  generalize tysT = tyt at *
  obtain ⟨sa, sn, sc⟩ := sl
  obtain ⟨ia, im, ic⟩ := s
  simp only at hle hmax hle2 hmax2 HRW HIW CV CT CR HIS ⊢
  have hbl1 : ((w.alloc (.cells #[.slice sa sn sc] 45)).alloc (.cells #[.slice ia im ic] 61)).heap[w.heap.size]? = some (.cells #[.slice sa sn sc] 45) := by
    rw [(((Below.refl _ _).alloc (Nat.le_refl _) _) : Below (w.alloc (.cells #[.slice sa sn sc] 45)).heap.size (w.alloc (.cells #[.slice sa sn sc] 45)) ((w.alloc (.cells #[.slice sa sn sc] 45)).alloc (.cells #[.slice ia im ic] 61))).block w.heap.size (by simp)]
    exact heap_alloc_new w _
  have hbl2 : ((w.alloc (.cells #[.slice sa sn sc] 45)).alloc (.cells #[.slice ia im ic] 61)).heap[w.heap.size + 1]? = some (.cells #[.slice ia im ic] 61) := by
    have := heap_alloc_new (w.alloc (.cells #[.slice sa sn sc] 45)) (.cells #[.slice ia im ic] 61)
    simpa using this
  have HBL1 := Lib.hid hbl1
  have HBL2 := Lib.hid hbl2
  have HB0 : Hid (Below w.heap.size w ((w.alloc (.cells #[.slice sa sn sc] 45)).alloc (.cells #[.slice ia im ic] 61))) := Lib.hid (by repeat first | with_reducible exact Below.refl _ _ | with_reducible refine Below.setCell ?_ (by first | omega | (simp; done) | (simp; omega)) _ | with_reducible refine Below.alloc ?_ (by first | omega | (simp; done) | (simp; omega)) _ | with_reducible refine Below.drew ?_ | with_reducible refine Ext.on _ ?_ (by first | omega | (simp; done) | (simp; omega)))
  have h0s : ((w.alloc (.cells #[.slice sa sn sc] 45)).alloc (.cells #[.slice ia im ic] 61)).heap.size = w.heap.size + 2 := by simp
  have h0a : w.heap.size < ((w.alloc (.cells #[.slice sa sn sc] 45)).alloc (.cells #[.slice ia im ic] 61)).heap.size := by omega
  have h0b : w.heap.size + 1 < ((w.alloc (.cells #[.slice sa sn sc] 45)).alloc (.cells #[.slice ia im ic] 61)).heap.size := by omega
  have H0S := Lib.hid h0s
  clear hbl1 hbl2 h0s
  by_cases hv0 : v = 0
  · have d1 : (v == 0) = true := by simp [hv0]
    have d1' : (v != 0) = false := by simp [hv0]
    by_cases hn : im = sn
    · subst hn
      have HV := Lib.hid (HIS.out.2.2 hv0 rfl)
      clear HIS hv0
      go_enter Tryd.func21, Tryd.ntmps21
      go_wp2_with (go_at_call 17; ((with_reducible refine (CV.out _ HB0.out).mono ?_); rintro e _ ⟨rfl, y, rfl⟩; have ys := y.size; obtain ⟨l1, l2, l3, l4, l5⟩ := y.lts h0a; obtain ⟨l6, l7, l8, l9, l10⟩ := y.lts h0b))
      have HS1 := Lib.hid ((y.below.block _ h0a).trans HBL1.out)
      have HS2 := Lib.hid ((y.below.block _ h0b).trans HBL2.out)
      have HBY : Hid (Below w.heap.size w y.val) := Lib.hid (y.on HB0.out (by omega))
      have hY : w.heap.size + 1 < y.val.heap.size := by omega
      clear HBL1 HBL2 HB0 h0a h0b H0S CV d1 d1' l1 l2 l3 l4 l5 l6 l7 l8 l9 l10 ys
      generalize y.val = Y at *
      go_loopw [24] (fun i wr => ∃ j : Nat, j ≤ im ∧ i = .int .i64 j ∧ fstE te 0 im = fstE te j (im - j) ∧ Cls Y wr) (fun i _ => im - (intOf i).toNat)
      case atStart => exact ⟨0, Nat.zero_le _, rfl, rfl, Cls.of (Below.refl _ _)⟩
      case round =>
        obtain ⟨j, hj, rfl, he, x, rfl⟩ := hrel
        have HE := Lib.hid he
        clear he
        have xs := x.size
        have HBX : Hid (Below w.heap.size w x.val) := Lib.hid (HBY.out.trans (x.below.mono (by omega)))
        have HS3 := Lib.hid ((x.below.block _ (by omega)).trans HS2.out)
        obtain ⟨b0, _, k1⟩ := one_z ((x.below.block _ (by omega)).trans HS1.out)
        obtain ⟨b1, _, k2⟩ := one_z HS3.out
        by_cases hlt : j < im
        · obtain ⟨b, off, ha, hb2, hc⟩ := HRW.out j hlt
          subst ha
          have q0 := hc 0 (by omega)
          have q1 := hc 1 (by omega)
          have q2 := hc 2 (by omega)
          have q3 := hc 3 (by omega)
          have q4 := hc 4 (by omega)
          have q5 := hc 5 (by omega)
          simp only [Tb.cells, Sl.v, List.getElem?_cons_zero, List.getElem?_cons_succ, Nat.add_zero] at q0 q1 q2 q3 q4 q5
          rw [← HBX.out.cell (p := ⟨b, _, none⟩) hb2] at q0 q1 q2 q3 q4 q5
          have hb3 : b < x.val.heap.size := by omega
          obtain ⟨ib, ioff, hia, hib, hic⟩ := HIW.out j hlt
          subst hia
          have p0 := hic 0 (by omega)
          simp only [Sl.v, List.getElem?_cons_zero, Nat.add_zero, Nat.mul_one] at p0
          have hS : Hid (im - j = (im - (j + 1)) + 1) := Lib.hid (by omega)
          have C1 := Lib.hid (CT.out j hlt)
          have C2 := Lib.hid (CR.out j hlt)
          clear hc hic
          generalize tyt (tb j) = ty at C1 C2
          generalize tb j = tt at *
          generalize hbe : te j = e at C2
          have HB := Lib.hid hbe
          clear hbe
          generalize t j = u at *
          obtain ⟨ta, tn, tc⟩ := u
          simp only at p0 C2
          have hbn : (x.val.alloc (.cells #[.string tt.name, .slice tt.cs.a tt.cs.len tt.cs.cap, .slice tt.ps.a tt.ps.len tt.ps.cap, .slice tt.us.a tt.us.len tt.us.cap, .slice tt.fs.a tt.fs.len tt.fs.cap, .slice tt.ks.a tt.ks.len tt.ks.cap] 53)).heap[x.val.heap.size]? = some (.cells #[.string tt.name, .slice tt.cs.a tt.cs.len tt.cs.cap, .slice tt.ps.a tt.ps.len tt.ps.cap, .slice tt.us.a tt.us.len tt.us.cap, .slice tt.fs.a tt.fs.len tt.fs.cap, .slice tt.ks.a tt.ks.len tt.ks.cap] 53) := heap_alloc_new _ _
          have HBN := Lib.hid hbn
          have HAL : Hid (Below x.val.heap.size x.val (x.val.alloc (.cells #[.string tt.name, .slice tt.cs.a tt.cs.len tt.cs.cap, .slice tt.ps.a tt.ps.len tt.ps.cap, .slice tt.us.a tt.us.len tt.us.cap, .slice tt.fs.a tt.fs.len tt.fs.cap, .slice tt.ks.a tt.ks.len tt.ks.cap] 53))) := Lib.hid ((Below.refl _ _).alloc (Nat.le_refl _) _)
          have HBA : Hid (Below w.heap.size w (x.val.alloc (.cells #[.string tt.name, .slice tt.cs.a tt.cs.len tt.cs.cap, .slice tt.ps.a tt.ps.len tt.ps.cap, .slice tt.us.a tt.us.len tt.us.cap, .slice tt.fs.a tt.fs.len tt.fs.cap, .slice tt.ks.a tt.ks.len tt.ks.cap] 53))) := Lib.hid (HBX.out.trans (HAL.out.mono HBX.out.size))
          have HXA : Hid (Below Y.heap.size Y (x.val.alloc (.cells #[.string tt.name, .slice tt.cs.a tt.cs.len tt.cs.cap, .slice tt.ps.a tt.ps.len tt.ps.cap, .slice tt.us.a tt.us.len tt.us.cap, .slice tt.fs.a tt.fs.len tt.fs.cap, .slice tt.ks.a tt.ks.len tt.ks.cap] 53))) := Lib.hid (x.below.trans (HAL.out.mono x.size))
          have has : (x.val.alloc (.cells #[.string tt.name, .slice tt.cs.a tt.cs.len tt.cs.cap, .slice tt.ps.a tt.ps.len tt.ps.cap, .slice tt.us.a tt.us.len tt.us.cap, .slice tt.fs.a tt.fs.len tt.fs.cap, .slice tt.ks.a tt.ks.len tt.ks.cap] 53)).heap.size ≥ x.val.heap.size + 1 := by simp
          have HBQ := Lib.hid ((HAL.out.block _ b1).trans HS3.out)
          have HIC : Hid ((x.val.alloc (.cells #[.string tt.name, .slice tt.cs.a tt.cs.len tt.cs.cap, .slice tt.ps.a tt.ps.len tt.ps.cap, .slice tt.us.a tt.us.len tt.us.cap, .slice tt.fs.a tt.fs.len tt.fs.cap, .slice tt.ks.a tt.ks.len tt.ks.cap] 53)).cell? ⟨ib, ioff + j, none⟩ = some (.slice ta tn tc)) := Lib.hid (by rw [HBA.out.cell (p := ⟨ib, _, none⟩) hib]; exact p0)
          clear hbn p0
          by_cases he0 : e = 0
          · subst he0
            go_wp2_with fail
            generalize (x.val.alloc (.cells #[.string tt.name, .slice tt.cs.a tt.cs.len tt.cs.cap, .slice tt.ps.a tt.ps.len tt.ps.cap, .slice tt.us.a tt.us.len tt.us.cap, .slice tt.fs.a tt.fs.len tt.fs.cap, .slice tt.ks.a tt.ks.len tt.ks.cap] 53)) = WA at HBN HBA HXA has HBQ HIC ⊢
            obtain ⟨c0, c1, c2⟩ := one_z HBQ.out
            obtain ⟨e0, e1, e2, e3, e4, e5, e6, m0, m1, m2, m3, m4, m5⟩ := six_z HBN.out
            have hic2 := HIC.out
            have hibW : ib < WA.heap.size := by omega
            refine wp_region_lin (by kernel_rfl) (by kernel_rfl) ?_
            intro y0
            have y0s := y0.size
            repeat (refine lin_calm rfl ?_; intro KK hKK; go_big_quiet_step (fail); refine wpQuiet_nil ?_; refine hKK _ ?_; clear hKK KK)
            refine lin_free rfl ?_
            intro KK hKK
            go_wp2_with (go_at_call 64; ((with_reducible refine (C1.out _ (HBA.out.trans (y0.below.mono HBA.out.size))).mono ?_); rintro r w2 ⟨⟨ua, un, up⟩, he, hsl, hsat, z, rfl⟩; have he2 : r = .returned (.slice ua un up) := he; clear he; subst he2; have HSA := Lib.hid hsat; have zs := z.size; have HSL := Lib.hid hsl; clear hsat hsl))
            have hzb := z.on (y0.on (Below.refl _ _) (Nat.le_refl _)) (by omega)
            refine hKK _ _ (.inr ⟨⟨z.val, hzb⟩, rfl⟩) ?_
            clear hKK KK
            have HZB := Lib.hid hzb
            repeat (refine lin_calm rfl ?_; intro KK hKK; go_big_quiet_step (fail); refine wpQuiet_nil ?_; refine hKK _ ?_; clear hKK KK)
            refine lin_free rfl ?_
            intro KK hKK
            have HBZ : Hid (Below w.heap.size w z.val) := Lib.hid (HBA.out.trans (HZB.out.mono HBA.out.size))
            go_wp2_with (go_at_call 63; ((with_reducible refine (C2.out ⟨ua, un, up⟩ z.val HBZ.out HSL.out HSA.out).mono ?_); rintro r _ ⟨rfl, v2, rfl⟩; have vs := v2.size))
            have HVB := Lib.hid (v2.on HZB.out (by omega))
            refine hKK _ _ (.inr ⟨⟨v2.val, HVB.out⟩, rfl⟩) ?_
            clear hKK KK
            repeat (refine lin_calm rfl ?_; intro KK hKK; go_big_quiet_step (fail); refine wpQuiet_nil ?_; refine hKK _ ?_; clear hKK KK)
            refine lin_nil ?_
            go_wp2_with fail
            go_roundw
            case rel => exact ⟨j + 1, by omega, by go_num, by rw [HE.out, hS.out, fstE_go HB.out], Cls.of (HXA.out.trans (HVB.out.mono HXA.out.size))⟩
            case measure => simp [intOf]; omega
          · have d3 : (e == 0) = false := by simp [he0]
            have d4 : (e != 0) = true := by simp [he0]
            have HN := Lib.hid he0
            clear he0
            go_wp2_with fail
            generalize (x.val.alloc (.cells #[.string tt.name, .slice tt.cs.a tt.cs.len tt.cs.cap, .slice tt.ps.a tt.ps.len tt.ps.cap, .slice tt.us.a tt.us.len tt.us.cap, .slice tt.fs.a tt.fs.len tt.fs.cap, .slice tt.ks.a tt.ks.len tt.ks.cap] 53)) = WA at HBN HBA HXA has HBQ HIC ⊢
            obtain ⟨c0, c1, c2⟩ := one_z HBQ.out
            obtain ⟨e0, e1, e2, e3, e4, e5, e6, m0, m1, m2, m3, m4, m5⟩ := six_z HBN.out
            have hic2 := HIC.out
            have hibW : ib < WA.heap.size := by omega
            refine wp_region_lin (by kernel_rfl) (by kernel_rfl) ?_
            intro y0
            have y0s := y0.size
            repeat (refine lin_calm rfl ?_; intro KK hKK; go_big_quiet_step (fail); refine wpQuiet_nil ?_; refine hKK _ ?_; clear hKK KK)
            refine lin_free rfl ?_
            intro KK hKK
            go_wp2_with (go_at_call 64; ((with_reducible refine (C1.out _ (HBA.out.trans (y0.below.mono HBA.out.size))).mono ?_); rintro r w2 ⟨⟨ua, un, up⟩, he, hsl, hsat, z, rfl⟩; have he2 : r = .returned (.slice ua un up) := he; clear he; subst he2; have HSA := Lib.hid hsat; have zs := z.size; have HSL := Lib.hid hsl; clear hsat hsl))
            have hzb := z.on (y0.on (Below.refl _ _) (Nat.le_refl _)) (by omega)
            refine hKK _ _ (.inr ⟨⟨z.val, hzb⟩, rfl⟩) ?_
            clear hKK KK
            have HZB := Lib.hid hzb
            repeat (refine lin_calm rfl ?_; intro KK hKK; go_big_quiet_step (fail); refine wpQuiet_nil ?_; refine hKK _ ?_; clear hKK KK)
            refine lin_free rfl ?_
            intro KK hKK
            have HBZ : Hid (Below w.heap.size w z.val) := Lib.hid (HBA.out.trans (HZB.out.mono HBA.out.size))
            go_wp2_with (go_at_call 63; ((with_reducible refine (C2.out ⟨ua, un, up⟩ z.val HBZ.out HSL.out HSA.out).mono ?_); rintro r _ ⟨rfl, v2, rfl⟩; have vs := v2.size))
            have HVB := Lib.hid (v2.on HZB.out (by omega))
            refine hKK _ _ (.inr ⟨⟨v2.val, HVB.out⟩, rfl⟩) ?_
            clear hKK KK
            repeat (refine lin_calm rfl ?_; intro KK hKK; go_big_quiet_step (fail); refine wpQuiet_nil ?_; refine hKK _ ?_; clear hKK KK)
            refine lin_nil ?_
            go_wp2_with fail
            go_ret
            exact ⟨ret_int (by rw [HV.out, HE.out, hS.out, fstE_stop (by rw [HB.out]; exact HN.out), HB.out]), Cls.of (HBA.out.trans (HVB.out.mono HBA.out.size))⟩
        · have hz : Hid (im - j = 0) := Lib.hid (by omega)
          go_wp2_with fail
          go_ret
          exact ⟨ret_int (by rw [HV.out, HE.out, hz.out]; rfl), Cls.of HBX.out⟩
    · have e1 : ((im : Int) == (sn : Int)) = false := by simp; omega
      have e2 : ((im : Int) != (sn : Int)) = true := by simp; omega
      have e3 : ¬ ((im : Int) = (sn : Int)) := by omega
      have HV := Lib.hid (HIS.out.2.1 hv0 hn)
      clear HIS hv0 hn
      go_enter Tryd.func21, Tryd.ntmps21
      go_wp2_with (go_at_call 17; ((with_reducible refine (CV.out _ HB0.out).mono ?_); rintro e _ ⟨rfl, y, rfl⟩; have ys := y.size; obtain ⟨l1, l2, l3, l4, l5⟩ := y.lts h0a; obtain ⟨l6, l7, l8, l9, l10⟩ := y.lts h0b))
      go_ret
      exact ⟨ret_int HV.out.symm, Cls.of (y.on HB0.out (by omega))⟩
  · have d1 : (v == 0) = false := by simp [hv0]
    have d1' : (v != 0) = true := by simp [hv0]
    have HV := Lib.hid (HIS.out.1 hv0)
    clear HIS hv0
    go_enter Tryd.func21, Tryd.ntmps21
    go_wp2_with (go_at_call 17; ((with_reducible refine (CV.out _ HB0.out).mono ?_); rintro e _ ⟨rfl, y, rfl⟩; have ys := y.size; obtain ⟨l1, l2, l3, l4, l5⟩ := y.lts h0a; obtain ⟨l6, l7, l8, l9, l10⟩ := y.lts h0b))
    go_ret
    exact ⟨ret_int HV.out.symm, Cls.of (y.on HB0.out (by omega))⟩
end Go.Proofs.YtpddkljedhghkaaDoor
