/-
  SchemaSpoilt: the change 0. SchemaSpoilt: the change 1. SchemaSpoilt: the change 2. SchemaSpoilt: the change 3.
-/
import Derived.Test.YtpddkljedhghkaaDoorJ42
import Derived.Test.YtpddkljedhghkaaDoorJ43
import Derived.Test.YtpddkljedhghkaaDoorJ44
set_option linter.unusedVariables false
namespace Go.Proofs.YtpddkljedhghkaaDoor
open Go Go.RowKit Go.Deep
set_option maxHeartbeats 16000000 in
set_option maxRecDepth 20000 in
theorem spoilt_0 (a : Option Addr) (len cap : Nat) (wh tt : Int) (s : ByteArray) (w : World) (hn : NumsAt w a len) (hwh : (Lit.int .i64 wh).wf = true) (htt : (Lit.int .i64 tt).wf = true) (hss : s.size ≤ maxLen) (ho : OpsTab w) (hq : bits BinOp.and IntKind.i64 wh 7 = 0) :
    Calls Tryd.prog 4 #[.slice a len cap, .int .i64 wh, .int .i64 tt, .string s] w fun r w' => r = .returned (.bool true) ∧ Below w.heap.size w w' := by
  have H := Lib.hid (tape_new (cap := cap) hn)
  have HO := Lib.hid ho
  have HWF := Lib.hid htt
  have HSS := Lib.hid hss
  have hm := hss
  unfold maxLen at hm
  have HBT : Hid (Below w.heap.size w (w.alloc (.cells #[.slice a len cap, .int .i64 0] 25))) := Lib.hid (by repeat first | with_reducible exact Below.refl _ _ | with_reducible refine Below.setCell ?_ (by first | omega | (simp; done) | (simp; omega)) _ | with_reducible refine Below.alloc ?_ (by first | omega | (simp; done) | (simp; omega)) _ | with_reducible refine Below.drew ?_ | with_reducible refine Ext.on _ ?_ (by first | omega | (simp; done) | (simp; omega)))
  clear hn ho hwh htt hss
  go_enter Tryd.func4, Tryd.ntmps4
  by_cases h40 : 40 < s.size
  · have d1 : decide ((40 : Int) < (s.size : Nat)) = true := by simp; omega
    go_wp2_with fail
    go_ret
    exact ⟨rfl, Below.refl _ _⟩
  have d1 : decide ((40 : Int) < (s.size : Nat)) = false := by simp; omega
  go_wp2_with (go_at_call 16; ((with_reducible refine (Schema_own w.heap.size 0 _ H.out (by omega)).mono ?_); rintro r w1 hq; obtain ⟨⟨sa, sn, sc⟩, tb, he, hg, hT, hO, z, rfl⟩ := hq; have he2 : r = .returned (.agg #[.slice sa sn sc]) := he; clear he; subst he2; have HOZ := Lib.hid ((HO.out.later HBT.out).tp z.tp (by have := HO.out.1; omega)); have HB := Lib.hid (both_of hT (fun j hj => cks_made (hg.2.2 j hj)) HOZ.out); have HG := Lib.hid hg; have HT := Lib.hid hT; have HSO := Lib.hid hO; have zs := z.size; simp at zs; have HZA := Lib.hid z.at_; have HZB := Lib.hid (HBT.out.trans (z.tp.toBelow (by simp) (Nat.le_refl _))); clear hg hT hO))
  have hsz1 : (w.alloc (.cells #[.slice a len cap, .int .i64 0] 25)).heap.size = w.heap.size + 1 := by simp
  rw [hsz1] at HSO
  generalize z.val = Z at *
  have HSB : Hid ((Z.alloc (.cells #[.slice sa sn sc] 45)).heap[Z.heap.size]? = some (.cells #[.slice sa sn sc] 45)) := Lib.hid (heap_alloc_new Z _)
  have HZW : Hid (Below Z.heap.size Z (Z.alloc (.cells #[.slice sa sn sc] 45))) := Lib.hid ((Below.refl _ _).alloc (Nat.le_refl _) _)
  have hzl : Z.heap.size < (Z.alloc (.cells #[.slice sa sn sc] 45)).heap.size := by simp
  generalize (Z.alloc (.cells #[.slice sa sn sc] 45)) = W2 at *
  obtain ⟨b2, f2, k2⟩ := one_z HSB.out
  obtain ⟨v, hv1, hv2⟩ := HB.out
  have HV1 := Lib.hid hv1
  have HV2 := Lib.hid hv2
  clear hv1 hv2 HB
  have b3 : (v == v) = true := by simp
  have b4 : (v != v) = false := by simp
  have HCE : Hid (∀ y : Ext W2, Below Z.heap.size Z y.val) := Lib.hid fun y => HZW.out.trans (y.below.mono (by omega))
  refine wp_region_ext (by kernel_rfl) (by kernel_rfl) ?_
  repeat (go_big_quiet_step (first | (go_at_call 17; exact Cls.call (HV1.out _ (HCE.out _))) | (go_at_call 18; exact Cls.call (HV2.out _ (HCE.out _)))))
  refine wpQuiet_nil ?_
  rintro _ ⟨y, rfl⟩
  obtain ⟨l1, l2, l3, l4, l5⟩ := y.lts hzl
  have ys := y.size
  have hn1 := HG.out.1
  have hn3 := HG.out.2.1
  simp only at hn1 hn3
  have hzt : w.heap.size < Z.heap.size := by omega
  go_wp2_with (first | (go_at_call 8; ((with_reducible refine (Next_calls w.heap.size 1000 _ _ (HZA.out.later (HCE.out y)) (by omega) (by omega) (by omega)).mono ?_); rintro e1 w1 hq; obtain ⟨i, rfl, hi, z2, rfl⟩ := hq; have hlt : i < sn := (by omega); have HK := Lib.hid ((z2.tp.block Z.heap.size (by omega) (by omega)).trans ((y.below.block _ (by omega)).trans HSB.out)); obtain ⟨b5, f5, k5⟩ := one_z HK.out; have HS2 := Lib.hid (schO_carry (W' := z2.val) HSO.out (fun b hb1 hb2 => (z2.tp.block b (by omega) (by omega)).trans ((HCE.out y).block b hb2)) (by have := z2.size; have := (HCE.out y).size; omega)); obtain ⟨g, hsa, hgl, hgm, hgf, hgc⟩ := sp_row HS2.out hlt; subst hsa; have q1 := hgc 1 (by omega); simp only [Tb.cells, Sl.v, List.getElem?_cons_zero, List.getElem?_cons_succ] at q1; have hsc : sn ≤ sc := HT.out.1.1; have hsm : sc ≤ 2 ^ 63 - 1 := (by have := HT.out.1.2.1; unfold maxLen at this; exact this); clear hgc hgf; obtain ⟨hc1, hc6, hu1, hf2, hks⟩ := made_cols (HG.out.2.2 i hlt))) | (go_at_call 8; ((with_reducible refine (Next_calls w.heap.size (1000 + 1) _ _ z2.at_ (by omega) (by omega) (by omega)).mono ?_); rintro e1 w1 hq; obtain ⟨c, rfl, hc, z4, rfl⟩ := hq; have hltc : c < (tb i).cs.len := (by omega); have z2s := z2.size; have hcs := (HCE.out y).size; have HK4 := Lib.hid ((z4.tp.block Z.heap.size (by omega) (by omega)).trans HK.out); have HS4 := Lib.hid (schO_carry (W' := z4.val) HS2.out (fun b hb1 hb2 => z4.tp.block b hb2 (by omega)) z4.size); have HO4 := Lib.hid ((HOZ.out.later (HCE.out y)).tp z2.tp (by have := HO.out.1; omega)); have HP4 := Lib.hid (HO4.out.tp z4.tp (by have := HO.out.1; omega)); have z4s := z4.size; have HB4 : Hid (Below w.heap.size w z4.val) := Lib.hid ((((HZB.out.trans ((HCE.out y).mono (by omega))).trans (z2.tp.toBelow (by omega) (Nat.le_refl _))).trans (z4.tp.toBelow (by omega) (Nat.le_refl _)))); obtain ⟨lo, hh, hop⟩ := sch_open HS4.out hlt; obtain ⟨g', hsa', hgl4, hgm4, hgf4, hgc4⟩ := sp_row HS4.out hlt; obtain rfl : g = g' := (by simpa using hsa'); have r0 := hgf4 (i * 6 + 0); have c0 := hgc4 0 (by omega); simp only [Tb.cells, Sl.v, List.getElem?_cons_zero, Nat.add_zero] at c0 r0; clear hgc4 hgf4)))
  have hbw : w.heap.size < z4.val.heap.size := by omega
  have hbz : Z.heap.size < z4.val.heap.size := by omega
  have hgz : g ≠ Z.heap.size := fun e => by
    have h1 := HS2.out.1
    subst e
    exact own_ne_z h1 HK.out (by decide) _ rfl rfl
  have hbel : Below w.heap.size w (z4.val.setCell ⟨g, i * 6, none⟩ (.string s)) := Below.setCell HB4.out (by show w.heap.size ≤ g; omega) _
  obtain ⟨t', hTT, hck⟩ := chg_name (nm := s) hop hlt HSS.out
  have k6 : (z4.val.setCell ⟨g, i * 6, none⟩ (.string s)).heap[Z.heap.size]? = some (.cells #[.slice (some ⟨g, 0, none⟩) sn sc] 45) := set_ne HK4.out (fun e => hgz e.symm)
  have hck2 : ∀ j, j < sn → CkS (put tb i t' j) := fun j hj => by
    by_cases e : j = i
    · subst e
      rw [put_at]
      exact hck (cks_made (HG.out.2.2 j hj))
    · rw [show put tb i t' j = tb j from if_neg e]
      exact cks_made (HG.out.2.2 j hj)
  obtain ⟨v5, hv5, hv6⟩ := both_of hTT hck2 (HO.out.later hbel)
  have HV5 := Lib.hid hv5
  have HV6 := Lib.hid hv6
  have HBL := Lib.hid hbel
  have HK6 := Lib.hid k6
  clear hv5 hv6 hTT hck hck2 hbel k6
  generalize (z4.val.setCell ⟨g, i * 6, none⟩ (.string s)) = W5 at *
  obtain ⟨b6, f6, k6⟩ := one_z HK6.out
  have b7 : (v5 == v5) = true := by simp
  have HC5 : Hid (∀ y : Ext W5, Below W5.heap.size W5 y.val) := Lib.hid fun y => y.below
  refine wp_region_ext (by kernel_rfl) (by kernel_rfl) ?_
  repeat (go_big_quiet_step (first | (go_at_call 17; exact Cls.call (HV5.out _ (HC5.out _))) | (go_at_call 18; exact Cls.call (HV6.out _ (HC5.out _)))))
  refine wpQuiet_nil ?_
  rintro _ ⟨y5, rfl⟩
  go_wp2_with fail
  go_ret
  exact ⟨rfl, HBL.out.trans (y5.below.mono HBL.out.size)⟩
end Go.Proofs.YtpddkljedhghkaaDoor
set_option linter.unusedVariables false
namespace Go.Proofs.YtpddkljedhghkaaDoor
open Go Go.RowKit Go.Deep
set_option maxHeartbeats 16000000 in
set_option maxRecDepth 20000 in
theorem spoilt_1 (a : Option Addr) (len cap : Nat) (wh tt : Int) (s : ByteArray) (w : World) (hn : NumsAt w a len) (hwh : (Lit.int .i64 wh).wf = true) (htt : (Lit.int .i64 tt).wf = true) (hss : s.size ≤ maxLen) (ho : OpsTab w) (hq : bits BinOp.and IntKind.i64 wh 7 = 1) :
    Calls Tryd.prog 4 #[.slice a len cap, .int .i64 wh, .int .i64 tt, .string s] w fun r w' => r = .returned (.bool true) ∧ Below w.heap.size w w' := by
  have H := Lib.hid (tape_new (cap := cap) hn)
  have HO := Lib.hid ho
  have HWF := Lib.hid htt
  have HSS := Lib.hid hss
  have hm := hss
  unfold maxLen at hm
  have HBT : Hid (Below w.heap.size w (w.alloc (.cells #[.slice a len cap, .int .i64 0] 25))) := Lib.hid (by repeat first | with_reducible exact Below.refl _ _ | with_reducible refine Below.setCell ?_ (by first | omega | (simp; done) | (simp; omega)) _ | with_reducible refine Below.alloc ?_ (by first | omega | (simp; done) | (simp; omega)) _ | with_reducible refine Below.drew ?_ | with_reducible refine Ext.on _ ?_ (by first | omega | (simp; done) | (simp; omega)))
  clear hn ho hwh htt hss
  go_enter Tryd.func4, Tryd.ntmps4
  by_cases h40 : 40 < s.size
  · have d1 : decide ((40 : Int) < (s.size : Nat)) = true := by simp; omega
    go_wp2_with fail
    go_ret
    exact ⟨rfl, Below.refl _ _⟩
  have d1 : decide ((40 : Int) < (s.size : Nat)) = false := by simp; omega
  go_wp2_with (go_at_call 16; ((with_reducible refine (Schema_own w.heap.size 0 _ H.out (by omega)).mono ?_); rintro r w1 hq; obtain ⟨⟨sa, sn, sc⟩, tb, he, hg, hT, hO, z, rfl⟩ := hq; have he2 : r = .returned (.agg #[.slice sa sn sc]) := he; clear he; subst he2; have HOZ := Lib.hid ((HO.out.later HBT.out).tp z.tp (by have := HO.out.1; omega)); have HB := Lib.hid (both_of hT (fun j hj => cks_made (hg.2.2 j hj)) HOZ.out); have HG := Lib.hid hg; have HT := Lib.hid hT; have HSO := Lib.hid hO; have zs := z.size; simp at zs; have HZA := Lib.hid z.at_; have HZB := Lib.hid (HBT.out.trans (z.tp.toBelow (by simp) (Nat.le_refl _))); clear hg hT hO))
  have hsz1 : (w.alloc (.cells #[.slice a len cap, .int .i64 0] 25)).heap.size = w.heap.size + 1 := by simp
  rw [hsz1] at HSO
  generalize z.val = Z at *
  have HSB : Hid ((Z.alloc (.cells #[.slice sa sn sc] 45)).heap[Z.heap.size]? = some (.cells #[.slice sa sn sc] 45)) := Lib.hid (heap_alloc_new Z _)
  have HZW : Hid (Below Z.heap.size Z (Z.alloc (.cells #[.slice sa sn sc] 45))) := Lib.hid ((Below.refl _ _).alloc (Nat.le_refl _) _)
  have hzl : Z.heap.size < (Z.alloc (.cells #[.slice sa sn sc] 45)).heap.size := by simp
  generalize (Z.alloc (.cells #[.slice sa sn sc] 45)) = W2 at *
  obtain ⟨b2, f2, k2⟩ := one_z HSB.out
  obtain ⟨v, hv1, hv2⟩ := HB.out
  have HV1 := Lib.hid hv1
  have HV2 := Lib.hid hv2
  clear hv1 hv2 HB
  have b3 : (v == v) = true := by simp
  have b4 : (v != v) = false := by simp
  have HCE : Hid (∀ y : Ext W2, Below Z.heap.size Z y.val) := Lib.hid fun y => HZW.out.trans (y.below.mono (by omega))
  refine wp_region_ext (by kernel_rfl) (by kernel_rfl) ?_
  repeat (go_big_quiet_step (first | (go_at_call 17; exact Cls.call (HV1.out _ (HCE.out _))) | (go_at_call 18; exact Cls.call (HV2.out _ (HCE.out _)))))
  refine wpQuiet_nil ?_
  rintro _ ⟨y, rfl⟩
  obtain ⟨l1, l2, l3, l4, l5⟩ := y.lts hzl
  have ys := y.size
  have hn1 := HG.out.1
  have hn3 := HG.out.2.1
  simp only at hn1 hn3
  have hzt : w.heap.size < Z.heap.size := by omega
  go_wp2_with (first | (go_at_call 8; ((with_reducible refine (Next_calls w.heap.size 1000 _ _ (HZA.out.later (HCE.out y)) (by omega) (by omega) (by omega)).mono ?_); rintro e1 w1 hq; obtain ⟨i, rfl, hi, z2, rfl⟩ := hq; have hlt : i < sn := (by omega); have HK := Lib.hid ((z2.tp.block Z.heap.size (by omega) (by omega)).trans ((y.below.block _ (by omega)).trans HSB.out)); obtain ⟨b5, f5, k5⟩ := one_z HK.out; have HS2 := Lib.hid (schO_carry (W' := z2.val) HSO.out (fun b hb1 hb2 => (z2.tp.block b (by omega) (by omega)).trans ((HCE.out y).block b hb2)) (by have := z2.size; have := (HCE.out y).size; omega)); obtain ⟨g, hsa, hgl, hgm, hgf, hgc⟩ := sp_row HS2.out hlt; subst hsa; have q1 := hgc 1 (by omega); simp only [Tb.cells, Sl.v, List.getElem?_cons_zero, List.getElem?_cons_succ] at q1; have hsc : sn ≤ sc := HT.out.1.1; have hsm : sc ≤ 2 ^ 63 - 1 := (by have := HT.out.1.2.1; unfold maxLen at this; exact this); clear hgc hgf; obtain ⟨hc1, hc6, hu1, hf2, hks⟩ := made_cols (HG.out.2.2 i hlt))) | (go_at_call 8; ((with_reducible refine (Next_calls w.heap.size (1000 + 1) _ _ z2.at_ (by omega) (by omega) (by omega)).mono ?_); rintro e1 w1 hq; obtain ⟨c, rfl, hc, z4, rfl⟩ := hq; have hltc : c < (tb i).cs.len := (by omega); have z2s := z2.size; have hcs := (HCE.out y).size; have HK4 := Lib.hid ((z4.tp.block Z.heap.size (by omega) (by omega)).trans HK.out); have HS4 := Lib.hid (schO_carry (W' := z4.val) HS2.out (fun b hb1 hb2 => z4.tp.block b hb2 (by omega)) z4.size); have HO4 := Lib.hid ((HOZ.out.later (HCE.out y)).tp z2.tp (by have := HO.out.1; omega)); have HP4 := Lib.hid (HO4.out.tp z4.tp (by have := HO.out.1; omega)); have z4s := z4.size; have HB4 : Hid (Below w.heap.size w z4.val) := Lib.hid ((((HZB.out.trans ((HCE.out y).mono (by omega))).trans (z2.tp.toBelow (by omega) (Nat.le_refl _))).trans (z4.tp.toBelow (by omega) (Nat.le_refl _)))); obtain ⟨lo, hh, hop⟩ := sch_open HS4.out hlt; obtain ⟨g', hsa', hgl4, hgm4, hgf4, hgc4⟩ := sp_row HS4.out hlt; obtain rfl : g = g' := (by simpa using hsa'); have r1 := hgf4 (i * 6 + 1); have c1 := hgc4 1 (by omega); simp only [Tb.cells, Sl.v, List.getElem?_cons_zero, List.getElem?_cons_succ] at c1 r1; obtain ⟨gc, ccap, hcs2, hgg, hcown, hch⟩ := chg_col hop hlt hltc; have hca : (tb i).cs.a = some ⟨gc, 0, none⟩ := (by rw [hcs2]); have hcc : (tb i).cs.cap = ccap := (by rw [hcs2]); have hTI := hop.2.1.at_; have hcl := hTI.cols.1; have hcm := hTI.cols.2.1; have hcf := hTI.colf c hltc; unfold maxLen at hcm; clear hcs2; rw [hca, hcc] at c1; rw [hcc] at hcl hcm; have hcg := hcown.lt gc rfl; have hgc2 := hcg.2; have hfz := fun j => hcown.frozenAt j; have hcx := fun (f : Nat) (hf : f < 3) => (hcown.cellAt (c * 3 + f) (by omega)).trans (col_flat (tb i).col c hltc f hf); have x0 := hcx 0 (by omega); have y0 := hfz (c * 3 + 0); simp only [Cl.cells, List.getElem?_cons_zero, Nat.add_zero] at x0 y0; clear hgc4 hgf4; clear hcx hfz)))
  have hbw : w.heap.size < z4.val.heap.size := by omega
  have hbz : Z.heap.size < z4.val.heap.size := by omega
  have hgz : g ≠ Z.heap.size := fun e => by
    have h1 := HS2.out.1
    subst e
    exact own_ne_z h1 HK.out (by decide) _ rfl rfl
  have hbel : Below w.heap.size w (z4.val.setCell ⟨gc, c * 3, none⟩ (.string s)) := Below.setCell HB4.out (by have := hop.2.2.1; show w.heap.size ≤ gc; omega) _
  obtain ⟨t', hTT, hck⟩ := hch 0 ⟨s, ((tb i).col c).ty, ((tb i).col c).null⟩ (.string s) (by omega) rfl ⟨HSS.out, hcf.2⟩
  have k6 : (z4.val.setCell ⟨gc, c * 3, none⟩ (.string s)).heap[Z.heap.size]? = some (.cells #[.slice (some ⟨g, 0, none⟩) sn sc] 45) := set_ne HK4.out (fun e => own_ne_z hcown HK4.out (by decide) _ rfl e.symm)
  have hck2 : ∀ j, j < sn → CkS (put tb i t' j) := fun j hj => by
    by_cases e : j = i
    · subst e
      rw [put_at]
      exact hck (cks_made (HG.out.2.2 j hj))
    · rw [show put tb i t' j = tb j from if_neg e]
      exact cks_made (HG.out.2.2 j hj)
  obtain ⟨v5, hv5, hv6⟩ := both_of hTT hck2 (HO.out.later hbel)
  have HV5 := Lib.hid hv5
  have HV6 := Lib.hid hv6
  have HBL := Lib.hid hbel
  have HK6 := Lib.hid k6
  clear hv5 hv6 hTT hck hck2 hbel k6
  generalize z4.val.setCell ⟨gc, c * 3, none⟩ (.string s) = W5 at *
  obtain ⟨b6, f6, k6⟩ := one_z HK6.out
  have b7 : (v5 == v5) = true := by simp
  have HC5 : Hid (∀ y : Ext W5, Below W5.heap.size W5 y.val) := Lib.hid fun y => y.below
  refine wp_region_ext (by kernel_rfl) (by kernel_rfl) ?_
  repeat (go_big_quiet_step (first | (go_at_call 17; exact Cls.call (HV5.out _ (HC5.out _))) | (go_at_call 18; exact Cls.call (HV6.out _ (HC5.out _)))))
  refine wpQuiet_nil ?_
  rintro _ ⟨y5, rfl⟩
  go_wp2_with fail
  go_ret
  exact ⟨rfl, HBL.out.trans (y5.below.mono HBL.out.size)⟩
end Go.Proofs.YtpddkljedhghkaaDoor
set_option linter.unusedVariables false
namespace Go.Proofs.YtpddkljedhghkaaDoor
open Go Go.RowKit Go.Deep
set_option maxHeartbeats 16000000 in
set_option maxRecDepth 20000 in
theorem spoilt_2 (a : Option Addr) (len cap : Nat) (wh tt : Int) (s : ByteArray) (w : World) (hn : NumsAt w a len) (hwh : (Lit.int .i64 wh).wf = true) (htt : (Lit.int .i64 tt).wf = true) (hss : s.size ≤ maxLen) (ho : OpsTab w) (hq : bits BinOp.and IntKind.i64 wh 7 = 2) :
    Calls Tryd.prog 4 #[.slice a len cap, .int .i64 wh, .int .i64 tt, .string s] w fun r w' => r = .returned (.bool true) ∧ Below w.heap.size w w' := by
  have H := Lib.hid (tape_new (cap := cap) hn)
  have HO := Lib.hid ho
  have HWF := Lib.hid htt
  have HSS := Lib.hid hss
  have hm := hss
  unfold maxLen at hm
  have HBT : Hid (Below w.heap.size w (w.alloc (.cells #[.slice a len cap, .int .i64 0] 25))) := Lib.hid (by repeat first | with_reducible exact Below.refl _ _ | with_reducible refine Below.setCell ?_ (by first | omega | (simp; done) | (simp; omega)) _ | with_reducible refine Below.alloc ?_ (by first | omega | (simp; done) | (simp; omega)) _ | with_reducible refine Below.drew ?_ | with_reducible refine Ext.on _ ?_ (by first | omega | (simp; done) | (simp; omega)))
  clear hn ho hwh htt hss
  go_enter Tryd.func4, Tryd.ntmps4
  by_cases h40 : 40 < s.size
  · have d1 : decide ((40 : Int) < (s.size : Nat)) = true := by simp; omega
    go_wp2_with fail
    go_ret
    exact ⟨rfl, Below.refl _ _⟩
  have d1 : decide ((40 : Int) < (s.size : Nat)) = false := by simp; omega
  go_wp2_with (go_at_call 16; ((with_reducible refine (Schema_own w.heap.size 0 _ H.out (by omega)).mono ?_); rintro r w1 hq; obtain ⟨⟨sa, sn, sc⟩, tb, he, hg, hT, hO, z, rfl⟩ := hq; have he2 : r = .returned (.agg #[.slice sa sn sc]) := he; clear he; subst he2; have HOZ := Lib.hid ((HO.out.later HBT.out).tp z.tp (by have := HO.out.1; omega)); have HB := Lib.hid (both_of hT (fun j hj => cks_made (hg.2.2 j hj)) HOZ.out); have HG := Lib.hid hg; have HT := Lib.hid hT; have HSO := Lib.hid hO; have zs := z.size; simp at zs; have HZA := Lib.hid z.at_; have HZB := Lib.hid (HBT.out.trans (z.tp.toBelow (by simp) (Nat.le_refl _))); clear hg hT hO))
  have hsz1 : (w.alloc (.cells #[.slice a len cap, .int .i64 0] 25)).heap.size = w.heap.size + 1 := by simp
  rw [hsz1] at HSO
  generalize z.val = Z at *
  have HSB : Hid ((Z.alloc (.cells #[.slice sa sn sc] 45)).heap[Z.heap.size]? = some (.cells #[.slice sa sn sc] 45)) := Lib.hid (heap_alloc_new Z _)
  have HZW : Hid (Below Z.heap.size Z (Z.alloc (.cells #[.slice sa sn sc] 45))) := Lib.hid ((Below.refl _ _).alloc (Nat.le_refl _) _)
  have hzl : Z.heap.size < (Z.alloc (.cells #[.slice sa sn sc] 45)).heap.size := by simp
  generalize (Z.alloc (.cells #[.slice sa sn sc] 45)) = W2 at *
  obtain ⟨b2, f2, k2⟩ := one_z HSB.out
  obtain ⟨v, hv1, hv2⟩ := HB.out
  have HV1 := Lib.hid hv1
  have HV2 := Lib.hid hv2
  clear hv1 hv2 HB
  have b3 : (v == v) = true := by simp
  have b4 : (v != v) = false := by simp
  have HCE : Hid (∀ y : Ext W2, Below Z.heap.size Z y.val) := Lib.hid fun y => HZW.out.trans (y.below.mono (by omega))
  refine wp_region_ext (by kernel_rfl) (by kernel_rfl) ?_
  repeat (go_big_quiet_step (first | (go_at_call 17; exact Cls.call (HV1.out _ (HCE.out _))) | (go_at_call 18; exact Cls.call (HV2.out _ (HCE.out _)))))
  refine wpQuiet_nil ?_
  rintro _ ⟨y, rfl⟩
  obtain ⟨l1, l2, l3, l4, l5⟩ := y.lts hzl
  have ys := y.size
  have hn1 := HG.out.1
  have hn3 := HG.out.2.1
  simp only at hn1 hn3
  have hzt : w.heap.size < Z.heap.size := by omega
  go_wp2_with (first | (go_at_call 8; ((with_reducible refine (Next_calls w.heap.size 1000 _ _ (HZA.out.later (HCE.out y)) (by omega) (by omega) (by omega)).mono ?_); rintro e1 w1 hq; obtain ⟨i, rfl, hi, z2, rfl⟩ := hq; have hlt : i < sn := (by omega); have HK := Lib.hid ((z2.tp.block Z.heap.size (by omega) (by omega)).trans ((y.below.block _ (by omega)).trans HSB.out)); obtain ⟨b5, f5, k5⟩ := one_z HK.out; have HS2 := Lib.hid (schO_carry (W' := z2.val) HSO.out (fun b hb1 hb2 => (z2.tp.block b (by omega) (by omega)).trans ((HCE.out y).block b hb2)) (by have := z2.size; have := (HCE.out y).size; omega)); obtain ⟨g, hsa, hgl, hgm, hgf, hgc⟩ := sp_row HS2.out hlt; subst hsa; have q1 := hgc 1 (by omega); simp only [Tb.cells, Sl.v, List.getElem?_cons_zero, List.getElem?_cons_succ] at q1; have hsc : sn ≤ sc := HT.out.1.1; have hsm : sc ≤ 2 ^ 63 - 1 := (by have := HT.out.1.2.1; unfold maxLen at this; exact this); clear hgc hgf; obtain ⟨hc1, hc6, hu1, hf2, hks⟩ := made_cols (HG.out.2.2 i hlt))) | (go_at_call 8; ((with_reducible refine (Next_calls w.heap.size (1000 + 1) _ _ z2.at_ (by omega) (by omega) (by omega)).mono ?_); rintro e1 w1 hq; obtain ⟨c, rfl, hc, z4, rfl⟩ := hq; have hltc : c < (tb i).cs.len := (by omega); have z2s := z2.size; have hcs := (HCE.out y).size; have HK4 := Lib.hid ((z4.tp.block Z.heap.size (by omega) (by omega)).trans HK.out); have HS4 := Lib.hid (schO_carry (W' := z4.val) HS2.out (fun b hb1 hb2 => z4.tp.block b hb2 (by omega)) z4.size); have HO4 := Lib.hid ((HOZ.out.later (HCE.out y)).tp z2.tp (by have := HO.out.1; omega)); have HP4 := Lib.hid (HO4.out.tp z4.tp (by have := HO.out.1; omega)); have z4s := z4.size; have HB4 : Hid (Below w.heap.size w z4.val) := Lib.hid ((((HZB.out.trans ((HCE.out y).mono (by omega))).trans (z2.tp.toBelow (by omega) (Nat.le_refl _))).trans (z4.tp.toBelow (by omega) (Nat.le_refl _)))); obtain ⟨lo, hh, hop⟩ := sch_open HS4.out hlt; obtain ⟨g', hsa', hgl4, hgm4, hgf4, hgc4⟩ := sp_row HS4.out hlt; obtain rfl : g = g' := (by simpa using hsa'); have r1 := hgf4 (i * 6 + 1); have c1 := hgc4 1 (by omega); simp only [Tb.cells, Sl.v, List.getElem?_cons_zero, List.getElem?_cons_succ] at c1 r1; obtain ⟨gc, ccap, hcs2, hgg, hcown, hch⟩ := chg_col hop hlt hltc; have hca : (tb i).cs.a = some ⟨gc, 0, none⟩ := (by rw [hcs2]); have hcc : (tb i).cs.cap = ccap := (by rw [hcs2]); have hTI := hop.2.1.at_; have hcl := hTI.cols.1; have hcm := hTI.cols.2.1; have hcf := hTI.colf c hltc; unfold maxLen at hcm; clear hcs2; rw [hca, hcc] at c1; rw [hcc] at hcl hcm; have hcg := hcown.lt gc rfl; have hgc2 := hcg.2; have hfz := fun j => hcown.frozenAt j; have hcx := fun (f : Nat) (hf : f < 3) => (hcown.cellAt (c * 3 + f) (by omega)).trans (col_flat (tb i).col c hltc f hf); have x1 := hcx 1 (by omega); have y1 := hfz (c * 3 + 1); simp only [Cl.cells, List.getElem?_cons_zero, List.getElem?_cons_succ] at x1 y1; clear hgc4 hgf4; clear hcx hfz)))
  have hbw : w.heap.size < z4.val.heap.size := by omega
  have hbz : Z.heap.size < z4.val.heap.size := by omega
  have hgz : g ≠ Z.heap.size := fun e => by
    have h1 := HS2.out.1
    subst e
    exact own_ne_z h1 HK.out (by decide) _ rfl rfl
  have hbel : Below w.heap.size w (z4.val.setCell ⟨gc, c * 3 + 1, none⟩ (.int .i64 tt)) := Below.setCell HB4.out (by have := hop.2.2.1; show w.heap.size ≤ gc; omega) _
  obtain ⟨t', hTT, hck⟩ := hch 1 ⟨((tb i).col c).name, tt, ((tb i).col c).null⟩ (.int .i64 tt) (by omega) rfl ⟨hcf.1, HWF.out⟩
  have k6 : (z4.val.setCell ⟨gc, c * 3 + 1, none⟩ (.int .i64 tt)).heap[Z.heap.size]? = some (.cells #[.slice (some ⟨g, 0, none⟩) sn sc] 45) := set_ne HK4.out (fun e => own_ne_z hcown HK4.out (by decide) _ rfl e.symm)
  have hck2 : ∀ j, j < sn → CkS (put tb i t' j) := fun j hj => by
    by_cases e : j = i
    · subst e
      rw [put_at]
      exact hck (cks_made (HG.out.2.2 j hj))
    · rw [show put tb i t' j = tb j from if_neg e]
      exact cks_made (HG.out.2.2 j hj)
  obtain ⟨v5, hv5, hv6⟩ := both_of hTT hck2 (HO.out.later hbel)
  have HV5 := Lib.hid hv5
  have HV6 := Lib.hid hv6
  have HBL := Lib.hid hbel
  have HK6 := Lib.hid k6
  clear hv5 hv6 hTT hck hck2 hbel k6
  generalize z4.val.setCell ⟨gc, c * 3 + 1, none⟩ (.int .i64 tt) = W5 at *
  obtain ⟨b6, f6, k6⟩ := one_z HK6.out
  have b7 : (v5 == v5) = true := by simp
  have HC5 : Hid (∀ y : Ext W5, Below W5.heap.size W5 y.val) := Lib.hid fun y => y.below
  refine wp_region_ext (by kernel_rfl) (by kernel_rfl) ?_
  repeat (go_big_quiet_step (first | (go_at_call 17; exact Cls.call (HV5.out _ (HC5.out _))) | (go_at_call 18; exact Cls.call (HV6.out _ (HC5.out _)))))
  refine wpQuiet_nil ?_
  rintro _ ⟨y5, rfl⟩
  go_wp2_with fail
  go_ret
  exact ⟨rfl, HBL.out.trans (y5.below.mono HBL.out.size)⟩
end Go.Proofs.YtpddkljedhghkaaDoor
set_option linter.unusedVariables false
namespace Go.Proofs.YtpddkljedhghkaaDoor
open Go Go.RowKit Go.Deep
set_option maxHeartbeats 16000000 in
set_option maxRecDepth 20000 in
theorem spoilt_3 (a : Option Addr) (len cap : Nat) (wh tt : Int) (s : ByteArray) (w : World) (hn : NumsAt w a len) (hwh : (Lit.int .i64 wh).wf = true) (htt : (Lit.int .i64 tt).wf = true) (hss : s.size ≤ maxLen) (ho : OpsTab w) (hq : bits BinOp.and IntKind.i64 wh 7 = 3) :
    Calls Tryd.prog 4 #[.slice a len cap, .int .i64 wh, .int .i64 tt, .string s] w fun r w' => r = .returned (.bool true) ∧ Below w.heap.size w w' := by
  have H := Lib.hid (tape_new (cap := cap) hn)
  have HO := Lib.hid ho
  have HWF := Lib.hid htt
  have HSS := Lib.hid hss
  have hm := hss
  unfold maxLen at hm
  have HBT : Hid (Below w.heap.size w (w.alloc (.cells #[.slice a len cap, .int .i64 0] 25))) := Lib.hid (by repeat first | with_reducible exact Below.refl _ _ | with_reducible refine Below.setCell ?_ (by first | omega | (simp; done) | (simp; omega)) _ | with_reducible refine Below.alloc ?_ (by first | omega | (simp; done) | (simp; omega)) _ | with_reducible refine Below.drew ?_ | with_reducible refine Ext.on _ ?_ (by first | omega | (simp; done) | (simp; omega)))
  clear hn ho hwh htt hss
  go_enter Tryd.func4, Tryd.ntmps4
  by_cases h40 : 40 < s.size
  · have d1 : decide ((40 : Int) < (s.size : Nat)) = true := by simp; omega
    go_wp2_with fail
    go_ret
    exact ⟨rfl, Below.refl _ _⟩
  have d1 : decide ((40 : Int) < (s.size : Nat)) = false := by simp; omega
  go_wp2_with (go_at_call 16; ((with_reducible refine (Schema_own w.heap.size 0 _ H.out (by omega)).mono ?_); rintro r w1 hq; obtain ⟨⟨sa, sn, sc⟩, tb, he, hg, hT, hO, z, rfl⟩ := hq; have he2 : r = .returned (.agg #[.slice sa sn sc]) := he; clear he; subst he2; have HOZ := Lib.hid ((HO.out.later HBT.out).tp z.tp (by have := HO.out.1; omega)); have HB := Lib.hid (both_of hT (fun j hj => cks_made (hg.2.2 j hj)) HOZ.out); have HG := Lib.hid hg; have HT := Lib.hid hT; have HSO := Lib.hid hO; have zs := z.size; simp at zs; have HZA := Lib.hid z.at_; have HZB := Lib.hid (HBT.out.trans (z.tp.toBelow (by simp) (Nat.le_refl _))); clear hg hT hO))
  have hsz1 : (w.alloc (.cells #[.slice a len cap, .int .i64 0] 25)).heap.size = w.heap.size + 1 := by simp
  rw [hsz1] at HSO
  generalize z.val = Z at *
  have HSB : Hid ((Z.alloc (.cells #[.slice sa sn sc] 45)).heap[Z.heap.size]? = some (.cells #[.slice sa sn sc] 45)) := Lib.hid (heap_alloc_new Z _)
  have HZW : Hid (Below Z.heap.size Z (Z.alloc (.cells #[.slice sa sn sc] 45))) := Lib.hid ((Below.refl _ _).alloc (Nat.le_refl _) _)
  have hzl : Z.heap.size < (Z.alloc (.cells #[.slice sa sn sc] 45)).heap.size := by simp
  generalize (Z.alloc (.cells #[.slice sa sn sc] 45)) = W2 at *
  obtain ⟨b2, f2, k2⟩ := one_z HSB.out
  obtain ⟨v, hv1, hv2⟩ := HB.out
  have HV1 := Lib.hid hv1
  have HV2 := Lib.hid hv2
  clear hv1 hv2 HB
  have b3 : (v == v) = true := by simp
  have b4 : (v != v) = false := by simp
  have HCE : Hid (∀ y : Ext W2, Below Z.heap.size Z y.val) := Lib.hid fun y => HZW.out.trans (y.below.mono (by omega))
  refine wp_region_ext (by kernel_rfl) (by kernel_rfl) ?_
  repeat (go_big_quiet_step (first | (go_at_call 17; exact Cls.call (HV1.out _ (HCE.out _))) | (go_at_call 18; exact Cls.call (HV2.out _ (HCE.out _)))))
  refine wpQuiet_nil ?_
  rintro _ ⟨y, rfl⟩
  obtain ⟨l1, l2, l3, l4, l5⟩ := y.lts hzl
  have ys := y.size
  have hn1 := HG.out.1
  have hn3 := HG.out.2.1
  simp only at hn1 hn3
  have hzt : w.heap.size < Z.heap.size := by omega
  go_wp2_with (first | (go_at_call 8; ((with_reducible refine (Next_calls w.heap.size 1000 _ _ (HZA.out.later (HCE.out y)) (by omega) (by omega) (by omega)).mono ?_); rintro e1 w1 hq; obtain ⟨i, rfl, hi, z2, rfl⟩ := hq; have hlt : i < sn := (by omega); have HK := Lib.hid ((z2.tp.block Z.heap.size (by omega) (by omega)).trans ((y.below.block _ (by omega)).trans HSB.out)); obtain ⟨b5, f5, k5⟩ := one_z HK.out; have HS2 := Lib.hid (schO_carry (W' := z2.val) HSO.out (fun b hb1 hb2 => (z2.tp.block b (by omega) (by omega)).trans ((HCE.out y).block b hb2)) (by have := z2.size; have := (HCE.out y).size; omega)); obtain ⟨g, hsa, hgl, hgm, hgf, hgc⟩ := sp_row HS2.out hlt; subst hsa; have q1 := hgc 1 (by omega); simp only [Tb.cells, Sl.v, List.getElem?_cons_zero, List.getElem?_cons_succ] at q1; have hsc : sn ≤ sc := HT.out.1.1; have hsm : sc ≤ 2 ^ 63 - 1 := (by have := HT.out.1.2.1; unfold maxLen at this; exact this); clear hgc hgf; obtain ⟨hc1, hc6, hu1, hf2, hks⟩ := made_cols (HG.out.2.2 i hlt))) | (go_at_call 8; ((with_reducible refine (Next_calls w.heap.size (1000 + 1) _ _ z2.at_ (by omega) (by omega) (by omega)).mono ?_); rintro e1 w1 hq; obtain ⟨c, rfl, hc, z4, rfl⟩ := hq; have hltc : c < (tb i).cs.len := (by omega); have z2s := z2.size; have hcs := (HCE.out y).size; have HK4 := Lib.hid ((z4.tp.block Z.heap.size (by omega) (by omega)).trans HK.out); have HS4 := Lib.hid (schO_carry (W' := z4.val) HS2.out (fun b hb1 hb2 => z4.tp.block b hb2 (by omega)) z4.size); have HO4 := Lib.hid ((HOZ.out.later (HCE.out y)).tp z2.tp (by have := HO.out.1; omega)); have HP4 := Lib.hid (HO4.out.tp z4.tp (by have := HO.out.1; omega)); have z4s := z4.size; have HB4 : Hid (Below w.heap.size w z4.val) := Lib.hid ((((HZB.out.trans ((HCE.out y).mono (by omega))).trans (z2.tp.toBelow (by omega) (Nat.le_refl _))).trans (z4.tp.toBelow (by omega) (Nat.le_refl _)))); obtain ⟨lo, hh, hop⟩ := sch_open HS4.out hlt; obtain ⟨g', hsa', hgl4, hgm4, hgf4, hgc4⟩ := sp_row HS4.out hlt; obtain rfl : g = g' := (by simpa using hsa'); have r2 := hgf4 (i * 6 + 2); have c2 := hgc4 2 (by omega); simp only [Tb.cells, Sl.v, List.getElem?_cons_zero, List.getElem?_cons_succ] at c2 r2; clear hgc4 hgf4)))
  have hbw : w.heap.size < z4.val.heap.size := by omega
  have hbz : Z.heap.size < z4.val.heap.size := by omega
  have hgz : g ≠ Z.heap.size := fun e => by
    have h1 := HS2.out.1
    subst e
    exact own_ne_z h1 HK.out (by decide) _ rfl rfl
  have hbel : Below w.heap.size w ((z4.val.setCell ⟨g, i * 6 + 2, none⟩ (.slice (some ⟨z4.val.heap.size, 0, none⟩) 1 1)).alloc (.cells #[.int .i64 tt] 3)) := (Below.setCell HB4.out (by show w.heap.size ≤ g; omega) _).alloc (by simp [World.setCell]; omega) _
  obtain ⟨t', hTT, hck⟩ := chg_prim (c := tt) hop hlt
  rw [World.setCell_alloc_past _ _ _ _ hgl4] at hTT
  have k6 : ((z4.val.setCell ⟨g, i * 6 + 2, none⟩ (.slice (some ⟨z4.val.heap.size, 0, none⟩) 1 1)).alloc (.cells #[.int .i64 tt] 3)).heap[Z.heap.size]? = some (.cells #[.slice (some ⟨g, 0, none⟩) sn sc] 45) := (Below.heap_alloc _ _ _ (by simp [World.setCell]; omega)).trans (set_ne HK4.out (fun e => hgz e.symm))
  have hck2 : ∀ j, j < sn → CkS (put tb i t' j) := fun j hj => by
    by_cases e : j = i
    · subst e
      rw [put_at]
      exact hck (cks_made (HG.out.2.2 j hj))
    · rw [show put tb i t' j = tb j from if_neg e]
      exact cks_made (HG.out.2.2 j hj)
  obtain ⟨v5, hv5, hv6⟩ := both_of hTT hck2 (HO.out.later hbel)
  have HV5 := Lib.hid hv5
  have HV6 := Lib.hid hv6
  have HBL := Lib.hid hbel
  have HK6 := Lib.hid k6
  clear hv5 hv6 hTT hck hck2 hbel k6
  generalize (z4.val.setCell ⟨g, i * 6 + 2, none⟩ (.slice (some ⟨z4.val.heap.size, 0, none⟩) 1 1)).alloc (.cells #[.int .i64 tt] 3) = W5 at *
  obtain ⟨b6, f6, k6⟩ := one_z HK6.out
  have b7 : (v5 == v5) = true := by simp
  have HC5 : Hid (∀ y : Ext W5, Below W5.heap.size W5 y.val) := Lib.hid fun y => y.below
  refine wp_region_ext (by kernel_rfl) (by kernel_rfl) ?_
  repeat (go_big_quiet_step (first | (go_at_call 17; exact Cls.call (HV5.out _ (HC5.out _))) | (go_at_call 18; exact Cls.call (HV6.out _ (HC5.out _)))))
  refine wpQuiet_nil ?_
  rintro _ ⟨y5, rfl⟩
  go_wp2_with fail
  go_ret
  exact ⟨rfl, HBL.out.trans (y5.below.mono HBL.out.size)⟩
end Go.Proofs.YtpddkljedhghkaaDoor
