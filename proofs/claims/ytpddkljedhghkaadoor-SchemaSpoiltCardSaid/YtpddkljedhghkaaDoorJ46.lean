/-
  SchemaSpoilt: the change 4. SchemaSpoilt: the change 5. SchemaSpoilt: the change 6.
-/
import Derived.Test.YtpddkljedhghkaaDoorJ42
import Derived.Test.YtpddkljedhghkaaDoorJ43
import Derived.Test.YtpddkljedhghkaaDoorJ44
set_option linter.unusedVariables false
namespace Go.Proofs.YtpddkljedhghkaaDoor
open Go Go.RowKit Go.Deep
set_option maxHeartbeats 16000000 in
set_option maxRecDepth 20000 in
theorem spoilt_4 (a : Option Addr) (len cap : Nat) (wh tt : Int) (s : ByteArray) (w : World) (hn : NumsAt w a len) (hwh : (Lit.int .i64 wh).wf = true) (htt : (Lit.int .i64 tt).wf = true) (hss : s.size ≤ maxLen) (ho : OpsTab w) (hq : bits BinOp.and IntKind.i64 wh 7 = 4) :
    Calls Tryd.prog 4 #[.slice a len cap, .int .i64 wh, .int .i64 tt, .string s] w fun r w' => r = .returned (.bool true) ∧ Below w.heap.size w w' := by
  have H := Lib.hid (tape_new (cap := cap) hn)
  have HO := Lib.hid ho
  have HWF := Lib.hid htt
  have HSS := Lib.hid hss
  have hm := hss
  unfold maxLen at hm
  have HBT : Hid (Below w.heap.size w (w.alloc (.cells #[.slice a len cap, .int .i64 0] 25))) := Lib.hid (by repeat first | with_reducible exact Below.refl _ _ | with_reducible refine Below.setCell ?_ (by first | omega | (simp; done) | (simp; omega)) _ | with_reducible refine Below.alloc ?_ (by first | omega | (simp; done) | (simp; omega)) _ | with_reducible refine Below.drew ?_ | with_reducible refine Ext.on _ ?_ (by first | omega | (simp; done) | (simp; omega)))
  clear hn ho hwh htt hss
  go_enter Tryd.func4, Tryd.ntmps4
  by_cases h40 : 40 < s.size
  · have d1 : decide ((40 : Int) < (s.size : Nat)) = true := by simp; omega
    go_wp2_with fail
    go_ret
    exact ⟨rfl, Below.refl _ _⟩
  have d1 : decide ((40 : Int) < (s.size : Nat)) = false := by simp; omega
  go_wp2_with (go_at_call 16; ((with_reducible refine (Schema_own w.heap.size 0 _ H.out (by omega)).mono ?_); rintro r w1 hq; obtain ⟨⟨sa, sn, sc⟩, tb, he, hg, hT, hO, z, rfl⟩ := hq; have he2 : r = .returned (.agg #[.slice sa sn sc]) := he; clear he; subst he2; have HOZ := Lib.hid ((HO.out.later HBT.out).tp z.tp (by have := HO.out.1; omega)); have HB := Lib.hid (both_of hT (fun j hj => cks_made (hg.2.2 j hj)) HOZ.out); have HG := Lib.hid hg; have HT := Lib.hid hT; have HSO := Lib.hid hO; have zs := z.size; simp at zs; have HZA := Lib.hid z.at_; have HZB := Lib.hid (HBT.out.trans (z.tp.toBelow (by simp) (Nat.le_refl _))); clear hg hT hO))
  have hsz1 : (w.alloc (.cells #[.slice a len cap, .int .i64 0] 25)).heap.size = w.heap.size + 1 := by simp
  rw [hsz1] at HSO
  generalize z.val = Z at *
  have HSB : Hid ((Z.alloc (.cells #[.slice sa sn sc] 45)).heap[Z.heap.size]? = some (.cells #[.slice sa sn sc] 45)) := Lib.hid (heap_alloc_new Z _)
  have HZW : Hid (Below Z.heap.size Z (Z.alloc (.cells #[.slice sa sn sc] 45))) := Lib.hid ((Below.refl _ _).alloc (Nat.le_refl _) _)
  have hzl : Z.heap.size < (Z.alloc (.cells #[.slice sa sn sc] 45)).heap.size := by simp
  generalize (Z.alloc (.cells #[.slice sa sn sc] 45)) = W2 at *
  obtain ⟨b2, f2, k2⟩ := one_z HSB.out
  obtain ⟨v, hv1, hv2⟩ := HB.out
  have HV1 := Lib.hid hv1
  have HV2 := Lib.hid hv2
  clear hv1 hv2 HB
  have b3 : (v == v) = true := by simp
  have b4 : (v != v) = false := by simp
  have HCE : Hid (∀ y : Ext W2, Below Z.heap.size Z y.val) := Lib.hid fun y => HZW.out.trans (y.below.mono (by omega))
  refine wp_region_ext (by kernel_rfl) (by kernel_rfl) ?_
  repeat (go_big_quiet_step (first | (go_at_call 17; exact Cls.call (HV1.out _ (HCE.out _))) | (go_at_call 18; exact Cls.call (HV2.out _ (HCE.out _)))))
  refine wpQuiet_nil ?_
  rintro _ ⟨y, rfl⟩
  obtain ⟨l1, l2, l3, l4, l5⟩ := y.lts hzl
  have ys := y.size
  have hn1 := HG.out.1
  have hn3 := HG.out.2.1
  simp only at hn1 hn3
  have hzt : w.heap.size < Z.heap.size := by omega
  go_wp2_with (first | (go_at_call 8; ((with_reducible refine (Next_calls w.heap.size 1000 _ _ (HZA.out.later (HCE.out y)) (by omega) (by omega) (by omega)).mono ?_); rintro e1 w1 hq; obtain ⟨i, rfl, hi, z2, rfl⟩ := hq; have hlt : i < sn := (by omega); have HK := Lib.hid ((z2.tp.block Z.heap.size (by omega) (by omega)).trans ((y.below.block _ (by omega)).trans HSB.out)); obtain ⟨b5, f5, k5⟩ := one_z HK.out; have HS2 := Lib.hid (schO_carry (W' := z2.val) HSO.out (fun b hb1 hb2 => (z2.tp.block b (by omega) (by omega)).trans ((HCE.out y).block b hb2)) (by have := z2.size; have := (HCE.out y).size; omega)); obtain ⟨g, hsa, hgl, hgm, hgf, hgc⟩ := sp_row HS2.out hlt; subst hsa; have q1 := hgc 1 (by omega); simp only [Tb.cells, Sl.v, List.getElem?_cons_zero, List.getElem?_cons_succ] at q1; have hsc : sn ≤ sc := HT.out.1.1; have hsm : sc ≤ 2 ^ 63 - 1 := (by have := HT.out.1.2.1; unfold maxLen at this; exact this); clear hgc hgf; obtain ⟨hc1, hc6, hu1, hf2, hks⟩ := made_cols (HG.out.2.2 i hlt))))
  (with_reducible refine (Next_calls w.heap.size (1000 + 1) _ _ z2.at_ (by omega) (by omega) (by omega)).mono ?_); rintro e1 w1 hq; obtain ⟨c, rfl, hc, z4, rfl⟩ := hq; have hltc : c < (tb i).cs.len := (by omega); have z2s := z2.size; have hcs := (HCE.out y).size; have HK4 := Lib.hid ((z4.tp.block Z.heap.size (by omega) (by omega)).trans HK.out); have HS4 := Lib.hid (schO_carry (W' := z4.val) HS2.out (fun b hb1 hb2 => z4.tp.block b hb2 (by omega)) z4.size); have HO4 := Lib.hid ((HOZ.out.later (HCE.out y)).tp z2.tp (by have := HO.out.1; omega)); have HP4 := Lib.hid (HO4.out.tp z4.tp (by have := HO.out.1; omega)); have z4s := z4.size; have HB4 : Hid (Below w.heap.size w z4.val) := Lib.hid ((((HZB.out.trans ((HCE.out y).mono (by omega))).trans (z2.tp.toBelow (by omega) (Nat.le_refl _))).trans (z4.tp.toBelow (by omega) (Nat.le_refl _)))); obtain ⟨lo, hh, hop⟩ := sch_open HS4.out hlt; obtain ⟨g', hsa', hgl4, hgm4, hgf4, hgc4⟩ := sp_row HS4.out hlt; obtain rfl : g = g' := (by simpa using hsa'); have r4 := hgf4 (i * 6 + 4); have c4 := hgc4 4 (by omega); simp only [Tb.cells, Sl.v, List.getElem?_cons_zero, List.getElem?_cons_succ] at c4 r4; obtain ⟨xs, hfo, hch⟩ := chg_fk hop hlt; obtain ⟨cur, hgT⟩ := own_heap HS4.out.1; have HFO := Lib.hid hfo; have HCH := Lib.hid hch; have HGT := Lib.hid hgT; have HOP := Lib.hid hop; obtain ⟨i9, hk, hk0, hk1, hk2⟩ := info_parts infoFk; clear hfo hch hgT hop; clear hgc4 hgf4
  go_wp2_with (at_builtin; refine wpList_append_own_at _ rfl _ _ 51 rfl lo 57 i9 (.agg #[.slice none 0 0, .string ⟨#[]⟩]) 2 40 Tryd.underlying51 hk hk0 hk1 hk2 rfl (by decide) _ (tb i).fs.len xs rfl (own_later HFO.out (((Below.refl _ _).alloc (Nat.le_refl _) _).alloc (by simp) _)) ⟨z4.val.heap.size + 1, 0, none⟩ 1 1 [.slice (some ⟨z4.val.heap.size, 0, none⟩) 1 1, .string s] rfl rfl (cells_at_z _ _ _ _ (by simp)) (by intro u hu; simp at hu; rcases hu with rfl | rfl <;> rfl) (by unfold maxLen; omega) (by omega) (by have := HOP.out.2.2.2.1; have := (HFO.out); have hlo := HOP.out.2.1.2; obtain ⟨wr, xb, pb, nm, s1, s2, s3, s4, cl, ul, fl, rs, _, _, p1, p2, _, _, _, e6, p7, _⟩ := hlo; have := (Array.getElem?_eq_some_iff.1 p2).1; simp; omega) ?_; intro v6 w3 hown3 hg3 _ hat3; have hs3 := hg3.size; simp at hs3; have heq3 : w3.heap[g]? = z4.val.heap[g]? := ((hg3.block g (by simp; omega) (fun e => own_ne_z HFO.out HGT.out (by decide) _ e.symm rfl)).trans ((Below.heap_alloc _ _ _ (by simp; omega)).trans (Below.heap_alloc _ _ _ hgl4))); have c43 := (World.cell?_of_block (w := z4.val) (a := ⟨g, i * 6 + 4, none⟩) heq3).trans c4; have r43 := froz_of heq3 r4; have gl3 : g < w3.heap.size := (by omega); have HOW3 := Lib.hid hown3; have HG3 := Lib.hid hg3; have HA3 := Lib.hid hat3; obtain ⟨g6, cp6, hv6⟩ := own_slice_z hown3; subst hv6; clear hown3 hg3 hat3)
  have hbw : w.heap.size < z4.val.heap.size := by omega
  have hbz : Z.heap.size < z4.val.heap.size := by omega
  have hgz : g ≠ Z.heap.size := fun e => by
    have h1 := HS2.out.1
    subst e
    exact own_ne_z h1 HK.out (by decide) _ rfl rfl
  have hbel : Below w.heap.size w (w3.setCell ⟨g, i * 6 + 4, none⟩ (.slice (some ⟨g6, 0, none⟩) ((tb i).fs.len + 1) cp6)) := Below.setCell (Below.grown ((HB4.out.alloc (by omega) _).alloc (by simp; omega) _) HG3.out (by simp; omega) fun k hk => by have := (HFO.out.lt k hk).1; have := HOP.out.2.2.1; omega) (by show w.heap.size ≤ g; omega) _
  have hblk : ∀ b, b < z4.val.heap.size → (Value.slice (tb i).fs.a (tb i).fs.len (tb i).fs.cap).ownBlock ≠ some b → w3.heap[b]? = z4.val.heap[b]? := fun b hb hne => (HG3.out.block b (by simp; omega) (fun e => hne e.symm)).trans ((Below.heap_alloc _ _ _ (by simp; omega)).trans (Below.heap_alloc _ _ _ hb))
  have hbb : w3.heap[z4.val.heap.size]? = some (.cells #[.int .i64 (c : Nat)] 3) := (HG3.out.block _ (by first | (simp; done) | (simp; omega)) (fun e => by have := (HFO.out.lt _ e.symm).2; omega)).trans ((Below.heap_alloc _ _ _ (by first | (simp; done) | (simp; omega))).trans (heap_alloc_new _ _))
  obtain ⟨t', hTT, hck⟩ := HCH.out w3 z4.val.heap.size (c : Nat) s _ HSS.out HOW3.out hbb hblk (by omega)
  have k6 : (w3.setCell ⟨g, i * 6 + 4, none⟩ (.slice (some ⟨g6, 0, none⟩) ((tb i).fs.len + 1) cp6)).heap[Z.heap.size]? = some (.cells #[.slice (some ⟨g, 0, none⟩) sn sc] 45) := set_ne ((hblk _ hbz fun e => own_ne_z HFO.out HK4.out (by decide) _ e rfl).trans HK4.out) (fun e => hgz e.symm)
  have hck2 : ∀ j, j < sn → CkS (put tb i t' j) := fun j hj => by
    by_cases e : j = i
    · subst e
      rw [put_at]
      exact hck (cks_made (HG.out.2.2 j hj))
    · rw [show put tb i t' j = tb j from if_neg e]
      exact cks_made (HG.out.2.2 j hj)
  obtain ⟨v5, hv5, hv6⟩ := both_of hTT hck2 (HO.out.later hbel)
  have HV5 := Lib.hid hv5
  have HV6 := Lib.hid hv6
  have HBL := Lib.hid hbel
  have HK6 := Lib.hid k6
  clear hv5 hv6 hTT hck hck2 hbel k6
  generalize w3.setCell ⟨g, i * 6 + 4, none⟩ (.slice (some ⟨g6, 0, none⟩) ((tb i).fs.len + 1) cp6) = W5 at *
  obtain ⟨b6, f6, k6⟩ := one_z HK6.out
  have b7 : (v5 == v5) = true := by simp
  have HC5 : Hid (∀ y : Ext W5, Below W5.heap.size W5 y.val) := Lib.hid fun y => y.below
  refine wp_region_ext (by kernel_rfl) (by kernel_rfl) ?_
  repeat (go_big_quiet_step (first | (go_at_call 17; exact Cls.call (HV5.out _ (HC5.out _))) | (go_at_call 18; exact Cls.call (HV6.out _ (HC5.out _)))))
  refine wpQuiet_nil ?_
  rintro _ ⟨y5, rfl⟩
  go_wp2_with fail
  go_ret
  exact ⟨rfl, HBL.out.trans (y5.below.mono HBL.out.size)⟩
end Go.Proofs.YtpddkljedhghkaaDoor
set_option linter.unusedVariables false
namespace Go.Proofs.YtpddkljedhghkaaDoor
open Go Go.RowKit Go.Deep
set_option maxHeartbeats 16000000 in
set_option maxRecDepth 20000 in
theorem spoilt_5 (a : Option Addr) (len cap : Nat) (wh tt : Int) (s : ByteArray) (w : World) (hn : NumsAt w a len) (hwh : (Lit.int .i64 wh).wf = true) (htt : (Lit.int .i64 tt).wf = true) (hss : s.size ≤ maxLen) (ho : OpsTab w) (hq : bits BinOp.and IntKind.i64 wh 7 = 5) :
    Calls Tryd.prog 4 #[.slice a len cap, .int .i64 wh, .int .i64 tt, .string s] w fun r w' => r = .returned (.bool true) ∧ Below w.heap.size w w' := by
  have H := Lib.hid (tape_new (cap := cap) hn)
  have HO := Lib.hid ho
  have HWF := Lib.hid htt
  have HSS := Lib.hid hss
  have hm := hss
  unfold maxLen at hm
  have HBT : Hid (Below w.heap.size w (w.alloc (.cells #[.slice a len cap, .int .i64 0] 25))) := Lib.hid (by repeat first | with_reducible exact Below.refl _ _ | with_reducible refine Below.setCell ?_ (by first | omega | (simp; done) | (simp; omega)) _ | with_reducible refine Below.alloc ?_ (by first | omega | (simp; done) | (simp; omega)) _ | with_reducible refine Below.drew ?_ | with_reducible refine Ext.on _ ?_ (by first | omega | (simp; done) | (simp; omega)))
  clear hn ho hwh htt hss
  go_enter Tryd.func4, Tryd.ntmps4
  by_cases h40 : 40 < s.size
  · have d1 : decide ((40 : Int) < (s.size : Nat)) = true := by simp; omega
    go_wp2_with fail
    go_ret
    exact ⟨rfl, Below.refl _ _⟩
  have d1 : decide ((40 : Int) < (s.size : Nat)) = false := by simp; omega
  go_wp2_with (go_at_call 16; ((with_reducible refine (Schema_own w.heap.size 0 _ H.out (by omega)).mono ?_); rintro r w1 hq; obtain ⟨⟨sa, sn, sc⟩, tb, he, hg, hT, hO, z, rfl⟩ := hq; have he2 : r = .returned (.agg #[.slice sa sn sc]) := he; clear he; subst he2; have HOZ := Lib.hid ((HO.out.later HBT.out).tp z.tp (by have := HO.out.1; omega)); have HB := Lib.hid (both_of hT (fun j hj => cks_made (hg.2.2 j hj)) HOZ.out); have HG := Lib.hid hg; have HT := Lib.hid hT; have HSO := Lib.hid hO; have zs := z.size; simp at zs; have HZA := Lib.hid z.at_; have HZB := Lib.hid (HBT.out.trans (z.tp.toBelow (by simp) (Nat.le_refl _))); clear hg hT hO))
  have hsz1 : (w.alloc (.cells #[.slice a len cap, .int .i64 0] 25)).heap.size = w.heap.size + 1 := by simp
  rw [hsz1] at HSO
  generalize z.val = Z at *
  have HSB : Hid ((Z.alloc (.cells #[.slice sa sn sc] 45)).heap[Z.heap.size]? = some (.cells #[.slice sa sn sc] 45)) := Lib.hid (heap_alloc_new Z _)
  have HZW : Hid (Below Z.heap.size Z (Z.alloc (.cells #[.slice sa sn sc] 45))) := Lib.hid ((Below.refl _ _).alloc (Nat.le_refl _) _)
  have hzl : Z.heap.size < (Z.alloc (.cells #[.slice sa sn sc] 45)).heap.size := by simp
  generalize (Z.alloc (.cells #[.slice sa sn sc] 45)) = W2 at *
  obtain ⟨b2, f2, k2⟩ := one_z HSB.out
  obtain ⟨v, hv1, hv2⟩ := HB.out
  have HV1 := Lib.hid hv1
  have HV2 := Lib.hid hv2
  clear hv1 hv2 HB
  have b3 : (v == v) = true := by simp
  have b4 : (v != v) = false := by simp
  have HCE : Hid (∀ y : Ext W2, Below Z.heap.size Z y.val) := Lib.hid fun y => HZW.out.trans (y.below.mono (by omega))
  refine wp_region_ext (by kernel_rfl) (by kernel_rfl) ?_
  repeat (go_big_quiet_step (first | (go_at_call 17; exact Cls.call (HV1.out _ (HCE.out _))) | (go_at_call 18; exact Cls.call (HV2.out _ (HCE.out _)))))
  refine wpQuiet_nil ?_
  rintro _ ⟨y, rfl⟩
  obtain ⟨l1, l2, l3, l4, l5⟩ := y.lts hzl
  have ys := y.size
  have hn1 := HG.out.1
  have hn3 := HG.out.2.1
  simp only at hn1 hn3
  have hzt : w.heap.size < Z.heap.size := by omega
  go_wp2_with (first | (go_at_call 8; ((with_reducible refine (Next_calls w.heap.size 1000 _ _ (HZA.out.later (HCE.out y)) (by omega) (by omega) (by omega)).mono ?_); rintro e1 w1 hq; obtain ⟨i, rfl, hi, z2, rfl⟩ := hq; have hlt : i < sn := (by omega); have HK := Lib.hid ((z2.tp.block Z.heap.size (by omega) (by omega)).trans ((y.below.block _ (by omega)).trans HSB.out)); obtain ⟨b5, f5, k5⟩ := one_z HK.out; have HS2 := Lib.hid (schO_carry (W' := z2.val) HSO.out (fun b hb1 hb2 => (z2.tp.block b (by omega) (by omega)).trans ((HCE.out y).block b hb2)) (by have := z2.size; have := (HCE.out y).size; omega)); obtain ⟨g, hsa, hgl, hgm, hgf, hgc⟩ := sp_row HS2.out hlt; subst hsa; have q1 := hgc 1 (by omega); simp only [Tb.cells, Sl.v, List.getElem?_cons_zero, List.getElem?_cons_succ] at q1; have hsc : sn ≤ sc := HT.out.1.1; have hsm : sc ≤ 2 ^ 63 - 1 := (by have := HT.out.1.2.1; unfold maxLen at this; exact this); clear hgc hgf; obtain ⟨hc1, hc6, hu1, hf2, hks⟩ := made_cols (HG.out.2.2 i hlt))) | (go_at_call 8; ((with_reducible refine (Next_calls w.heap.size (1000 + 1) _ _ z2.at_ (by omega) (by omega) (by omega)).mono ?_); rintro e1 w1 hq; obtain ⟨c, rfl, hc, z4, rfl⟩ := hq; have hltc : c < (tb i).cs.len := (by omega); have z2s := z2.size; have hcs := (HCE.out y).size; have HK4 := Lib.hid ((z4.tp.block Z.heap.size (by omega) (by omega)).trans HK.out); have HS4 := Lib.hid (schO_carry (W' := z4.val) HS2.out (fun b hb1 hb2 => z4.tp.block b hb2 (by omega)) z4.size); have HO4 := Lib.hid ((HOZ.out.later (HCE.out y)).tp z2.tp (by have := HO.out.1; omega)); have HP4 := Lib.hid (HO4.out.tp z4.tp (by have := HO.out.1; omega)); have z4s := z4.size; have HB4 : Hid (Below w.heap.size w z4.val) := Lib.hid ((((HZB.out.trans ((HCE.out y).mono (by omega))).trans (z2.tp.toBelow (by omega) (Nat.le_refl _))).trans (z4.tp.toBelow (by omega) (Nat.le_refl _)))); obtain ⟨lo, hh, hop⟩ := sch_open HS4.out hlt; obtain ⟨g', hsa', hgl4, hgm4, hgf4, hgc4⟩ := sp_row HS4.out hlt; obtain rfl : g = g' := (by simpa using hsa'); have r1 := hgf4 (i * 6 + 1); have c1 := hgc4 1 (by omega); simp only [Tb.cells, Sl.v, List.getElem?_cons_zero, List.getElem?_cons_succ] at c1 r1; obtain ⟨gc, ccap, hcs2, hgg, hcown, hch⟩ := chg_col hop hlt hltc; have hca : (tb i).cs.a = some ⟨gc, 0, none⟩ := (by rw [hcs2]); have hcc : (tb i).cs.cap = ccap := (by rw [hcs2]); have hTI := hop.2.1.at_; have hcl := hTI.cols.1; have hcm := hTI.cols.2.1; have hcf := hTI.colf c hltc; unfold maxLen at hcm; clear hcs2; rw [hca, hcc] at c1; rw [hcc] at hcl hcm; have hcg := hcown.lt gc rfl; have hgc2 := hcg.2; have hfz := fun j => hcown.frozenAt j; have hcx := fun (f : Nat) (hf : f < 3) => (hcown.cellAt (c * 3 + f) (by omega)).trans (col_flat (tb i).col c hltc f hf); have x2 := hcx 2 (by omega); have y2 := hfz (c * 3 + 2); simp only [Cl.cells, List.getElem?_cons_zero, List.getElem?_cons_succ] at x2 y2; have HHC := Lib.hid hch; have HTI := Lib.hid hTI; have HCO := Lib.hid hcown; have HOP := Lib.hid hop; clear hch hTI hcown hop; clear hgc4 hgf4; clear hcx hfz)))
  have hbw : w.heap.size < z4.val.heap.size := by omega
  have hbz : Z.heap.size < z4.val.heap.size := by omega
  have hgz : g ≠ Z.heap.size := fun e => by
    have h1 := HS2.out.1
    subst e
    exact own_ne_z h1 HK.out (by decide) _ rfl rfl
  refine LN.wp_region_lin_in (C := fun w' => ∃ y : Ext z4.val, w' = y.val) (fun x => ⟨x, rfl⟩) (by kernel_rfl) (by kernel_rfl) ?_
  intro x0
  have x0s := x0.size
  obtain ⟨m1, m2, m3, m4, m5⟩ := x0.lts hgl4
  obtain ⟨m6, m7, m8, m9, m10⟩ := x0.lts hgc2
  repeat (refine LN.lin_calm rfl ?_; intro KK hKK; go_big_quiet_step (fail); refine wpQuiet_nil ?_; refine hKK _ ?_; clear hKK KK)
  refine LN.lin_free rfl ?_
  intro KK hKK
  go_wp2_with fail
  refine hKK _ _ (.inl trivial) ?_
  clear hKK KK
  refine LN.lin_nil ?_
  go_wp2_with fail
  have HS5 := schO_carry (W' := x0.val) HS4.out (fun b _ hb => x0.below.block b hb) x0.size
  obtain ⟨lo5, hh5, hop5⟩ := sch_open HS5 hlt
  obtain ⟨gc5, ccap5, hcs5, hgg5, hcown5, hch5⟩ := chg_col hop5 hlt hltc
  obtain rfl : gc = gc5 := by
    rw [hcs5] at hca
    simp only [Option.some.injEq, Addr.mk.injEq, and_true] at hca
    exact hca.symm
  have hbel : Below w.heap.size w (x0.val.setCell ⟨gc, c * 3 + 2, none⟩ (.bool (!((tb i).col c).null))) := Below.setCell (HB4.out.trans (x0.below.mono (by omega))) (by have := hop5.2.2.1; have := (hcown5.lt gc rfl).1; show w.heap.size ≤ gc; omega) _
  obtain ⟨t', hTT, hck⟩ := hch5 2 ⟨((tb i).col c).name, ((tb i).col c).ty, !((tb i).col c).null⟩ (.bool (!((tb i).col c).null)) (by omega) rfl ⟨hcf.1, hcf.2⟩
  clear hcs5 hch5
  have k6 : (x0.val.setCell ⟨gc, c * 3 + 2, none⟩ (.bool (!((tb i).col c).null))).heap[Z.heap.size]? = some (.cells #[.slice (some ⟨g, 0, none⟩) sn sc] 45) := set_ne ((x0.below.block _ hbz).trans HK4.out) (fun e => own_ne_z hcown5 ((x0.below.block _ hbz).trans HK4.out) (by decide) _ rfl e.symm)
  have hck2 : ∀ j, j < sn → CkS (put tb i t' j) := fun j hj => by
    by_cases e : j = i
    · subst e
      rw [put_at]
      exact hck (cks_made (HG.out.2.2 j hj))
    · rw [show put tb i t' j = tb j from if_neg e]
      exact cks_made (HG.out.2.2 j hj)
  obtain ⟨v5, hv5, hv6⟩ := both_of hTT hck2 (HO.out.later hbel)
  have HV5 := Lib.hid hv5
  have HV6 := Lib.hid hv6
  have HBL := Lib.hid hbel
  have HK6 := Lib.hid k6
  clear hv5 hv6 hTT hck hck2 hbel k6
  generalize x0.val.setCell ⟨gc, c * 3 + 2, none⟩ (.bool (!((tb i).col c).null)) = W5 at *
  obtain ⟨b6, f6, k6⟩ := one_z HK6.out
  have b7 : (v5 == v5) = true := by simp
  have HC5 : Hid (∀ y : Ext W5, Below W5.heap.size W5 y.val) := Lib.hid fun y => y.below
  refine wp_region_ext (by kernel_rfl) (by kernel_rfl) ?_
  repeat (go_big_quiet_step (first | (go_at_call 17; exact Cls.call (HV5.out _ (HC5.out _))) | (go_at_call 18; exact Cls.call (HV6.out _ (HC5.out _)))))
  refine wpQuiet_nil ?_
  rintro _ ⟨y5, rfl⟩
  go_wp2_with fail
  go_ret
  exact ⟨rfl, HBL.out.trans (y5.below.mono HBL.out.size)⟩
end Go.Proofs.YtpddkljedhghkaaDoor
set_option linter.unusedVariables false
namespace Go.Proofs.YtpddkljedhghkaaDoor
open Go Go.RowKit Go.Deep
set_option maxHeartbeats 16000000 in
set_option maxRecDepth 20000 in
theorem spoilt_6 (a : Option Addr) (len cap : Nat) (wh tt : Int) (s : ByteArray) (w : World) (hn : NumsAt w a len) (hwh : (Lit.int .i64 wh).wf = true) (htt : (Lit.int .i64 tt).wf = true) (hss : s.size ≤ maxLen) (ho : OpsTab w) (hq : bits BinOp.and IntKind.i64 wh 7 = 6) :
    Calls Tryd.prog 4 #[.slice a len cap, .int .i64 wh, .int .i64 tt, .string s] w fun r w' => r = .returned (.bool true) ∧ Below w.heap.size w w' := by
  have H := Lib.hid (tape_new (cap := cap) hn)
  have HO := Lib.hid ho
  have HWF := Lib.hid htt
  have HSS := Lib.hid hss
  have hm := hss
  unfold maxLen at hm
  have HBT : Hid (Below w.heap.size w (w.alloc (.cells #[.slice a len cap, .int .i64 0] 25))) := Lib.hid (by repeat first | with_reducible exact Below.refl _ _ | with_reducible refine Below.setCell ?_ (by first | omega | (simp; done) | (simp; omega)) _ | with_reducible refine Below.alloc ?_ (by first | omega | (simp; done) | (simp; omega)) _ | with_reducible refine Below.drew ?_ | with_reducible refine Ext.on _ ?_ (by first | omega | (simp; done) | (simp; omega)))
  clear hn ho hwh htt hss
  go_enter Tryd.func4, Tryd.ntmps4
  by_cases h40 : 40 < s.size
  · have d1 : decide ((40 : Int) < (s.size : Nat)) = true := by simp; omega
    go_wp2_with fail
    go_ret
    exact ⟨rfl, Below.refl _ _⟩
  have d1 : decide ((40 : Int) < (s.size : Nat)) = false := by simp; omega
  go_wp2_with (go_at_call 16; ((with_reducible refine (Schema_own w.heap.size 0 _ H.out (by omega)).mono ?_); rintro r w1 hq; obtain ⟨⟨sa, sn, sc⟩, tb, he, hg, hT, hO, z, rfl⟩ := hq; have he2 : r = .returned (.agg #[.slice sa sn sc]) := he; clear he; subst he2; have HOZ := Lib.hid ((HO.out.later HBT.out).tp z.tp (by have := HO.out.1; omega)); have HB := Lib.hid (both_of hT (fun j hj => cks_made (hg.2.2 j hj)) HOZ.out); have HG := Lib.hid hg; have HT := Lib.hid hT; have HSO := Lib.hid hO; have zs := z.size; simp at zs; have HZA := Lib.hid z.at_; have HZB := Lib.hid (HBT.out.trans (z.tp.toBelow (by simp) (Nat.le_refl _))); clear hg hT hO))
  have hsz1 : (w.alloc (.cells #[.slice a len cap, .int .i64 0] 25)).heap.size = w.heap.size + 1 := by simp
  rw [hsz1] at HSO
  generalize z.val = Z at *
  have HSB : Hid ((Z.alloc (.cells #[.slice sa sn sc] 45)).heap[Z.heap.size]? = some (.cells #[.slice sa sn sc] 45)) := Lib.hid (heap_alloc_new Z _)
  have HZW : Hid (Below Z.heap.size Z (Z.alloc (.cells #[.slice sa sn sc] 45))) := Lib.hid ((Below.refl _ _).alloc (Nat.le_refl _) _)
  have hzl : Z.heap.size < (Z.alloc (.cells #[.slice sa sn sc] 45)).heap.size := by simp
  generalize (Z.alloc (.cells #[.slice sa sn sc] 45)) = W2 at *
  obtain ⟨b2, f2, k2⟩ := one_z HSB.out
  obtain ⟨v, hv1, hv2⟩ := HB.out
  have HV1 := Lib.hid hv1
  have HV2 := Lib.hid hv2
  clear hv1 hv2 HB
  have b3 : (v == v) = true := by simp
  have b4 : (v != v) = false := by simp
  have HCE : Hid (∀ y : Ext W2, Below Z.heap.size Z y.val) := Lib.hid fun y => HZW.out.trans (y.below.mono (by omega))
  refine wp_region_ext (by kernel_rfl) (by kernel_rfl) ?_
  repeat (go_big_quiet_step (first | (go_at_call 17; exact Cls.call (HV1.out _ (HCE.out _))) | (go_at_call 18; exact Cls.call (HV2.out _ (HCE.out _)))))
  refine wpQuiet_nil ?_
  rintro _ ⟨y, rfl⟩
  obtain ⟨l1, l2, l3, l4, l5⟩ := y.lts hzl
  have ys := y.size
  have hn1 := HG.out.1
  have hn3 := HG.out.2.1
  simp only at hn1 hn3
  have hzt : w.heap.size < Z.heap.size := by omega
  go_wp2_with (first | (go_at_call 8; ((with_reducible refine (Next_calls w.heap.size 1000 _ _ (HZA.out.later (HCE.out y)) (by omega) (by omega) (by omega)).mono ?_); rintro e1 w1 hq; obtain ⟨i, rfl, hi, z2, rfl⟩ := hq; have hlt : i < sn := (by omega); have HK := Lib.hid ((z2.tp.block Z.heap.size (by omega) (by omega)).trans ((y.below.block _ (by omega)).trans HSB.out)); obtain ⟨b5, f5, k5⟩ := one_z HK.out; have HS2 := Lib.hid (schO_carry (W' := z2.val) HSO.out (fun b hb1 hb2 => (z2.tp.block b (by omega) (by omega)).trans ((HCE.out y).block b hb2)) (by have := z2.size; have := (HCE.out y).size; omega)); obtain ⟨g, hsa, hgl, hgm, hgf, hgc⟩ := sp_row HS2.out hlt; subst hsa; have q1 := hgc 1 (by omega); simp only [Tb.cells, Sl.v, List.getElem?_cons_zero, List.getElem?_cons_succ] at q1; have hsc : sn ≤ sc := HT.out.1.1; have hsm : sc ≤ 2 ^ 63 - 1 := (by have := HT.out.1.2.1; unfold maxLen at this; exact this); clear hgc hgf; obtain ⟨hc1, hc6, hu1, hf2, hks⟩ := made_cols (HG.out.2.2 i hlt))))
  (with_reducible refine (Next_calls w.heap.size (1000 + 1) _ _ z2.at_ (by omega) (by omega) (by omega)).mono ?_); rintro e1 w1 hq; obtain ⟨c, rfl, hc, z4, rfl⟩ := hq; have hltc : c < (tb i).cs.len := (by omega); have z2s := z2.size; have hcs := (HCE.out y).size; have HK4 := Lib.hid ((z4.tp.block Z.heap.size (by omega) (by omega)).trans HK.out); have HS4 := Lib.hid (schO_carry (W' := z4.val) HS2.out (fun b hb1 hb2 => z4.tp.block b hb2 (by omega)) z4.size); have HO4 := Lib.hid ((HOZ.out.later (HCE.out y)).tp z2.tp (by have := HO.out.1; omega)); have HP4 := Lib.hid (HO4.out.tp z4.tp (by have := HO.out.1; omega)); have z4s := z4.size; have HB4 : Hid (Below w.heap.size w z4.val) := Lib.hid ((((HZB.out.trans ((HCE.out y).mono (by omega))).trans (z2.tp.toBelow (by omega) (Nat.le_refl _))).trans (z4.tp.toBelow (by omega) (Nat.le_refl _)))); obtain ⟨lo, hh, hop⟩ := sch_open HS4.out hlt; obtain ⟨g', hsa', hgl4, hgm4, hgf4, hgc4⟩ := sp_row HS4.out hlt; obtain rfl : g = g' := (by simpa using hsa'); have r3 := hgf4 (i * 6 + 3); have c3 := hgc4 3 (by omega); simp only [Tb.cells, Sl.v, List.getElem?_cons_zero, List.getElem?_cons_succ] at c3 r3; obtain ⟨xs, hfo, hch⟩ := chg_uq hop hlt; obtain ⟨cur, hgT⟩ := own_heap HS4.out.1; have HFO := Lib.hid hfo; have HCH := Lib.hid hch; have HGT := Lib.hid hgT; have HOP := Lib.hid hop; obtain ⟨i9, hk, hk0, hk1, hk2⟩ := info_parts infoIs; clear hfo hch hgT hop; clear hgc4 hgf4
  go_wp2_with (at_builtin; refine wpList_append_own_at _ rfl _ _ 50 rfl lo 22 i9 (.slice none 0 0) 1 24 Tryd.underlying50 hk hk0 hk1 hk2 rfl (by decide) _ (tb i).us.len xs rfl (own_later HFO.out (((Below.refl _ _).alloc (Nat.le_refl _) _).alloc (by simp) _)) ⟨z4.val.heap.size + 1, 0, none⟩ 1 1 [.slice (some ⟨z4.val.heap.size, 0, none⟩) 2 2] rfl rfl (cells_at_z _ _ _ _ (by simp)) (by intro u hu; simp at hu; rcases hu with rfl; rfl) (by unfold maxLen; omega) (by omega) (by have := HOP.out.2.2.2.1; have := (HFO.out); have hlo := HOP.out.2.1.2; obtain ⟨wr, xb, pb, nm, s1, s2, s3, s4, cl, ul, fl, rs, _, _, p1, p2, _, _, _, e6, p7, _⟩ := hlo; have := (Array.getElem?_eq_some_iff.1 p2).1; simp; omega) ?_; intro v6 w3 hown3 hg3 _ hat3; have hs3 := hg3.size; simp at hs3; have heq3 : w3.heap[g]? = z4.val.heap[g]? := ((hg3.block g (by simp; omega) (fun e => own_ne_z HFO.out HGT.out (by decide) _ e.symm rfl)).trans ((Below.heap_alloc _ _ _ (by simp; omega)).trans (Below.heap_alloc _ _ _ hgl4))); have c33 := (World.cell?_of_block (w := z4.val) (a := ⟨g, i * 6 + 3, none⟩) heq3).trans c3; have r33 := froz_of heq3 r3; have gl3 : g < w3.heap.size := (by omega); have HOW3 := Lib.hid hown3; have HG3 := Lib.hid hg3; have HA3 := Lib.hid hat3; obtain ⟨g6, cp6, hv6⟩ := own_slice_z hown3; subst hv6; clear hown3 hg3 hat3)
  have hbw : w.heap.size < z4.val.heap.size := by omega
  have hbz : Z.heap.size < z4.val.heap.size := by omega
  have hgz : g ≠ Z.heap.size := fun e => by
    have h1 := HS2.out.1
    subst e
    exact own_ne_z h1 HK.out (by decide) _ rfl rfl
  have hbel : Below w.heap.size w (w3.setCell ⟨g, i * 6 + 3, none⟩ (.slice (some ⟨g6, 0, none⟩) ((tb i).us.len + 1) cp6)) := Below.setCell (Below.grown ((HB4.out.alloc (by omega) _).alloc (by simp; omega) _) HG3.out (by simp; omega) fun k hk => by have := (HFO.out.lt k hk).1; have := HOP.out.2.2.1; omega) (by show w.heap.size ≤ g; omega) _
  have hblk : ∀ b, b < z4.val.heap.size → (Value.slice (tb i).us.a (tb i).us.len (tb i).us.cap).ownBlock ≠ some b → w3.heap[b]? = z4.val.heap[b]? := fun b hb hne => (HG3.out.block b (by simp; omega) (fun e => hne e.symm)).trans ((Below.heap_alloc _ _ _ (by simp; omega)).trans (Below.heap_alloc _ _ _ hb))
  have hbb : w3.heap[z4.val.heap.size]? = some (.cells #[.int .i64 (c : Nat), .int .i64 tt] 3) := (HG3.out.block _ (by first | (simp; done) | (simp; omega)) (fun e => by have := (HFO.out.lt _ e.symm).2; omega)).trans ((Below.heap_alloc _ _ _ (by first | (simp; done) | (simp; omega))).trans (heap_alloc_new _ _))
  obtain ⟨t', hTT, hck⟩ := HCH.out w3 z4.val.heap.size (c : Nat) tt _ HOW3.out hbb hblk (by omega)
  have k6 : (w3.setCell ⟨g, i * 6 + 3, none⟩ (.slice (some ⟨g6, 0, none⟩) ((tb i).us.len + 1) cp6)).heap[Z.heap.size]? = some (.cells #[.slice (some ⟨g, 0, none⟩) sn sc] 45) := set_ne ((hblk _ hbz fun e => own_ne_z HFO.out HK4.out (by decide) _ e rfl).trans HK4.out) (fun e => hgz e.symm)
  have hck2 : ∀ j, j < sn → CkS (put tb i t' j) := fun j hj => by
    by_cases e : j = i
    · subst e
      rw [put_at]
      exact hck (cks_made (HG.out.2.2 j hj))
    · rw [show put tb i t' j = tb j from if_neg e]
      exact cks_made (HG.out.2.2 j hj)
  obtain ⟨v5, hv5, hv6⟩ := both_of hTT hck2 (HO.out.later hbel)
  have HV5 := Lib.hid hv5
  have HV6 := Lib.hid hv6
  have HBL := Lib.hid hbel
  have HK6 := Lib.hid k6
  clear hv5 hv6 hTT hck hck2 hbel k6
  generalize w3.setCell ⟨g, i * 6 + 3, none⟩ (.slice (some ⟨g6, 0, none⟩) ((tb i).us.len + 1) cp6) = W5 at *
  obtain ⟨b6, f6, k6⟩ := one_z HK6.out
  have b7 : (v5 == v5) = true := by simp
  have HC5 : Hid (∀ y : Ext W5, Below W5.heap.size W5 y.val) := Lib.hid fun y => y.below
  refine wp_region_ext (by kernel_rfl) (by kernel_rfl) ?_
  repeat (go_big_quiet_step (first | (go_at_call 17; exact Cls.call (HV5.out _ (HC5.out _))) | (go_at_call 18; exact Cls.call (HV6.out _ (HC5.out _)))))
  refine wpQuiet_nil ?_
  rintro _ ⟨y5, rfl⟩
  go_wp2_with fail
  go_ret
  exact ⟨rfl, HBL.out.trans (y5.below.mono HBL.out.size)⟩
end Go.Proofs.YtpddkljedhghkaaDoor
