/-
  SchemaSpoilt: the change 7. SchemaSpoilt: what the law does, whatever numbers it is given.
-/
import Derived.Test.YtpddkljedhghkaaDoorJ42
import Derived.Test.YtpddkljedhghkaaDoorJ43
import Derived.Test.YtpddkljedhghkaaDoorJ44
import Derived.Test.YtpddkljedhghkaaDoorJ45
import Derived.Test.YtpddkljedhghkaaDoorJ46
set_option linter.unusedVariables false
namespace Go.Proofs.YtpddkljedhghkaaDoor
open Go Go.RowKit Go.Deep
set_option maxHeartbeats 16000000 in
set_option maxRecDepth 20000 in
theorem spoilt_7 (a : Option Addr) (len cap : Nat) (wh tt : Int) (s : ByteArray) (w : World) (hn : NumsAt w a len) (hwh : (Lit.int .i64 wh).wf = true) (htt : (Lit.int .i64 tt).wf = true) (hss : s.size ≤ maxLen) (ho : OpsTab w) (q : Int) (hq : bits BinOp.and IntKind.i64 wh 7 = q) (e0 : (q == 0) = false) (e1 : (q == 1) = false) (e2 : (q == 2) = false) (e3 : (q == 3) = false) (e4 : (q == 4) = false) (e5 : (q == 5) = false) (e6 : (q == 6) = false) :
    Calls Tryd.prog 4 #[.slice a len cap, .int .i64 wh, .int .i64 tt, .string s] w fun r w' => r = .returned (.bool true) ∧ Below w.heap.size w w' := by
  have H := Lib.hid (tape_new (cap := cap) hn)
  have HO := Lib.hid ho
  have HWF := Lib.hid htt
  have HSS := Lib.hid hss
  have hm := hss
  unfold maxLen at hm
  have HBT : Hid (Below w.heap.size w (w.alloc (.cells #[.slice a len cap, .int .i64 0] 25))) := Lib.hid (by repeat first | with_reducible exact Below.refl _ _ | with_reducible refine Below.setCell ?_ (by first | omega | (simp; done) | (simp; omega)) _ | with_reducible refine Below.alloc ?_ (by first | omega | (simp; done) | (simp; omega)) _ | with_reducible refine Below.drew ?_ | with_reducible refine Ext.on _ ?_ (by first | omega | (simp; done) | (simp; omega)))
  clear hn ho hwh htt hss
  go_enter Tryd.func4, Tryd.ntmps4
  by_cases h40 : 40 < s.size
  · have d1 : decide ((40 : Int) < (s.size : Nat)) = true := by simp; omega
    go_wp2_with fail
    go_ret
    exact ⟨rfl, Below.refl _ _⟩
  have d1 : decide ((40 : Int) < (s.size : Nat)) = false := by simp; omega
  go_wp2_with (go_at_call 16; ((with_reducible refine (Schema_own w.heap.size 0 _ H.out (by omega)).mono ?_); rintro r w1 hq; obtain ⟨⟨sa, sn, sc⟩, tb, he, hg, hT, hO, z, rfl⟩ := hq; have he2 : r = .returned (.agg #[.slice sa sn sc]) := he; clear he; subst he2; have HOZ := Lib.hid ((HO.out.later HBT.out).tp z.tp (by have := HO.out.1; omega)); have HB := Lib.hid (both_of hT (fun j hj => cks_made (hg.2.2 j hj)) HOZ.out); have HG := Lib.hid hg; have HT := Lib.hid hT; have HSO := Lib.hid hO; have zs := z.size; simp at zs; have HZA := Lib.hid z.at_; have HZB := Lib.hid (HBT.out.trans (z.tp.toBelow (by simp) (Nat.le_refl _))); clear hg hT hO))
  have hsz1 : (w.alloc (.cells #[.slice a len cap, .int .i64 0] 25)).heap.size = w.heap.size + 1 := by simp
  rw [hsz1] at HSO
  generalize z.val = Z at *
  have HSB : Hid ((Z.alloc (.cells #[.slice sa sn sc] 45)).heap[Z.heap.size]? = some (.cells #[.slice sa sn sc] 45)) := Lib.hid (heap_alloc_new Z _)
  have HZW : Hid (Below Z.heap.size Z (Z.alloc (.cells #[.slice sa sn sc] 45))) := Lib.hid ((Below.refl _ _).alloc (Nat.le_refl _) _)
  have hzl : Z.heap.size < (Z.alloc (.cells #[.slice sa sn sc] 45)).heap.size := by simp
  generalize (Z.alloc (.cells #[.slice sa sn sc] 45)) = W2 at *
  obtain ⟨b2, f2, k2⟩ := one_z HSB.out
  obtain ⟨v, hv1, hv2⟩ := HB.out
  have HV1 := Lib.hid hv1
  have HV2 := Lib.hid hv2
  clear hv1 hv2 HB
  have b3 : (v == v) = true := by simp
  have b4 : (v != v) = false := by simp
  have HCE : Hid (∀ y : Ext W2, Below Z.heap.size Z y.val) := Lib.hid fun y => HZW.out.trans (y.below.mono (by omega))
  refine wp_region_ext (by kernel_rfl) (by kernel_rfl) ?_
  repeat (go_big_quiet_step (first | (go_at_call 17; exact Cls.call (HV1.out _ (HCE.out _))) | (go_at_call 18; exact Cls.call (HV2.out _ (HCE.out _)))))
  refine wpQuiet_nil ?_
  rintro _ ⟨y, rfl⟩
  obtain ⟨l1, l2, l3, l4, l5⟩ := y.lts hzl
  have ys := y.size
  have hn1 := HG.out.1
  have hn3 := HG.out.2.1
  simp only at hn1 hn3
  have hzt : w.heap.size < Z.heap.size := by omega
  go_wp2_with (first | (go_at_call 8; ((with_reducible refine (Next_calls w.heap.size 1000 _ _ (HZA.out.later (HCE.out y)) (by omega) (by omega) (by omega)).mono ?_); rintro e1 w1 hq; obtain ⟨i, rfl, hi, z2, rfl⟩ := hq; have hlt : i < sn := (by omega); have HK := Lib.hid ((z2.tp.block Z.heap.size (by omega) (by omega)).trans ((y.below.block _ (by omega)).trans HSB.out)); obtain ⟨b5, f5, k5⟩ := one_z HK.out; have HS2 := Lib.hid (schO_carry (W' := z2.val) HSO.out (fun b hb1 hb2 => (z2.tp.block b (by omega) (by omega)).trans ((HCE.out y).block b hb2)) (by have := z2.size; have := (HCE.out y).size; omega)); obtain ⟨g, hsa, hgl, hgm, hgf, hgc⟩ := sp_row HS2.out hlt; subst hsa; have q1 := hgc 1 (by omega); simp only [Tb.cells, Sl.v, List.getElem?_cons_zero, List.getElem?_cons_succ] at q1; have hsc : sn ≤ sc := HT.out.1.1; have hsm : sc ≤ 2 ^ 63 - 1 := (by have := HT.out.1.2.1; unfold maxLen at this; exact this); clear hgc hgf; obtain ⟨hc1, hc6, hu1, hf2, hks⟩ := made_cols (HG.out.2.2 i hlt))) | (go_at_call 8; ((with_reducible refine (Next_calls w.heap.size (1000 + 1) _ _ z2.at_ (by omega) (by omega) (by omega)).mono ?_); rintro e1 w1 hq; obtain ⟨c, rfl, hc, z4, rfl⟩ := hq; have hltc : c < (tb i).cs.len := (by omega); have z2s := z2.size; have hcs := (HCE.out y).size; have HK4 := Lib.hid ((z4.tp.block Z.heap.size (by omega) (by omega)).trans HK.out); have HS4 := Lib.hid (schO_carry (W' := z4.val) HS2.out (fun b hb1 hb2 => z4.tp.block b hb2 (by omega)) z4.size); have HO4 := Lib.hid ((HOZ.out.later (HCE.out y)).tp z2.tp (by have := HO.out.1; omega)); have HP4 := Lib.hid (HO4.out.tp z4.tp (by have := HO.out.1; omega)); have z4s := z4.size; have HB4 : Hid (Below w.heap.size w z4.val) := Lib.hid ((((HZB.out.trans ((HCE.out y).mono (by omega))).trans (z2.tp.toBelow (by omega) (Nat.le_refl _))).trans (z4.tp.toBelow (by omega) (Nat.le_refl _)))); obtain ⟨lo, hh, hop⟩ := sch_open HS4.out hlt; obtain ⟨g', hsa', hgl4, hgm4, hgf4, hgc4⟩ := sp_row HS4.out hlt; obtain rfl : g = g' := (by simpa using hsa'); have r5 := hgf4 (i * 6 + 5); have c5 := hgc4 5 (by omega); simp only [Tb.cells, Sl.v, List.getElem?_cons_zero, List.getElem?_cons_succ] at c5 r5; clear hgc4 hgf4)))
  have hbw : w.heap.size < z4.val.heap.size := by omega
  have hbz : Z.heap.size < z4.val.heap.size := by omega
  have hgz : g ≠ Z.heap.size := fun e => by
    have h1 := HS2.out.1
    subst e
    exact own_ne_z h1 HK.out (by decide) _ rfl rfl
  refine LN.LR.wp_region_rival 9 10 (C := fun w' => ∃ y : Kept g z4.val, w' = y.val) (fun x => kept_start hgl4 x) (by kernel_rfl) (by kernel_rfl) ?_
  intro x0
  change LN.LR.lexB _ _ _ _ _ _ [0, 1, 2, 3, 4, 5, 6, 7, 8, 9, 10, 11, 12, 13] _ _
  have x0s := x0.size
  have HS5 := Lib.hid (schO_carry (W' := x0.val) HS4.out (fun b _ hb => x0.below.block b hb) x0.size)
  obtain ⟨lo5, hh5, hop5⟩ := sch_open HS5.out hlt
  obtain ⟨xs, hfo, hch⟩ := chg_ck hop5 hlt
  obtain ⟨cur, hgT⟩ := own_heap HS5.out.1
  have hlx : lo5 ≤ x0.val.heap.size := by
    obtain ⟨wr, xb, pb, nm, s1, s2, s3, s4, cl, ul, fl, rs, _, _, p1, p2, _, _, _, e6, p7, _⟩ := hop5.2.1.2
    have := (Array.getElem?_eq_some_iff.1 p2).1
    omega
  have hlw : w.heap.size ≤ lo5 := by have := hop5.2.2.1; omega
  have HFO := Lib.hid hfo
  have HCH := Lib.hid hch
  have HGT := Lib.hid hgT
  obtain ⟨i9, hk, hk0, hk1, hk2⟩ := info_parts infoEx
  clear hfo hch hgT hop5 hop
  repeat (refine LN.LR.lexB_lo rfl (by decide) rfl (by decide) ?_; intro KK hKK; go_big_quiet_step (fail); refine wpQuiet_nil ?_; refine hKK _ ?_; clear hKK KK)
  refine LN.LR.lexB_free_l rfl (by decide) rfl ?_
  intro KK hKK
  go_wp2_with fail
  refine hKK _ _ (.inr ⟨⟨_, (Below.heap_alloc _ _ _ (by omega)).trans (x0.below.block g hgl4)⟩, rfl⟩) ?_
  clear hKK KK
  refine LN.LR.lexB_free_l rfl (by decide) rfl ?_
  intro KK hKK
  go_wp2_with (at_builtin; refine wpList_append_own_at _ rfl _ _ 28 rfl lo5 30 i9 (.agg #[.int .i64 0, .int .i64 0, .int .i64 0, .string ⟨#[]⟩, .int .i64 0, .slice none 0 0]) 6 72 Tryd.underlying28 hk hk0 hk1 hk2 rfl (by decide) _ (tb i).ks.len xs rfl (own_later HFO.out ((Below.refl _ _).alloc (Nat.le_refl _) _)) ⟨x0.val.heap.size, 0, none⟩ 1 1 [.int .i64 0, .int .i64 0, .int .i64 0, .string ⟨#[]⟩, .int .i64 0, .slice none 0 0] rfl rfl (cells_at_z _ _ _ _ rfl) (by intro u hu; simp at hu; rcases hu with rfl | rfl | rfl | rfl | rfl | rfl <;> rfl) (by unfold maxLen; omega) (by omega) (by simp; omega) ?_; intro v6 w3 hown3 hg3 _ hat3; have hs3 := hg3.size; simp at hs3; have heq3 : w3.heap[g]? = z4.val.heap[g]? := ((hg3.block g (by simp; omega) (fun e => own_ne_z HFO.out HGT.out (by decide) _ e.symm rfl)).trans ((Below.heap_alloc _ _ _ (by omega)).trans (x0.below.block g hgl4))); have gl3 : g < w3.heap.size := (by omega); have HOW3 := Lib.hid hown3; have HG3 := Lib.hid hg3; have HA3 := Lib.hid hat3; have hex6 := own_slice_z hown3; clear hown3 hg3 hat3)
  refine hKK _ _ (.inr ⟨⟨_, heq3⟩, rfl⟩) ?_
  clear hKK KK
  obtain ⟨g6, cp6, hv6⟩ := hex6
  subst hv6
  have hxl : xs.length = (tb i).ks.len * 6 := HFO.out.1
  have hfz6 := fun j => HOW3.out.frozenAt j
  have hcx6 := fun (k : Nat) (hk : k < 6) => (HOW3.out.cellAt ((tb i).ks.len * 6 + k) (by omega)).trans ((List.getElem?_append_right (by omega)).trans (by rw [hxl, show (tb i).ks.len * 6 + k - (tb i).ks.len * 6 = k by omega]))
  have a0 := hcx6 0 (by omega)
  have b0' := hfz6 ((tb i).ks.len * 6)
  have a1 := hcx6 1 (by omega)
  have b1' := hfz6 ((tb i).ks.len * 6 + 1)
  have a2 := hcx6 2 (by omega)
  have b2' := hfz6 ((tb i).ks.len * 6 + 2)
  have a3 := hcx6 3 (by omega)
  have b3' := hfz6 ((tb i).ks.len * 6 + 3)
  have a4 := hcx6 4 (by omega)
  have b4' := hfz6 ((tb i).ks.len * 6 + 4)
  have a5 := hcx6 5 (by omega)
  have b5' := hfz6 ((tb i).ks.len * 6 + 5)
  simp only [List.getElem?_cons_zero, List.getElem?_cons_succ, Nat.add_zero] at a0 a1 a2 a3 a4 a5
  have hg6l := (HOW3.out.lt g6 rfl).2
  have hcp6 : (tb i).ks.len + 1 ≤ cp6 ∧ cp6 ≤ 2 ^ 63 - 1 := by
    rcases HOW3.out.2 with ⟨h', _⟩ | ⟨g', cap', cur', h', _, _, h7, h8, _⟩
    · simp at h'
    · simp only [Value.slice.injEq, Option.some.injEq, Addr.mk.injEq, and_true, true_and] at h'
      obtain ⟨rfl, rfl⟩ := h'
      unfold maxLen at h8
      exact ⟨h7, h8⟩
  obtain ⟨hcp1, hcp2⟩ := hcp6
  clear hcx6 hfz6
  have hgg6 : g ≠ g6 := fun e => own_ne_z HOW3.out (heq3.trans ((x0.below.block g hgl4).symm.trans HGT.out)) (by decide) _ rfl e.symm
  have hgg7 := hgg6.symm
  have c53 := (World.cell?_of_block (w := z4.val) (a := ⟨g, i * 6 + 5, none⟩) heq3).trans c5
  have r53 := froz_of heq3 r5
  have heq6 : ((((((w3.setCell ⟨g6, (tb i).ks.len * 6, none⟩ (.int .i64 5)).setCell ⟨g6, (tb i).ks.len * 6 + 1, none⟩ (.int .i64 0)).setCell ⟨g6, (tb i).ks.len * 6 + 2, none⟩ (.int .i64 0)).setCell ⟨g6, (tb i).ks.len * 6 + 3, none⟩ (.string ⟨#[]⟩)).setCell ⟨g6, (tb i).ks.len * 6 + 4, none⟩ (.int .i64 tt)).setCell ⟨g6, (tb i).ks.len * 6 + 5, none⟩ (.slice none 0 0)).heap[g]? = z4.val.heap[g]? := (Below.heap_setCell _ _ _ _ hgg6).trans ((Below.heap_setCell _ _ _ _ hgg6).trans ((Below.heap_setCell _ _ _ _ hgg6).trans ((Below.heap_setCell _ _ _ _ hgg6).trans ((Below.heap_setCell _ _ _ _ hgg6).trans ((Below.heap_setCell _ _ _ _ hgg6).trans heq3)))))
  have hown6 : ((((((w3.setCell ⟨g6, (tb i).ks.len * 6, none⟩ (.int .i64 5)).setCell ⟨g6, (tb i).ks.len * 6 + 1, none⟩ (.int .i64 0)).setCell ⟨g6, (tb i).ks.len * 6 + 2, none⟩ (.int .i64 0)).setCell ⟨g6, (tb i).ks.len * 6 + 3, none⟩ (.string ⟨#[]⟩)).setCell ⟨g6, (tb i).ks.len * 6 + 4, none⟩ (.int .i64 tt)).setCell ⟨g6, (tb i).ks.len * 6 + 5, none⟩ (.slice none 0 0)).ownsRow lo5 30 6 (.slice (some ⟨g6, 0, none⟩) ((tb i).ks.len + 1) cp6) ((tb i).ks.len + 1) (xs ++ [.int .i64 5, .int .i64 0, .int .i64 0, .string ⟨#[]⟩, .int .i64 tt, .slice none 0 0]) := by
    have h6 := (((((((HOW3.out.stored ((tb i).ks.len * 6) (.int .i64 5)).1.stored ((tb i).ks.len * 6 + 1) (.int .i64 0)).1.stored ((tb i).ks.len * 6 + 2) (.int .i64 0)).1.stored ((tb i).ks.len * 6 + 3) (.string ⟨#[]⟩)).1.stored ((tb i).ks.len * 6 + 4) (.int .i64 tt)).1.stored ((tb i).ks.len * 6 + 5) (.slice none 0 0)).1)
    have e : ∀ (k : Nat) (l : List Value) (u : Value), (xs ++ l).set ((tb i).ks.len * 6 + k) u = xs ++ l.set k u := fun k l u => by
      rw [List.set_append_right _ _ (by omega), hxl, show (tb i).ks.len * 6 + k - (tb i).ks.len * 6 = k by omega]
    have e0 := e 0
    rw [Nat.add_zero] at e0
    rw [e0, e 1, e 2, e 3, e 4, e 5] at h6
    exact h6
  have hsz6 : ((((((w3.setCell ⟨g6, (tb i).ks.len * 6, none⟩ (.int .i64 5)).setCell ⟨g6, (tb i).ks.len * 6 + 1, none⟩ (.int .i64 0)).setCell ⟨g6, (tb i).ks.len * 6 + 2, none⟩ (.int .i64 0)).setCell ⟨g6, (tb i).ks.len * 6 + 3, none⟩ (.string ⟨#[]⟩)).setCell ⟨g6, (tb i).ks.len * 6 + 4, none⟩ (.int .i64 tt)).setCell ⟨g6, (tb i).ks.len * 6 + 5, none⟩ (.slice none 0 0)).heap.size = w3.heap.size := by simp [World.setCell]
  have hg6b : ∀ b, b < x0.val.heap.size → (Value.slice (tb i).ks.a (tb i).ks.len (tb i).ks.cap).ownBlock ≠ some b → b ≠ g6 := fun b hb hne e => by
    rcases HA3.out with h | h
    · exact hne (h.symm.trans (by rw [e]; rfl))
    · have : g6 = x0.val.heap.size + 1 := by simpa [Value.ownBlock] using h
      omega
  have hblk3 : ∀ b, b < x0.val.heap.size → (Value.slice (tb i).ks.a (tb i).ks.len (tb i).ks.cap).ownBlock ≠ some b → w3.heap[b]? = x0.val.heap[b]? := fun b hb hne => (HG3.out.block b (by simp; omega) (fun e => hne e.symm)).trans (Below.heap_alloc _ _ _ hb)
  have hblk6 : ∀ b, b < x0.val.heap.size → (Value.slice (tb i).ks.a (tb i).ks.len (tb i).ks.cap).ownBlock ≠ some b → ((((((w3.setCell ⟨g6, (tb i).ks.len * 6, none⟩ (.int .i64 5)).setCell ⟨g6, (tb i).ks.len * 6 + 1, none⟩ (.int .i64 0)).setCell ⟨g6, (tb i).ks.len * 6 + 2, none⟩ (.int .i64 0)).setCell ⟨g6, (tb i).ks.len * 6 + 3, none⟩ (.string ⟨#[]⟩)).setCell ⟨g6, (tb i).ks.len * 6 + 4, none⟩ (.int .i64 tt)).setCell ⟨g6, (tb i).ks.len * 6 + 5, none⟩ (.slice none 0 0)).heap[b]? = x0.val.heap[b]? := fun b hb hne => by
    have h := hg6b b hb hne
    exact (Below.heap_setCell _ _ _ _ h).trans ((Below.heap_setCell _ _ _ _ h).trans ((Below.heap_setCell _ _ _ _ h).trans ((Below.heap_setCell _ _ _ _ h).trans ((Below.heap_setCell _ _ _ _ h).trans ((Below.heap_setCell _ _ _ _ h).trans (hblk3 b hb hne))))))
  have hat6 : ∀ k, (Value.slice (some ⟨g6, 0, none⟩) ((tb i).ks.len + 1) cp6).ownBlock = some k → (Value.slice (tb i).ks.a (tb i).ks.len (tb i).ks.cap).ownBlock = some k ∨ x0.val.heap.size ≤ k := fun k hk => by
    rcases HA3.out with h | h
    · exact .inl (h.symm.trans hk)
    · right
      rw [hk] at h
      simp at h
      omega
  have hzz : (Value.slice (tb i).ks.a (tb i).ks.len (tb i).ks.cap).ownBlock ≠ some Z.heap.size := fun e => own_ne_z HFO.out ((x0.below.block _ hbz).trans HK4.out) (by decide) _ e rfl
  have hk6 : ((((((w3.setCell ⟨g6, (tb i).ks.len * 6, none⟩ (.int .i64 5)).setCell ⟨g6, (tb i).ks.len * 6 + 1, none⟩ (.int .i64 0)).setCell ⟨g6, (tb i).ks.len * 6 + 2, none⟩ (.int .i64 0)).setCell ⟨g6, (tb i).ks.len * 6 + 3, none⟩ (.string ⟨#[]⟩)).setCell ⟨g6, (tb i).ks.len * 6 + 4, none⟩ (.int .i64 tt)).setCell ⟨g6, (tb i).ks.len * 6 + 5, none⟩ (.slice none 0 0)).heap[Z.heap.size]? = some (.cells #[.slice (some ⟨g, 0, none⟩) sn sc] 45) := (hblk6 _ (by omega) hzz).trans ((x0.below.block _ hbz).trans HK4.out)
  have hbel3 : Below w.heap.size w w3 := Below.grown ((HB4.out.trans (x0.below.mono (by omega))).alloc (by omega) _) HG3.out (by simp; omega) fun k hk => by
    have := (HFO.out.lt k hk).1
    omega
  have hlg6 : w.heap.size ≤ g6 := by
    have := (HOW3.out.lt g6 rfl).1
    omega
  have hbel6 : Below w.heap.size w ((((((w3.setCell ⟨g6, (tb i).ks.len * 6, none⟩ (.int .i64 5)).setCell ⟨g6, (tb i).ks.len * 6 + 1, none⟩ (.int .i64 0)).setCell ⟨g6, (tb i).ks.len * 6 + 2, none⟩ (.int .i64 0)).setCell ⟨g6, (tb i).ks.len * 6 + 3, none⟩ (.string ⟨#[]⟩)).setCell ⟨g6, (tb i).ks.len * 6 + 4, none⟩ (.int .i64 tt)).setCell ⟨g6, (tb i).ks.len * 6 + 5, none⟩ (.slice none 0 0)) := Below.setCell (Below.setCell (Below.setCell (Below.setCell (Below.setCell (Below.setCell hbel3 hlg6 _) hlg6 _) hlg6 _) hlg6 _) hlg6 _) hlg6 _
  have HEND := Lib.hid (HCH.out ((((((w3.setCell ⟨g6, (tb i).ks.len * 6, none⟩ (.int .i64 5)).setCell ⟨g6, (tb i).ks.len * 6 + 1, none⟩ (.int .i64 0)).setCell ⟨g6, (tb i).ks.len * 6 + 2, none⟩ (.int .i64 0)).setCell ⟨g6, (tb i).ks.len * 6 + 3, none⟩ (.string ⟨#[]⟩)).setCell ⟨g6, (tb i).ks.len * 6 + 4, none⟩ (.int .i64 tt)).setCell ⟨g6, (tb i).ks.len * 6 + 5, none⟩ (.slice none 0 0)) tt _ HWF.out hown6 hblk6 (by omega) hat6)
  have HK66 := Lib.hid hk6
  have HBL6 := Lib.hid hbel6
  have HQ6 := Lib.hid heq6
  clear hown6 hblk6 hat6 hzz hk6 hbel6 hbel3 heq6 hg6b hblk3
  (refine LN.LR.lexB_hi rfl (by decide) rfl (by decide) ?_; intro KK hKK; go_big_quiet_step (rfl); refine wpQuiet_nil ?_; refine hKK _ ?_; clear hKK KK)
  refine LN.LR.lexB_both ?_ ?_
  · refine LN.LR.lexI_free_l rfl rfl ?_
    intro KK hKK
    go_wp2_with fail
    refine hKK _ _ (.inr ⟨⟨_, HQ6.out⟩, rfl⟩) ?_
    clear hKK KK
    generalize ((((((w3.setCell ⟨g6, (tb i).ks.len * 6, none⟩ (.int .i64 5)).setCell ⟨g6, (tb i).ks.len * 6 + 1, none⟩ (.int .i64 0)).setCell ⟨g6, (tb i).ks.len * 6 + 2, none⟩ (.int .i64 0)).setCell ⟨g6, (tb i).ks.len * 6 + 3, none⟩ (.string ⟨#[]⟩)).setCell ⟨g6, (tb i).ks.len * 6 + 4, none⟩ (.int .i64 tt)).setCell ⟨g6, (tb i).ks.len * 6 + 5, none⟩ (.slice none 0 0)) = W6 at HEND HK66 HBL6 HQ6 hsz6 ⊢
    have c56 := (World.cell?_of_block (w := z4.val) (a := ⟨g, i * 6 + 5, none⟩) HQ6.out).trans c5
    have r56 := froz_of HQ6.out r5
    have gl6 : g < W6.heap.size := by omega
    repeat (refine LN.LR.lexI_hi rfl rfl (by decide) ?_; intro KK hKK; go_big_quiet_step (rfl); refine wpQuiet_nil ?_; refine hKK _ ?_; clear hKK KK)
    refine LN.LR.lexI_free_l rfl rfl ?_
    intro KK hKK
    go_wp2_with fail
    refine hKK _ _ (.inl rfl) ?_
    clear hKK KK
    refine LN.LR.lexI_done ?_
    go_wp2_with fail
    have hbel : Below w.heap.size w (W6.setCell ⟨g, i * 6 + 5, none⟩ (.slice (some ⟨g6, 0, none⟩) ((tb i).ks.len + 1) cp6)) := Below.setCell HBL6.out (by show w.heap.size ≤ g; omega) _
    obtain ⟨t', hTT, hck⟩ := HEND.out
    have k6 : (W6.setCell ⟨g, i * 6 + 5, none⟩ (.slice (some ⟨g6, 0, none⟩) ((tb i).ks.len + 1) cp6)).heap[Z.heap.size]? = some (.cells #[.slice (some ⟨g, 0, none⟩) sn sc] 45) := set_ne HK66.out (fun e => hgz e.symm)
    have hck2 : ∀ j, j < sn → CkS (put tb i t' j) := fun j hj => by
      by_cases e : j = i
      · subst e
        rw [put_at]
        exact hck (cks_made (HG.out.2.2 j hj))
      · rw [show put tb i t' j = tb j from if_neg e]
        exact cks_made (HG.out.2.2 j hj)
    obtain ⟨v5, hv5, hv6⟩ := both_of hTT hck2 (HO.out.later hbel)
    have HV5 := Lib.hid hv5
    have HV6 := Lib.hid hv6
    have HBL := Lib.hid hbel
    have HK6 := Lib.hid k6
    clear hv5 hv6 hTT hck hck2 hbel k6
    generalize (W6.setCell ⟨g, i * 6 + 5, none⟩ (.slice (some ⟨g6, 0, none⟩) ((tb i).ks.len + 1) cp6)) = W5 at *
    obtain ⟨b6, f6, k6⟩ := one_z HK6.out
    have b7 : (v5 == v5) = true := by simp
    have HC5 : Hid (∀ y : Ext W5, Below W5.heap.size W5 y.val) := Lib.hid fun y => y.below
    refine wp_region_ext (by kernel_rfl) (by kernel_rfl) ?_
    repeat (go_big_quiet_step (first | (go_at_call 17; exact Cls.call (HV5.out _ (HC5.out _))) | (go_at_call 18; exact Cls.call (HV6.out _ (HC5.out _)))))
    refine wpQuiet_nil ?_
    rintro _ ⟨y5, rfl⟩
    go_wp2_with fail
    go_ret
    exact ⟨rfl, HBL.out.trans (y5.below.mono HBL.out.size)⟩
  · repeat (refine LN.LR.lexI_hi rfl rfl (by decide) ?_; intro KK hKK; go_big_quiet_step (rfl); refine wpQuiet_nil ?_; refine hKK _ ?_; clear hKK KK)
    refine LN.LR.lexI_free_l rfl rfl ?_
    intro KK hKK
    go_wp2_with fail
    refine hKK _ _ (.inl rfl) ?_
    clear hKK KK
    refine LN.LR.qb_l rfl ?_
    intro KK hKK
    go_wp2_with fail
    simp only [set_comm hgg6]
    generalize ((((((w3.setCell ⟨g6, (tb i).ks.len * 6, none⟩ (.int .i64 5)).setCell ⟨g6, (tb i).ks.len * 6 + 1, none⟩ (.int .i64 0)).setCell ⟨g6, (tb i).ks.len * 6 + 2, none⟩ (.int .i64 0)).setCell ⟨g6, (tb i).ks.len * 6 + 3, none⟩ (.string ⟨#[]⟩)).setCell ⟨g6, (tb i).ks.len * 6 + 4, none⟩ (.int .i64 tt)).setCell ⟨g6, (tb i).ks.len * 6 + 5, none⟩ (.slice none 0 0)) = W6 at HEND HK66 HBL6 HQ6 hsz6 ⊢
    have hbel : Below w.heap.size w (W6.setCell ⟨g, i * 6 + 5, none⟩ (.slice (some ⟨g6, 0, none⟩) ((tb i).ks.len + 1) cp6)) := Below.setCell HBL6.out (by show w.heap.size ≤ g; omega) _
    obtain ⟨t', hTT, hck⟩ := HEND.out
    have k6 : (W6.setCell ⟨g, i * 6 + 5, none⟩ (.slice (some ⟨g6, 0, none⟩) ((tb i).ks.len + 1) cp6)).heap[Z.heap.size]? = some (.cells #[.slice (some ⟨g, 0, none⟩) sn sc] 45) := set_ne HK66.out (fun e => hgz e.symm)
    have hck2 : ∀ j, j < sn → CkS (put tb i t' j) := fun j hj => by
      by_cases e : j = i
      · subst e
        rw [put_at]
        exact hck (cks_made (HG.out.2.2 j hj))
      · rw [show put tb i t' j = tb j from if_neg e]
        exact cks_made (HG.out.2.2 j hj)
    obtain ⟨v5, hv5, hv6⟩ := both_of hTT hck2 (HO.out.later hbel)
    have HV5 := Lib.hid hv5
    have HV6 := Lib.hid hv6
    have HBL := Lib.hid hbel
    have HK6 := Lib.hid k6
    clear hv5 hv6 hTT hck hck2 hbel k6
    generalize (W6.setCell ⟨g, i * 6 + 5, none⟩ (.slice (some ⟨g6, 0, none⟩) ((tb i).ks.len + 1) cp6)) = W5 at *
    obtain ⟨b6, f6, k6⟩ := one_z HK6.out
    have b7 : (v5 == v5) = true := by simp
    have HC5 : Hid (∀ y : Ext W5, Below W5.heap.size W5 y.val) := Lib.hid fun y => y.below
    refine wp_region_ext (by kernel_rfl) (by kernel_rfl) ?_
    repeat (go_big_quiet_step (first | (go_at_call 17; exact Cls.call (HV5.out _ (HC5.out _))) | (go_at_call 18; exact Cls.call (HV6.out _ (HC5.out _)))))
    refine wpQuiet_nil ?_
    rintro _ ⟨y5, rfl⟩
    go_wp2_with fail
    go_ret
    exact ⟨rfl, HBL.out.trans (y5.below.mono HBL.out.size)⟩
end Go.Proofs.YtpddkljedhghkaaDoor
set_option linter.unusedVariables false
namespace Go.Proofs.YtpddkljedhghkaaDoor
open Go Go.RowKit Go.Deep
theorem schemaSpoilt_walk (a : Option Addr) (len cap : Nat) (wh tt : Int) (s : ByteArray) (w : World) (hn : NumsAt w a len) (hwh : (Lit.int .i64 wh).wf = true) (htt : (Lit.int .i64 tt).wf = true) (hss : s.size ≤ maxLen) (ho : OpsTab w) :
    Calls Tryd.prog 4 #[.slice a len cap, .int .i64 wh, .int .i64 tt, .string s] w fun r w' => r = .returned (.bool true) ∧ Below w.heap.size w w' := by
  obtain ⟨q, hq⟩ : ∃ q, bits BinOp.and IntKind.i64 wh 7 = q := ⟨_, rfl⟩
  by_cases e0 : q = 0
  · subst e0
    exact spoilt_0 a len cap wh tt s w hn hwh htt hss ho hq
  by_cases e1 : q = 1
  · subst e1
    exact spoilt_1 a len cap wh tt s w hn hwh htt hss ho hq
  by_cases e2 : q = 2
  · subst e2
    exact spoilt_2 a len cap wh tt s w hn hwh htt hss ho hq
  by_cases e3 : q = 3
  · subst e3
    exact spoilt_3 a len cap wh tt s w hn hwh htt hss ho hq
  by_cases e4 : q = 4
  · subst e4
    exact spoilt_4 a len cap wh tt s w hn hwh htt hss ho hq
  by_cases e5 : q = 5
  · subst e5
    exact spoilt_5 a len cap wh tt s w hn hwh htt hss ho hq
  by_cases e6 : q = 6
  · subst e6
    exact spoilt_6 a len cap wh tt s w hn hwh htt hss ho hq
  exact spoilt_7 a len cap wh tt s w hn hwh htt hss ho q hq (by simp [e0]) (by simp [e1]) (by simp [e2]) (by simp [e3]) (by simp [e4]) (by simp [e5]) (by simp [e6])
end Go.Proofs.YtpddkljedhghkaaDoor
