/-
  What is wrong with the foreign keys of a table.
-/
import Derived.Test.YtdmhmlnfoocnjaaGreatDoorK38
import Derived.Test.YtdmhmlnfoocnjaaGreatDoorK41
import Derived.Test.YtdmhmlnfoocnjaaGreatDoorK40
set_option linter.unusedVariables false
namespace Go.Proofs.YtdmhmlnfoocnjaaGreatDoor
open Go Go.RowKit Go.Deep Go.Maps
theorem xCs_is (tb : Nat → Tb) (t : Nat → Sl) (r : Nat → Nat → Sl) (f : Nat → Nat → Nat → Vl) (iv : Nat → Value) (k : Nat) : xCs tb t r f iv k = [.string (tb k).name, .slice (tb k).cs.a (tb k).cs.len (tb k).cs.cap, .slice (tb k).ps.a (tb k).ps.len (tb k).ps.cap, .slice (tb k).us.a (tb k).us.len (tb k).us.cap, .slice (tb k).fs.a (tb k).fs.len (tb k).fs.cap, .slice (tb k).ks.a (tb k).ks.len (tb k).ks.cap, .slice (t k).a (t k).len (t k).cap, iv k, .bool (fitT tb t r f k)] := rfl
set_option maxHeartbeats 16000000 in
set_option maxRecDepth 20000 in
theorem inForeigns_calls (sl : Sl) (tb : Nat → Tb) (s : Sl) (t : Nat → Sl) (r : Nat → Nat → Sl) (f : Nat → Nat → Nat → Vl) (ds : Sl) (iv : Nat → Value) (i : Nat) (w : World) (h : TabsAt w sl tb) (hi : InsAt w s t r f) (hds : SlAt w 9 ds (xCs tb t r f iv)) (hdl : ds.len = sl.len) (hn : s.len = sl.len) (hiv : ∀ k, k < sl.len → ∃ a n c, iv k = .slice a n c) (hii : i < sl.len) (hok : ∀ k, k < sl.len → TbOk sl tb k) (hfit : fitT tb t r f i = true) (hs : ∀ k, k < sl.len → (t k).len ≤ 10000) :
    Calls Tryz.prog 51 #[.agg #[.slice sl.a sl.len sl.cap, .slice ds.a ds.len ds.cap], .int .i64 (i : Nat)] w fun e w' => ∃ v, e = .returned v ∧ OwnO w' (w.heap.size + 1) v (forsO sl tb t r f i) ∧ Cls w w' := by
  have hT := h.2 i hii
  have hO := hok i hii
  have hle := hT.fks.1
  have hmax := hT.fks.2.1
  have hdle := hds.1
  have hdmax := hds.2.1
  unfold maxLen at hmax hdmax
  have hrl : ∀ k, k < sl.len → fitT tb t r f k = true → ∀ n, n < (t k).len → (r k n).len = (tb k).cs.len := fun k hk hf n hn => fitO_row hf hn
  have HFW := Lib.hid hT.fks.2.2.2
  have HDW := Lib.hid hds.2.2.2
  have CT : Hid (∀ k, k < (tb i).fs.len → ∀ W, Below w.heap.size w W → Calls Tryz.prog 77 #[.agg #[.slice sl.a sl.len sl.cap], .int .i64 (i : Nat), .int .i64 (k : Nat)] W fun e w' => e = .returned (.tuple #[.int .i64 (tgN sl tb i k : Nat), .bool true]) ∧ Cls W w') := Lib.hid fun k hk W hW => by
    have h1 := Target_calls sl tb (i : Nat) (k : Nat) W (h.later hW)
    rw [tgt_nat, (hO.tgt k hk).1] at h1
    exact h1
  have HTG : Hid (∀ k, k < (tb i).fs.len → tgN sl tb i k < sl.len) := Lib.hid fun k hk => (hO.tgt k hk).2.1
  have CF : Hid (∀ k, k < (tb i).fs.len → fitT tb t r f (tgN sl tb i k) = true → ∀ W, Below w.heap.size w W → Calls Tryz.prog 85 #[.slice (t (tgN sl tb i k)).a (t (tgN sl tb i k)).len (t (tgN sl tb i k)).cap, .slice (tb (tgN sl tb i k)).ps.a (tb (tgN sl tb i k)).ps.len (tb (tgN sl tb i k)).ps.cap] W fun e w' => ∃ B, e = .returned (.map (some B)) ∧ FirstIs w' B (t (tgN sl tb i k)).len (tb (tgN sl tb i k)).ps.len (fun l => idx (firstP (tb (tgN sl tb i k)).prim (tb (tgN sl tb i k)).ps.len (f (tgN sl tb i k)) l) 0 (t (tgN sl tb i k)).len) ∧ Cls W w') := Lib.hid fun k hk hf W hW => by
    have hg := (hO.tgt k hk).2.1
    exact firstRows_calls _ _ _ _ _ W ((hi.rws _ (by omega)).later hW) ((h.2 _ hg).prim.later hW) (fun n hn j hj => by rw [hrl _ hg hf n hn]; exact (hok _ hg).prim.2 j hj) (hok _ hg).prim.1 (hs _ hg)
  have CD : Hid (∀ k, k < (tb i).fs.len → ∀ B W, Below w.heap.size w W → FirstIs W B (t (tgN sl tb i k)).len (tb (tgN sl tb i k)).ps.len (fun l => idx (firstP (tb (tgN sl tb i k)).prim (tb (tgN sl tb i k)).ps.len (f (tgN sl tb i k)) l) 0 (t (tgN sl tb i k)).len) → Calls Tryz.prog 86 #[.agg #[.string (tb i).name, .slice (tb i).cs.a (tb i).cs.len (tb i).cs.cap, .slice (tb i).ps.a (tb i).ps.len (tb i).ps.cap, .slice (tb i).us.a (tb i).us.len (tb i).us.cap, .slice (tb i).fs.a (tb i).fs.len (tb i).fs.cap, .slice (tb i).ks.a (tb i).ks.len (tb i).ks.cap, .slice (t i).a (t i).len (t i).cap, iv i, .bool (fitT tb t r f i)], .slice ((tb i).fk k).a ((tb i).fk k).len ((tb i).fk k).cap, .map (some B), .int .i64 (k : Nat)] W fun e w' => ∃ v, e = .returned v ∧ OwnO w' (W.heap.size + 1) v (dansO (k : Nat) ((tb i).fkn k) ((tb i).fk k).len (f i) (tb (tgN sl tb i k)).prim (tb (tgN sl tb i k)).ps.len (f (tgN sl tb i k)) (t (tgN sl tb i k)).len (t i).len) ∧ Cls W w') := Lib.hid fun k hk B W hW hB =>
    dangling_calls (tb i) (t i) ((tb i).fk k) (iv i) _ (k : Nat) (r i) (f i) ((tb i).fkn k) B _ _ _ _ _ W ((hi.rws i (by omega)).later hW) ((hT.fkn k hk).1.later hW) (fun n hn j hj => by rw [hrl i hii hfit n hn]; exact (hO.fks k hk).2 j hj) (hO.fks k hk).1 (hs i hii) (by obtain ⟨a, n, c, e⟩ := hiv i hii; rw [e]; rfl) _ (hO.tgt k hk).2.2.symm hB
  have HFG := Lib.hid (forG_is sl tb t r f i)
  have HFL : Hid (∀ k, (forG sl tb t r f i k).length ≤ (t i).len) := Lib.hid fun k => forG_len sl tb t r f i k
  have HCL : Hid (∀ k, (catN (forG sl tb t r f i) k).length ≤ k * (t i).len) := Lib.hid fun k => catN_len fun j _ => forG_len sl tb t r f i j
  have HC0 : Hid (catN (forG sl tb t r f i) 0 = []) := Lib.hid rfl
  have HCN : Hid (∀ k, catN (forG sl tb t r f i) (k + 1) = catN (forG sl tb t r f i) k ++ forG sl tb t r f i k) := Lib.hid fun k => rfl
  have HFE : Hid (forsO sl tb t r f i = catN (forG sl tb t r f i) (tb i).fs.len) := Lib.hid rfl
  have hf3 := hO.fs
  have HIV := Lib.hid hiv
  have hsi := hs i hii
  clear h hi hds hn hok hs hT hO hrl hiv hfit
  generalize forsO sl tb t r f i = fo at *
  generalize catN (forG sl tb t r f i) = ct at *
  generalize forG sl tb t r f i = fg at *
  generalize tgN sl tb i = tg at *
  generalize (tb i).fk = fk at *
  generalize (tb i).fkt = fkt at *
  have h9 := fun k => xCs_is tb t r f iv k
  have H9 := Lib.hid h9
  clear h9
  obtain ⟨la, ln, lc⟩ := sl
  obtain ⟨dsa, dsn, dsc⟩ := ds
  simp only at hdle hdmax hdl HDW CT HTG HIV hii ⊢
  subst hdl
  have hbl0 : (w.alloc (.cells #[.slice la dsn lc, .slice dsa dsn dsc] 70)).heap[w.heap.size]? = some (.cells #[.slice la dsn lc, .slice dsa dsn dsc] 70) := heap_alloc_new w _
  have HL0 := Lib.hid hbl0
  have HB0 : Hid (Below w.heap.size w (w.alloc (.cells #[.slice la dsn lc, .slice dsa dsn dsc] 70))) := Lib.hid (by repeat first|with_reducible exact Below.refl _ _|with_reducible refine Below.setCell ?_ (by first|omega|(simp;done)|(simp;omega)) _|with_reducible refine Below.alloc ?_ (by first|omega|(simp;done)|(simp;omega)) _|with_reducible refine Below.drew ?_|with_reducible refine Ext.on _ ?_ (by first|omega|(simp;done)|(simp;omega)))
  have h0s : (w.alloc (.cells #[.slice la dsn lc, .slice dsa dsn dsc] 70)).heap.size = w.heap.size + 1 := by simp
  obtain ⟨d0, _, _, dc0, dc1⟩ := two_z hbl0
  obtain ⟨xb, xoff, hxa, hxb, hxc⟩ := HDW.out i hii
  subst hxa
  have y4 := hxc 4 (by omega)
  rw [H9.out i] at y4
  simp only [List.getElem?_cons_zero, List.getElem?_cons_succ] at y4
  rw [← HB0.out.cell (p := ⟨xb, _, none⟩) hxb] at y4
  clear hbl0
  have hxw : xb < w.heap.size + 1 := by omega
  go_enter Tryz.func51, Tryz.ntmps51
  go_wp2_with fail
  clear dc0 dc1 y4
  generalize (w.alloc (.cells #[.slice la dsn lc, .slice (some ⟨xb, xoff, none⟩) dsn dsc] 70)) = W0 at *
  obtain ⟨⟨fa, fn, fc⟩, hfs⟩ : ∃ u : Sl, (tb i).fs = u := ⟨_, rfl⟩
  rw [hfs] at hle hmax HFW CT HTG CF CD HFE hf3
  have HFS := Lib.hid hfs
  simp only [hfs]
  simp only at hle hmax HFW CT HTG CF CD HFE hf3
  clear hfs
  go_loopw [5, 20] (fun u p wr => ∃ (k : Nat) (l : List Vio), k ≤ fn ∧ p = .int .i64 k ∧ OwnO wr (w.heap.size + 1) u l ∧ l = ct k ∧ Below (w.heap.size + 1) W0 wr) (fun _ p _ => fn - (intOf p).toNat)
  case atStart => exact ⟨0, [], Nat.zero_le _, rfl, OwnO.nil _ _, HC0.out.symm, Below.refl _ _⟩
  case round =>
    obtain ⟨k, l, hk, rfl, ho, hl, hbw⟩ := hrel
    have HO := Lib.hid ho
    have HL := Lib.hid hl
    have hln : l.length ≤ 30000 := by
      have h1 := HCL.out k
      rw [hl]
      have h3 : k * (t i).len ≤ 3 * 10000 := Nat.mul_le_mul (by omega) hsi
      omega
    have HW := Lib.hid hbw
    have hws := hbw.size
    have HT0 := Lib.hid ((hbw.block _ (by omega)).trans HL0.out)
    have HBX : Hid (Below w.heap.size w wr) := Lib.hid (HB0.out.trans (hbw.mono (by omega)))
    clear ho hl hbw HL0 HB0
    obtain ⟨d0, _, _, dc0, dc1⟩ := two_z HT0.out
    by_cases hlt : k < fn
    · obtain ⟨b, off, ha, hb, hcc⟩ := HFW.out k hlt
      subst ha
      have q0 := hcc 0 (by omega)
      have q1 := hcc 1 (by omega)
      simp only [Sl.v, List.getElem?_cons_zero, List.getElem?_cons_succ, Nat.add_zero] at q0 q1
      rw [← HBX.out.cell (p := ⟨b, _, none⟩) hb] at q0 q1
      have hb3 : b < wr.heap.size := by omega
      have htg := HTG.out k hlt
      obtain ⟨ob, ooff, hoa, hob, hoc⟩ := HDW.out (tg k) htg
      simp only [Option.some.injEq, Addr.mk.injEq, and_true] at hoa
      obtain ⟨rfl, rfl⟩ := hoa
      have x9 := fun j hj => hoc j hj
      have z9 := fun j hj => hxc j hj
      simp only [H9.out] at x9 z9
      have x0 := x9 0 (by omega)
      have x1 := x9 1 (by omega)
      have x2 := x9 2 (by omega)
      have x3 := x9 3 (by omega)
      have x4 := x9 4 (by omega)
      have x5 := x9 5 (by omega)
      have x6 := x9 6 (by omega)
      have x7 := x9 7 (by omega)
      have x8 := x9 8 (by omega)
      have z0 := z9 0 (by omega)
      have z1 := z9 1 (by omega)
      have z2 := z9 2 (by omega)
      have z3 := z9 3 (by omega)
      have z4 := z9 4 (by omega)
      have z5 := z9 5 (by omega)
      have z6 := z9 6 (by omega)
      have z7 := z9 7 (by omega)
      have z8 := z9 8 (by omega)
      simp only [List.getElem?_cons_zero, List.getElem?_cons_succ, Nat.add_zero] at x0 x1 x2 x3 x4 x5 x6 x7 x8 z0 z1 z2 z3 z4 z5 z6 z7 z8
      rw [← HBX.out.cell (p := ⟨xb, _, none⟩) hxb] at x0 x1 x2 x3 x4 x5 x6 x7 x8 z0 z1 z2 z3 z4 z5 z6 z7 z8
      rw [HFS.out] at z4
      simp only at z4
      obtain ⟨ova, ovn, ovc, eov⟩ := HIV.out (tg k) htg
      rw [eov] at x7
      have D1 := Lib.hid (CT.out k hlt)
      have DF := Lib.hid (CF.out k hlt)
      have DD := Lib.hid (CD.out k hlt)
      obtain ⟨hg1, hg2⟩ := HFG.out k
      have HG1 := Lib.hid hg1
      have HG2 := Lib.hid hg2
      have HNX := Lib.hid (HCN.out k)
      have hfl := HFL.out k
      have hxb3 : xb < wr.heap.size := by omega
      clear hcc x9 z9 hoc hg1 hg2 CT CF CD HFG HCN HFL HFW HDW H9 HTG HIV eov
      generalize tg k = g at *
      generalize hot : tb g = ot at *
      generalize hst : t g = st at *
      generalize fitT tb t r f g = fb at *
      generalize hti : tb i = ti at *
      generalize htt : t i = tti at *
      generalize iv i = vi at *
      generalize fitT tb t r f i = fi at *
      generalize fk k = fkk at *
      generalize fkt k = fkn at *
      generalize fg k = M at *
      clear hot hst hti htt
      obtain ⟨qa, qn, qc⟩ := fkk
      simp only at q0 q1 DD
      cases fb
      · have HN : Hid (l = ct (k + 1)) := Lib.hid (by rw [HNX.out, HG2.out rfl, List.append_nil]; exact HL.out)
        clear HG1 HG2 DF DD
        go_wp2_with (first | (go_at_call 77; ((with_reducible refine (D1.out _ (HBX.out.alloc (by omega) _)).mono ?_); rintro e _ ⟨rfl, y, rfl⟩; have ys := y.size; simp at ys; obtain ⟨l1, l2, l3, l4, l5⟩ := y.lts (b := xb) (by simp; omega); obtain ⟨l6, l7, l8, l9, l10⟩ := y.lts (b := w.heap.size) (by simp; omega); obtain ⟨l11, l12, l13, l14, l15⟩ := y.lts (b := wr.heap.size) (by simp))))
        go_roundw
        case rel =>
          refine ⟨k + 1, l, by omega, by go_num, HO.out.later ?_, HN.out, ?_⟩
          · exact (y.on ((Below.refl _ _).alloc (Nat.le_refl _) _) (by simp)).alloc (by omega) _
          · exact (y.on (HW.out.alloc (by omega) _) (by simp; omega)).alloc (by omega) _
        case measure => simp [intOf]; omega
      · have HN : Hid (l ++ M = ct (k + 1)) := Lib.hid (by rw [HNX.out, HL.out])
        have HM := Lib.hid (HG1.out rfl)
        have DF2 := Lib.hid (DF.out rfl)
        clear HG1 HG2 DF
        have hFA : (wr.alloc (.cells #[.slice qa qn qc, .string fkn] 59)).heap[wr.heap.size]? = some (.cells #[.slice qa qn qc, .string fkn] 59) := heap_alloc_new _ _
        have HFA := Lib.hid hFA
        clear hFA
        go_wp2_with (first | (go_at_call 77; ((with_reducible refine (D1.out _ (HBX.out.alloc (by omega) _)).mono ?_); rintro e _ ⟨rfl, y, rfl⟩; have ys := y.size; simp at ys; obtain ⟨l1, l2, l3, l4, l5⟩ := y.lts (b := xb) (by simp; omega); obtain ⟨l6, l7, l8, l9, l10⟩ := y.lts (b := w.heap.size) (by simp; omega); obtain ⟨l11, l12, l13, l14, l15⟩ := y.lts (b := wr.heap.size) (by simp))) | (go_at_call 85; ((with_reducible refine (DF2.out _ ((y.on (HBX.out.alloc (by omega) _) (by simp; omega)).alloc (by omega) _)).mono ?_); rintro e _ ⟨B, rfl, hfi, z, rfl⟩; have HI := Lib.hid hfi; clear hfi; have zs := z.size; simp at zs)))
        have HYZ : Hid (Below (wr.alloc (.cells #[.slice qa qn qc, .string fkn] 59)).heap.size (wr.alloc (.cells #[.slice qa qn qc, .string fkn] 59)) z.val) := Lib.hid (z.on ((y.below).alloc (by simp; omega) _) (by simp; omega))
        have HFZ : Hid (z.val.heap[wr.heap.size]? = some (.cells #[.slice qa qn qc, .string fkn] 59)) := Lib.hid ((HYZ.out.block _ (by simp)).trans HFA.out)
        have HDZ : Hid (z.val.heap[w.heap.size]? = some (.cells #[.slice la dsn lc, .slice (some ⟨xb, xoff, none⟩) dsn dsc] 70)) := Lib.hid ((HYZ.out.block _ (by simp; omega)).trans ((Below.heap_alloc _ _ _ d0).trans HT0.out))
        have HBZ : Hid (Below w.heap.size w z.val) := Lib.hid ((HBX.out.alloc (by omega) _).trans (HYZ.out.mono (by simp; omega)))
        have HWZ : Hid (Below (w.heap.size + 1) W0 z.val) := Lib.hid ((HW.out.alloc (by omega) _).trans (HYZ.out.mono (by simp; omega)))
        have HOZ : Hid (OwnO z.val (w.heap.size + 1) u5 l) := Lib.hid (HO.out.later (((Below.refl _ _).alloc (Nat.le_refl _) _).trans (HYZ.out.mono (by simp))))
        have hzc : ∀ o, z.val.cell? ⟨xb, o, none⟩ = wr.cell? ⟨xb, o, none⟩ := fun o => (((Below.refl _ _).alloc (Nat.le_refl _) (.cells #[.slice qa qn qc, .string fkn] 59) : Below wr.heap.size wr _).trans (HYZ.out.mono (by simp))).cell (p := ⟨xb, o, none⟩) hxb3
        rw [← hzc] at z0 z1 z2 z3 z4 z5 z6 z7 z8
        have hzs : wr.heap.size + 1 ≤ z.val.heap.size := by omega
        clear HYZ hzc HFA HT0 HO HW HBX dc0 dc1 x0 x1 x2 x3 x4 x5 x6 x7 x8 q0 q1 l1 l2 l3 l4 l5 l6 l7 l8 l9 l10 l11 l12 l13 l14 l15 ys zs D1 DF2
        generalize z.val = Z at *
        generalize wr.heap.size = fbk at *
        obtain ⟨d1, _, _, dc0, dc1⟩ := two_z HDZ.out
        obtain ⟨f1, _, _, fc0, fc1⟩ := two_z HFZ.out
        have o1 : w.heap.size ≠ blkOf u5 Z.heap.size := blk_off HOZ.out _ (by omega) (by omega)
        have o2 : xb ≠ blkOf u5 Z.heap.size := blk_off HOZ.out _ (by omega) (by omega)
        have o3 : fbk ≠ blkOf u5 Z.heap.size := blk_off_ty HOZ.out _ HFZ.out (by decide) (by omega)
        have hxz : xb < Z.heap.size := by omega
        refine LM.wp_region_lin_in (C := fun w' => ∃ y : LatB (blkOf u5 Z.heap.size) Z, w' = y.val) (fun x => ⟨⟨x.val, (Tp.refl _ _).ext x⟩, rfl⟩) (by kernel_rfl) (by kernel_rfl) ?_
        intro x0
        have x0s := x0.size
        repeat (refine LM.lin_calm rfl ?_; intro KK hKK; go_big_quiet_step (fail); refine wpQuiet_nil ?_; refine hKK _ ?_; clear hKK KK)
        refine LM.lin_free rfl ?_
        intro KK hKK
        go_wp2_with (go_at_call 86; ((with_reducible refine (DD.out B _ (x0.on HBZ.out (by omega)) (HI.out.later x0.below)).mono ?_); rintro e w1 ⟨v, rfl, hov, v1, rfl⟩; have HV := Lib.hid hov; clear hov; have vs := v1.size))
        rw [← HM.out] at HV
        have HTY : Hid (Tp (blkOf u5 Z.heap.size) Z v1.val) := Lib.hid (((Tp.refl _ _).ext x0).ext v1)
        refine hKK _ _ (.inr ⟨⟨v1.val, HTY.out⟩, rfl⟩) ?_
        clear hKK KK
        refine LM.lin_free rfl ?_
        intro KK hKK
        go_wp2_with (at_builtin; refine appendN_O rfl _ _ rfl (w.heap.size + 1) u5 l rfl (HOZ.out.later (v1.on x0.below (by omega))) (x0.val.heap.size + 1) v M rfl HV.out (by omega) (by omega) ?_; intro v3 w3 hown3 hg3 hat3; have HO3 := Lib.hid hown3; have HG3 := Lib.hid hg3; clear hown3 hg3 hat3)
        refine hKK _ _ (.inr ⟨⟨w3, tp_grow HTY.out HG3.out⟩, rfl⟩) ?_
        clear hKK KK
        repeat (refine LM.lin_calm rfl ?_; intro KK hKK; go_big_quiet_step (fail); refine wpQuiet_nil ?_; refine hKK _ ?_; clear hKK KK)
        refine LM.lin_nil ?_
        have hus : ∀ k, u5.ownBlock = some k → w.heap.size + 1 ≤ k := fun k hk => (HOZ.out.lt k hk).1
        go_wp2_with fail
        go_roundw
        case rel => exact ⟨k + 1, l ++ M, by omega, by go_num, HO3.out, HN.out, Below.grown (v1.on (x0.on HWZ.out (by omega)) (by omega)) HG3.out (by omega) (fun k hk => by have := hus k hk; omega)⟩
        case measure => simp [intOf]; omega
    · obtain rfl : k = fn := by omega
      go_wp2_with fail
      go_ret
      exact ⟨_, rfl, by rw [HFE.out, ← HL.out]; exact HO.out, Cls.of HBX.out⟩
end Go.Proofs.YtdmhmlnfoocnjaaGreatDoor
set_option linter.unusedVariables false
namespace Go.Proofs.YtdmhmlnfoocnjaaGreatDoor
open Go Go.RowKit Go.Deep Go.Maps
theorem own_one {w : World} {base : Nat} {v : Value} {L : List Vio} (h : OwnO w base v L) : v.oneCell' = true := by
  obtain ⟨a, n, c, rfl⟩ := h.slice
  rfl
set_option maxHeartbeats 16000000 in
set_option maxRecDepth 20000 in
theorem inKeys_calls (t : Tb) (s : Sl) (iv : Value) (fit : Bool) (r : Nat → Sl) (f : Nat → Nat → Vl) (w : World) (h : TbAt w t) (hr : RwsAt w s r f) (hl : ∀ n, n < s.len → (r n).len = t.cs.len) (hp : ColsOk t.cs.len t.prim t.ps.len) (hu : ∀ k, k < t.us.len → ColsOk t.cs.len (t.uqn k) (t.uq k).len) (hs : s.len ≤ 10000) (h3 : t.us.len ≤ 3) (hiv : iv.oneCell' = true) :
    Calls Tryz.prog 50 #[.agg #[.string t.name, .slice t.cs.a t.cs.len t.cs.cap, .slice t.ps.a t.ps.len t.ps.cap, .slice t.us.a t.us.len t.us.cap, .slice t.fs.a t.fs.len t.fs.cap, .slice t.ks.a t.ks.len t.ks.cap, .slice s.a s.len s.cap, iv, .bool fit]] w fun e w' => ∃ v, e = .returned v ∧ OwnO w' (w.heap.size + 1) v (keysO t f s.len) ∧ Cls w w' := by
  have hle := h.uqs.1
  have hmax := h.uqs.2.1
  unfold maxLen at hmax
  have HUW := Lib.hid h.uqs.2.2.2
  have C1 : Hid (∀ W, Below w.heap.size w W → Calls Tryz.prog 84 #[.agg #[.string t.name, .slice t.cs.a t.cs.len t.cs.cap, .slice t.ps.a t.ps.len t.ps.cap, .slice t.us.a t.us.len t.us.cap, .slice t.fs.a t.fs.len t.fs.cap, .slice t.ks.a t.ks.len t.ks.cap, .slice s.a s.len s.cap, iv, .bool fit], .slice t.ps.a t.ps.len t.ps.cap, .agg #[.int .i64 4, .int .i64 0, .int .i64 0, .int .i64 0, .int .i64 0]] W fun e w' => ∃ v, e = .returned v ∧ OwnO w' (W.heap.size + 2) v (repsO 4 0 t.prim t.ps.len f s.len) ∧ Cls W w') := Lib.hid fun W hW => repeated_calls t s t.ps iv fit 4 0 r f t.prim W (hr.later hW) (h.prim.later hW) (fun n hn i hi => by rw [hl n hn]; exact hp.2 i hi) hp.1 hs hiv
  have C2 : Hid (∀ k, k < t.us.len → ∀ W, Below w.heap.size w W → Calls Tryz.prog 84 #[.agg #[.string t.name, .slice t.cs.a t.cs.len t.cs.cap, .slice t.ps.a t.ps.len t.ps.cap, .slice t.us.a t.us.len t.us.cap, .slice t.fs.a t.fs.len t.fs.cap, .slice t.ks.a t.ks.len t.ks.cap, .slice s.a s.len s.cap, iv, .bool fit], .slice (t.uq k).a (t.uq k).len (t.uq k).cap, .agg #[.int .i64 5, .int .i64 0, .int .i64 (k : Nat), .int .i64 0, .int .i64 0]] W fun e w' => ∃ v, e = .returned v ∧ OwnO w' (W.heap.size + 2) v (unqG t f s.len k) ∧ Cls W w') := Lib.hid fun k hk W hW => repeated_calls t s (t.uq k) iv fit 5 (k : Nat) r f (t.uqn k) W (hr.later hW) ((h.uqn k hk).later hW) (fun n hn i hi => by rw [hl n hn]; exact (hu k hk).2 i hi) (hu k hk).1 hs hiv
  have HL1 := Lib.hid (repsO_len 4 0 t.prim t.ps.len f s.len)
  have HL2 : Hid (∀ j, (catN (unqG t f s.len) j).length ≤ j * s.len) := Lib.hid fun j => catN_len fun i _ => repsO_len 5 (i : Nat) (t.uqn i) (t.uq i).len f s.len
  have HL3 : Hid (∀ k, (unqG t f s.len k).length ≤ s.len) := Lib.hid fun i => repsO_len 5 (i : Nat) (t.uqn i) (t.uq i).len f s.len
  have HKO : Hid (keysO t f s.len = repsO 4 0 t.prim t.ps.len f s.len ++ catN (unqG t f s.len) t.us.len) := Lib.hid rfl
  have HC0 : Hid (catN (unqG t f s.len) 0 = []) := Lib.hid rfl
  have HCN : Hid (∀ j, catN (unqG t f s.len) (j + 1) = catN (unqG t f s.len) j ++ unqG t f s.len j) := Lib.hid fun j => rfl
  clear h hr hl hp hu
  generalize keysO t f s.len = ko at *
  generalize catN (unqG t f s.len) = cu at *
  generalize unqG t f s.len = ug at *
  generalize repsO 4 0 t.prim t.ps.len f s.len = rp at *
  obtain ⟨tn, ⟨ca, cn, cc⟩, tf, tps, tprim, ⟨ua, un, uc⟩, tuq, tuqn, tfs, tfk, tfkn, tfkt, tks, tch⟩ := t
  obtain ⟨sa, sn, sc⟩ := s
  simp only at hle hmax HUW C1 C2 hs h3 HL1 HL2 HL3 HKO ⊢
  go_enter Tryz.func50, Tryz.ntmps50
  have hbl1 : (w.alloc (.cells #[.string tn, .slice ca cn cc, .slice tps.a tps.len tps.cap, .slice ua un uc, .slice tfs.a tfs.len tfs.cap, .slice tks.a tks.len tks.cap, .slice sa sn sc, iv, .bool fit] 98)).heap[w.heap.size]? = some (.cells #[.string tn, .slice ca cn cc, .slice tps.a tps.len tps.cap, .slice ua un uc, .slice tfs.a tfs.len tfs.cap, .slice tks.a tks.len tks.cap, .slice sa sn sc, iv, .bool fit] 98) := heap_alloc_new w _
  have HX := Lib.hid hbl1
  obtain ⟨b0, _, _, _, _, _, _, _, _, _, n0, n1, n2, n3, n4, n5, n6, n7, n8⟩ := nine_z hbl1
  have HB0 : Hid (Below w.heap.size w (w.alloc (.cells #[.string tn, .slice ca cn cc, .slice tps.a tps.len tps.cap, .slice ua un uc, .slice tfs.a tfs.len tfs.cap, .slice tks.a tks.len tks.cap, .slice sa sn sc, iv, .bool fit] 98))) := Lib.hid (by repeat first|with_reducible exact Below.refl _ _|with_reducible refine Below.setCell ?_ (by first|omega|(simp;done)|(simp;omega)) _|with_reducible refine Below.alloc ?_ (by first|omega|(simp;done)|(simp;omega)) _|with_reducible refine Below.drew ?_|with_reducible refine Ext.on _ ?_ (by first|omega|(simp;done)|(simp;omega)))
  go_wp2_with (go_at_call 84; ((with_reducible refine (C1.out _ HB0.out).mono ?_); rintro e w1 ⟨v, rfl, hov, y, rfl⟩; have HV := Lib.hid hov; clear hov; have ys := y.size; simp at ys; have hy2 := (y.below.block _ b0).trans HX.out; clear n0 n1 n2 n3 n4 n5 n6 n7 n8; obtain ⟨b1, _, _, _, _, _, _, _, _, _, n0, n1, n2, n3, n4, n5, n6, n7, n8⟩ := nine_z hy2; have HXY := Lib.hid hy2; clear hy2))
  have HOV : Hid (OwnO y.val (w.heap.size + 1) v rp) := Lib.hid (HV.out.mono (by simp))
  have HBY : Hid (Below w.heap.size w y.val) := Lib.hid (y.on HB0.out (by simp))
  clear HV HB0 HX hbl1 b0 n0 n1 n2 n3 n4 n5 n6 n7 n8
  generalize y.val = Y at *
  go_loopw [3, 16] (fun u i wr => ∃ (j : Nat) (l : List Vio), j ≤ un ∧ i = .int .i64 j ∧ OwnO wr (w.heap.size + 1) u l ∧ l = rp ++ cu j ∧ Below (w.heap.size + 1) Y wr) (fun _ i _ => un - (intOf i).toNat)
  case atStart => exact ⟨0, rp, Nat.zero_le _, rfl, HOV.out, by rw [HC0.out, List.append_nil], Below.refl _ _⟩
  case round =>
    obtain ⟨j, l, hj, rfl, ho, hl, hbw⟩ := hrel
    have HO := Lib.hid ho
    have HL := Lib.hid hl
    have hln : l.length ≤ 40000 := by
      have h1 := HL2.out j
      have h2 := HL1.out
      rw [hl, List.length_append]
      have h3 : j * sn ≤ 3 * 10000 := Nat.mul_le_mul (by omega) hs
      omega
    clear ho hl
    have HYW := Lib.hid hbw
    have xs := hbw.size
    have HXX := Lib.hid ((hbw.block _ (by omega)).trans HXY.out)
    clear hbw
    obtain ⟨b2, _, _, _, _, _, _, _, _, _, n0, n1, n2, n3, n4, n5, n6, n7, n8⟩ := nine_z HXX.out
    have HBX : Hid (Below w.heap.size w wr) := Lib.hid (HBY.out.trans (HYW.out.mono (by omega)))
    by_cases hlt : j < un
    · obtain ⟨b, off, ha, hb, hcc⟩ := HUW.out j hlt
      subst ha
      have q0 := hcc 0 (by omega)
      simp only [Sl.v, List.getElem?_cons_zero, Nat.add_zero, Nat.mul_one] at q0
      rw [← HBX.out.cell (p := ⟨b, _, none⟩) hb] at q0
      have hb2 : b < wr.heap.size := by omega
      have D2 := Lib.hid (C2.out j hlt)
      have HNX := Lib.hid (HCN.out j)
      have hul := HL3.out j
      clear hcc C1 C2 HUW
      generalize tuq j = uu at *
      generalize ug j = M at *
      obtain ⟨qa, qn, qc⟩ := uu
      simp only at q0 D2
      have HN : Hid (l ++ M = rp ++ cu (j + 1)) := Lib.hid (by rw [HNX.out, ← List.append_assoc, HL.out])
      go_wp2_with (first | (go_at_call 84; ((with_reducible refine (D2.out _ HBX.out).mono ?_); rintro e w1 ⟨v2, rfl, hov, z, rfl⟩; have HV2 := Lib.hid hov; clear hov; have zs := z.size)) | (at_builtin; refine appendN_O rfl _ _ rfl (w.heap.size + 1) u3 l rfl (HO.out.later z.below) (wr.heap.size + 2) v2 M rfl HV2.out (by omega) (by omega) ?_; intro v3 w3 hown3 hg3 hat3; have HO3 := Lib.hid hown3; have HG := Lib.hid hg3; clear hown3 hg3 hat3))
      go_roundw
      case rel => exact ⟨j + 1, l ++ M, by omega, by go_num, HO3.out, HN.out, Below.grown (z.on HYW.out (by omega)) HG.out (by omega) (fun k hk => by have := (HO.out.lt k hk).1; omega)⟩
      case measure => simp [intOf]; omega
    · obtain rfl : j = un := by omega
      go_wp2_with fail
      go_ret
      exact ⟨_, rfl, by rw [HKO.out, ← HL.out]; exact HO.out, Cls.of HBX.out⟩
end Go.Proofs.YtdmhmlnfoocnjaaGreatDoor
