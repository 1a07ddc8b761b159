/-
  The first error of a table's checks. The first error of what the foreign keys name. A map from numbers to slices that the call itself has made: which keys are there, and which slice stands at each.
-/
import Derived.Test.YtpddkljedhghkaaDoorJ08
import Derived.Test.YtpddkljedhghkaaDoorJ19
import Derived.Test.YtpddkljedhghkaaDoorJ21
import Derived.Test.YtpddkljedhghkaaDoorJ01
import Derived.Maps.OwnSet
import Derived.BigQuiet
set_option linter.unusedVariables false
namespace Go.Proofs.YtpddkljedhghkaaDoor
open Go Go.RowKit Go.Deep
/-- What Type gives for each of the checks, over the types of the table's columns. -/
def ChkT (w : World) (t : Tb) (g : Nat → Int × Int) : Prop :=
  ∀ i, i < t.checks.length → ∀ (W : World) (s : Sl) (a : Option Addr) (len cap : Nat), Below w.heap.size w W → s.len = t.cs.len → SlAt W 1 s (intC fun i => (tyL t.col t.cs.len).getD i 0) → Kids W (fun _ => True) a len cap (t.checks.getD i Ex.z).kids →
    Calls Tryd.prog 11 #[.slice s.a s.len s.cap, .agg #[.int .i64 (t.checks.getD i Ex.z).op, .int .i64 (t.checks.getD i Ex.z).ty, .int .i64 (t.checks.getD i Ex.z).num, .string (t.checks.getD i Ex.z).text, .int .i64 (t.checks.getD i Ex.z).col, .slice a len cap]] W fun r w' => r = .returned (.tuple #[.int .i64 (g i).1, .int .i64 (g i).2]) ∧ Cls W w'
def chkE1 (g : Nat → Int × Int) (i : Nat) : Int := if (g i).2 = 0 then (if (g i).1 = 2 then 0 else 4) else (g i).2
theorem chkE1_is (g : Nat → Int × Int) (i : Nat) : ((g i).2 = 0 → (g i).1 = 2 → chkE1 g i = 0) ∧ ((g i).2 = 0 → (g i).1 ≠ 2 → chkE1 g i = 4) ∧ ((g i).2 ≠ 0 → chkE1 g i = (g i).2) := by
  unfold chkE1
  refine ⟨fun h1 h2 => ?_, fun h1 h2 => ?_, fun h1 => ?_⟩
  · rw [if_pos h1, if_pos h2]
  · rw [if_pos h1, if_neg h2]
  · rw [if_neg h1]
def chkE (g : Nat → Int × Int) (n : Nat) : Int := fstE (chkE1 g) 0 n
set_option maxHeartbeats 8000000 in
set_option maxRecDepth 20000 in
theorem checkError_calls (t : Tb) (g : Nat → Int × Int) (w : World) (h : TbAt w t) (hg : ChkT w t g) (hc : t.cs.len ≤ 1000) :
    Calls Tryd.prog 100 #[.agg #[.string t.name, .slice t.cs.a t.cs.len t.cs.cap, .slice t.ps.a t.ps.len t.ps.cap, .slice t.us.a t.us.len t.us.cap, .slice t.fs.a t.fs.len t.fs.cap, .slice t.ks.a t.ks.len t.ks.cap]] w fun r w' => r = .returned (.int .i64 (chkE g t.ks.len)) ∧ Cls w w' := by
  have hle := h.kids.le
  have hmax := h.kids.max
  have hlen := h.kids.len_eq
  unfold maxLen at hmax
  have CT : Hid (∀ W, Below w.heap.size w W → Calls Tryd.prog 64 #[.agg #[.string t.name, .slice t.cs.a t.cs.len t.cs.cap, .slice t.ps.a t.ps.len t.ps.cap, .slice t.us.a t.us.len t.us.cap, .slice t.fs.a t.fs.len t.fs.cap, .slice t.ks.a t.ks.len t.ks.cap]] W fun r w' => ∃ s : Sl, r = .returned s.v ∧ s.len = t.cs.len ∧ SlAt w' 1 s (intC fun i => (tyL t.col t.cs.len).getD i 0) ∧ Cls W w') := Lib.hid fun W hW => sTypes_calls t W (h.later hW) hc
  have CG := Lib.hid hg
  have HK := Lib.hid h.kids
  have HP : Hid (∀ i, ((g i).2 = 0 → (g i).1 = 2 → chkE1 g i = 0) ∧ ((g i).2 = 0 → (g i).1 ≠ 2 → chkE1 g i = 4) ∧ ((g i).2 ≠ 0 → chkE1 g i = (g i).2)) := Lib.hid (chkE1_is g)
  have HX : Hid (chkE g t.ks.len = fstE (chkE1 g) 0 t.ks.len) := Lib.hid rfl
  clear h hg hc
  generalize chkE g t.ks.len = ce at HX ⊢
  generalize chkE1 g = cf at HX HP
  unfold ChkT at CG
  obtain ⟨tn, tcs, tf, tps, tprim, tus, tuq, tuqn, tfs, tfk, tfkn, tfkt, ⟨ka, kn, kc⟩, tch⟩ := t
  simp only at hle hmax hlen CT CG HK HX ⊢
  generalize (fun i => (tyL tf tcs.len).getD i 0) = tyf at CT CG
  go_enter Tryd.func100, Tryd.ntmps100
  go_wp2_with fail
  have hbl : (w.alloc (.cells #[.string tn, .slice tcs.a tcs.len tcs.cap, .slice tps.a tps.len tps.cap, .slice tus.a tus.len tus.cap, .slice tfs.a tfs.len tfs.cap, .slice ka kn kc] 53)).heap[w.heap.size]? = some (.cells #[.string tn, .slice tcs.a tcs.len tcs.cap, .slice tps.a tps.len tps.cap, .slice tus.a tus.len tus.cap, .slice tfs.a tfs.len tfs.cap, .slice ka kn kc] 53) := heap_alloc_new w _
  have HBL := Lib.hid hbl
  have HB0 : Hid (Below w.heap.size w (w.alloc (.cells #[.string tn, .slice tcs.a tcs.len tcs.cap, .slice tps.a tps.len tps.cap, .slice tus.a tus.len tus.cap, .slice tfs.a tfs.len tfs.cap, .slice ka kn kc] 53))) := Lib.hid (by repeat first | with_reducible exact Below.refl _ _ | with_reducible refine Below.setCell ?_ (by first | omega | (simp; done) | (simp; omega)) _ | with_reducible refine Below.alloc ?_ (by first | omega | (simp; done) | (simp; omega)) _ | with_reducible refine Below.drew ?_ | with_reducible refine Ext.on _ ?_ (by first | omega | (simp; done) | (simp; omega)))
  have h0s : (w.alloc (.cells #[.string tn, .slice tcs.a tcs.len tcs.cap, .slice tps.a tps.len tps.cap, .slice tus.a tus.len tus.cap, .slice tfs.a tfs.len tfs.cap, .slice ka kn kc] 53)).heap.size = w.heap.size + 1 := by simp
  clear hbl
  generalize (w.alloc (.cells #[.string tn, .slice tcs.a tcs.len tcs.cap, .slice tps.a tps.len tps.cap, .slice tus.a tus.len tus.cap, .slice tfs.a tfs.len tfs.cap, .slice ka kn kc] 53)) = W0 at *
  go_loopw [10] (fun i wr => ∃ j : Nat, j ≤ kn ∧ i = .int .i64 j ∧ fstE cf 0 kn = fstE cf j (kn - j) ∧ Cls W0 wr) (fun i _ => kn - (intOf i).toNat)
  case atStart => exact ⟨0, Nat.zero_le _, rfl, rfl, Cls.of (Below.refl _ _)⟩
  case round =>
    obtain ⟨j, hj, rfl, he, x, rfl⟩ := hrel
    have HE := Lib.hid he
    clear he
    have xs := x.size
    have HBX : Hid (Below w.heap.size w x.val) := Lib.hid (HB0.out.trans (x.below.mono (by omega)))
    obtain ⟨b0, _, _, _, _, _, _, k0, k1, k2, k3, k4, k5⟩ := six_z ((x.below.block _ (by omega)).trans HBL.out)
    by_cases hltj : j < kn
    · obtain ⟨ea, en, ep, ⟨b, off, ha, hb2, -, q0, q1, q2, q3, q4, q5⟩, hfine, hkk⟩ := HK.out.at_ (i := j) hltj
      subst ha
      rw [← HBX.out.cell (p := ⟨b, _, none⟩) hb2] at q0 q1 q2 q3 q4 q5
      have HKK := Lib.hid hkk
      have hb3 : b < x.val.heap.size := by omega
      have hS : Hid (kn - j = (kn - (j + 1)) + 1) := Lib.hid (by omega)
      have hP := Lib.hid (HP.out j)
      have C1 := Lib.hid (CG.out j (by omega))
      clear hkk hfine
      generalize g j = gj at hP C1
      obtain ⟨g1, g2⟩ := gj
      simp only at hP C1
      generalize tch.getD j Ex.z = e at q0 q1 q2 q3 q4 q5 C1 HKK
      have hbn : (x.val.alloc (.cells #[.int .i64 e.op, .int .i64 e.ty, .int .i64 e.num, .string e.text, .int .i64 e.col, .slice ea en ep] 30)).heap[x.val.heap.size]? = some (.cells #[.int .i64 e.op, .int .i64 e.ty, .int .i64 e.num, .string e.text, .int .i64 e.col, .slice ea en ep] 30) := heap_alloc_new _ _
      have HBN := Lib.hid hbn
      have HBA : Hid (Below w.heap.size w (x.val.alloc (.cells #[.int .i64 e.op, .int .i64 e.ty, .int .i64 e.num, .string e.text, .int .i64 e.col, .slice ea en ep] 30))) := Lib.hid (HBX.out.trans (((Below.refl _ _).alloc (Nat.le_refl _) _).mono HBX.out.size))
      have HXA : Hid (Below W0.heap.size W0 (x.val.alloc (.cells #[.int .i64 e.op, .int .i64 e.ty, .int .i64 e.num, .string e.text, .int .i64 e.col, .slice ea en ep] 30))) := Lib.hid (x.below.trans (((Below.refl _ _).alloc (Nat.le_refl _) _).mono x.size))
      have has : (x.val.alloc (.cells #[.int .i64 e.op, .int .i64 e.ty, .int .i64 e.num, .string e.text, .int .i64 e.col, .slice ea en ep] 30)).heap.size = x.val.heap.size + 1 := by simp
      have HBQ := Lib.hid ((Below.heap_alloc x.val (.cells #[.int .i64 e.op, .int .i64 e.ty, .int .i64 e.num, .string e.text, .int .i64 e.col, .slice ea en ep] 30) w.heap.size b0).trans ((x.below.block _ (by omega)).trans HBL.out))
      clear hbn
      by_cases h2 : g2 = 0
      · subst h2
        by_cases h1 : g1 = 2
        · subst h1
          have hP3 : Hid (cf j = 0) := Lib.hid (hP.out.1 rfl rfl)
          clear hP
          go_wp2_with fail
          generalize (x.val.alloc (.cells #[.int .i64 e.op, .int .i64 e.ty, .int .i64 e.num, .string e.text, .int .i64 e.col, .slice ea en ep] 30)) = WA at HBN HBA HXA has HBQ ⊢
          obtain ⟨c0, _, _, _, _, _, _, m0, m1, m2, m3, m4, m5⟩ := six_z HBQ.out
          obtain ⟨c1, _, _, _, _, _, _, p0, p1, p2, p3, p4, p5⟩ := six_z HBN.out
          refine wp_region_lin (by kernel_rfl) (by kernel_rfl) ?_
          intro y0
          have y0s := y0.size
          repeat (refine lin_calm rfl ?_; intro KK hKK; go_big_quiet_step (fail); refine wpQuiet_nil ?_; refine hKK _ ?_; clear hKK KK)
          refine lin_free rfl ?_
          intro KK hKK
          go_wp2_with (go_at_call 64; ((with_reducible refine (CT.out _ (HBA.out.trans (y0.below.mono HBA.out.size))).mono ?_); rintro r w2 ⟨⟨sa, sn, sp⟩, he, hsl, hsat, z, rfl⟩; have he2 : r = .returned (.slice sa sn sp) := he; clear he; subst he2; have HSA := Lib.hid hsat; have zs := z.size; have hsl2 : sn = tcs.len := hsl; have HSL := Lib.hid hsl2; clear hsat hsl hsl2))
          have hzb := z.on (y0.on (Below.refl _ _) (Nat.le_refl _)) (by omega)
          refine hKK _ _ (.inr ⟨⟨z.val, hzb⟩, rfl⟩) ?_
          clear hKK KK
          have HZB := Lib.hid hzb
          repeat (refine lin_calm rfl ?_; intro KK hKK; go_big_quiet_step (fail); refine wpQuiet_nil ?_; refine hKK _ ?_; clear hKK KK)
          refine lin_free rfl ?_
          intro KK hKK
          have HBZ : Hid (Below w.heap.size w z.val) := Lib.hid (HBA.out.trans (HZB.out.mono HBA.out.size))
          go_wp2_with (go_at_call 11; ((with_reducible refine (C1.out z.val ⟨sa, sn, sp⟩ ea en ep HBZ.out HSL.out HSA.out (HKK.out.later HBZ.out)).mono ?_); rintro r _ ⟨rfl, v, rfl⟩; have vs := v.size))
          have HVB := Lib.hid (v.on HZB.out (by omega))
          refine hKK _ _ (.inr ⟨⟨v.val, HVB.out⟩, rfl⟩) ?_
          clear hKK KK
          repeat (refine lin_calm rfl ?_; intro KK hKK; go_big_quiet_step (fail); refine wpQuiet_nil ?_; refine hKK _ ?_; clear hKK KK)
          refine lin_nil ?_
          go_wp2_with fail
          go_roundw
          case rel => exact ⟨j + 1, by omega, by go_num, by rw [HE.out, hS.out, fstE_go hP3.out], Cls.of (HXA.out.trans (HVB.out.mono HXA.out.size))⟩
          case measure => simp [intOf]; omega
        · have d1 : (g1 == 2) = false := by simp [h1]
          have d1' : (g1 != 2) = true := by simp [h1]
          have hP3 : Hid (cf j = 4) := Lib.hid (hP.out.2.1 rfl h1)
          clear hP h1
          go_wp2_with fail
          generalize (x.val.alloc (.cells #[.int .i64 e.op, .int .i64 e.ty, .int .i64 e.num, .string e.text, .int .i64 e.col, .slice ea en ep] 30)) = WA at HBN HBA HXA has HBQ ⊢
          obtain ⟨c0, _, _, _, _, _, _, m0, m1, m2, m3, m4, m5⟩ := six_z HBQ.out
          obtain ⟨c1, _, _, _, _, _, _, p0, p1, p2, p3, p4, p5⟩ := six_z HBN.out
          refine wp_region_lin (by kernel_rfl) (by kernel_rfl) ?_
          intro y0
          have y0s := y0.size
          repeat (refine lin_calm rfl ?_; intro KK hKK; go_big_quiet_step (fail); refine wpQuiet_nil ?_; refine hKK _ ?_; clear hKK KK)
          refine lin_free rfl ?_
          intro KK hKK
          go_wp2_with (go_at_call 64; ((with_reducible refine (CT.out _ (HBA.out.trans (y0.below.mono HBA.out.size))).mono ?_); rintro r w2 ⟨⟨sa, sn, sp⟩, he, hsl, hsat, z, rfl⟩; have he2 : r = .returned (.slice sa sn sp) := he; clear he; subst he2; have HSA := Lib.hid hsat; have zs := z.size; have hsl2 : sn = tcs.len := hsl; have HSL := Lib.hid hsl2; clear hsat hsl hsl2))
          have hzb := z.on (y0.on (Below.refl _ _) (Nat.le_refl _)) (by omega)
          refine hKK _ _ (.inr ⟨⟨z.val, hzb⟩, rfl⟩) ?_
          clear hKK KK
          have HZB := Lib.hid hzb
          repeat (refine lin_calm rfl ?_; intro KK hKK; go_big_quiet_step (fail); refine wpQuiet_nil ?_; refine hKK _ ?_; clear hKK KK)
          refine lin_free rfl ?_
          intro KK hKK
          have HBZ : Hid (Below w.heap.size w z.val) := Lib.hid (HBA.out.trans (HZB.out.mono HBA.out.size))
          go_wp2_with (go_at_call 11; ((with_reducible refine (C1.out z.val ⟨sa, sn, sp⟩ ea en ep HBZ.out HSL.out HSA.out (HKK.out.later HBZ.out)).mono ?_); rintro r _ ⟨rfl, v, rfl⟩; have vs := v.size))
          have HVB := Lib.hid (v.on HZB.out (by omega))
          refine hKK _ _ (.inr ⟨⟨v.val, HVB.out⟩, rfl⟩) ?_
          clear hKK KK
          repeat (refine lin_calm rfl ?_; intro KK hKK; go_big_quiet_step (fail); refine wpQuiet_nil ?_; refine hKK _ ?_; clear hKK KK)
          refine lin_nil ?_
          go_wp2_with fail
          go_ret
          exact ⟨ret_int (by rw [HX.out, HE.out, hS.out, fstE_stop (by rw [hP3.out]; decide), hP3.out]), Cls.of (HBA.out.trans (HVB.out.mono HBA.out.size))⟩
      · have d1 : (g2 == 0) = false := by simp [h2]
        have d1' : (g2 != 0) = true := by simp [h2]
        have hP3 : Hid (cf j = g2) := Lib.hid (hP.out.2.2 h2)
        have HG2 := Lib.hid h2
        clear hP h2
        go_wp2_with fail
        generalize (x.val.alloc (.cells #[.int .i64 e.op, .int .i64 e.ty, .int .i64 e.num, .string e.text, .int .i64 e.col, .slice ea en ep] 30)) = WA at HBN HBA HXA has HBQ ⊢
        obtain ⟨c0, _, _, _, _, _, _, m0, m1, m2, m3, m4, m5⟩ := six_z HBQ.out
        obtain ⟨c1, _, _, _, _, _, _, p0, p1, p2, p3, p4, p5⟩ := six_z HBN.out
        refine wp_region_lin (by kernel_rfl) (by kernel_rfl) ?_
        intro y0
        have y0s := y0.size
        repeat (refine lin_calm rfl ?_; intro KK hKK; go_big_quiet_step (fail); refine wpQuiet_nil ?_; refine hKK _ ?_; clear hKK KK)
        refine lin_free rfl ?_
        intro KK hKK
        go_wp2_with (go_at_call 64; ((with_reducible refine (CT.out _ (HBA.out.trans (y0.below.mono HBA.out.size))).mono ?_); rintro r w2 ⟨⟨sa, sn, sp⟩, he, hsl, hsat, z, rfl⟩; have he2 : r = .returned (.slice sa sn sp) := he; clear he; subst he2; have HSA := Lib.hid hsat; have zs := z.size; have hsl2 : sn = tcs.len := hsl; have HSL := Lib.hid hsl2; clear hsat hsl hsl2))
        have hzb := z.on (y0.on (Below.refl _ _) (Nat.le_refl _)) (by omega)
        refine hKK _ _ (.inr ⟨⟨z.val, hzb⟩, rfl⟩) ?_
        clear hKK KK
        have HZB := Lib.hid hzb
        repeat (refine lin_calm rfl ?_; intro KK hKK; go_big_quiet_step (fail); refine wpQuiet_nil ?_; refine hKK _ ?_; clear hKK KK)
        refine lin_free rfl ?_
        intro KK hKK
        have HBZ : Hid (Below w.heap.size w z.val) := Lib.hid (HBA.out.trans (HZB.out.mono HBA.out.size))
        go_wp2_with (go_at_call 11; ((with_reducible refine (C1.out z.val ⟨sa, sn, sp⟩ ea en ep HBZ.out HSL.out HSA.out (HKK.out.later HBZ.out)).mono ?_); rintro r _ ⟨rfl, v, rfl⟩; have vs := v.size))
        have HVB := Lib.hid (v.on HZB.out (by omega))
        refine hKK _ _ (.inr ⟨⟨v.val, HVB.out⟩, rfl⟩) ?_
        clear hKK KK
        repeat (refine lin_calm rfl ?_; intro KK hKK; go_big_quiet_step (fail); refine wpQuiet_nil ?_; refine hKK _ ?_; clear hKK KK)
        refine lin_nil ?_
        go_wp2_with fail
        go_ret
        exact ⟨ret_int (by rw [HX.out, HE.out, hS.out, fstE_stop (by rw [hP3.out]; exact HG2.out), hP3.out]), Cls.of (HBA.out.trans (HVB.out.mono HBA.out.size))⟩
    · have hz : Hid (kn - j = 0) := Lib.hid (by omega)
      go_wp2_with fail
      go_ret
      exact ⟨ret_int (by rw [HX.out, HE.out, hz.out]; rfl), Cls.of HBX.out⟩
end Go.Proofs.YtpddkljedhghkaaDoor
set_option linter.unusedVariables false
namespace Go.Proofs.YtpddkljedhghkaaDoor
open Go Go.RowKit Go.Deep
def fksP (t o : Tb) (f g : Nat → Int) (i : Nat) : Bool := !((t.col (f i).toNat).ty == (o.col (g i).toNat).ty)
/-- Two lists of columns have the same types. -/
def fksB (t o : Tb) (f g : Nat → Int) (n m : Nat) : Bool := decide (n = m) && decide (idx (fksP t o f g) 0 n < 0)
set_option maxHeartbeats 4000000 in
set_option maxRecDepth 20000 in
theorem fksFn_calls (t o : Tb) (c k : Int) (bx by_ : Nat) (w : World) (h : TbAt w t) (h' : TbAt w o) (hb : w.heap[bx]? = some (.cells #[.string t.name, .slice t.cs.a t.cs.len t.cs.cap, .slice t.ps.a t.ps.len t.ps.cap, .slice t.us.a t.us.len t.us.cap, .slice t.fs.a t.fs.len t.fs.cap, .slice t.ks.a t.ks.len t.ks.cap] 53)) (hb' : w.heap[by_]? = some (.cells #[.string o.name, .slice o.cs.a o.cs.len o.cs.cap, .slice o.ps.a o.ps.len o.ps.cap, .slice o.us.a o.us.len o.us.cap, .slice o.fs.a o.fs.len o.fs.cap, .slice o.ks.a o.ks.len o.ks.cap] 53)) (h0 : 0 ≤ c) (h1 : c < t.cs.len) (h2 : 0 ≤ k) (h3 : k < o.cs.len) :
    Calls Tryd.prog 134 #[.int .i64 c, .int .i64 k, .pointer (some ⟨bx, 0, none⟩), .pointer (some ⟨by_, 0, none⟩)] w fun r w' => r = .returned (.bool ((t.col c.toNat).ty == (o.col k.toNat).ty)) ∧ Cls w w' := by
  obtain ⟨n, rfl⟩ : ∃ n : Nat, c = n := ⟨c.toNat, by omega⟩
  obtain ⟨m, rfl⟩ : ∃ n : Nat, k = n := ⟨k.toNat, by omega⟩
  have hle := h.cols.1
  have hmax := h.cols.2.1
  have hle' := h'.cols.1
  have hmax' := h'.cols.2.1
  unfold maxLen at hmax hmax'
  obtain ⟨b, off, ha, hb2, hc⟩ := h.cols.2.2.2 n (by omega)
  obtain ⟨b', off', ha', hb2', hc'⟩ := h'.cols.2.2.2 m (by omega)
  have q0 := hc 0 (by omega)
  have q1 := hc 1 (by omega)
  have q2 := hc 2 (by omega)
  have r0 := hc' 0 (by omega)
  have r1 := hc' 1 (by omega)
  have r2 := hc' 2 (by omega)
  simp only [Cl.cells, List.getElem?_cons_zero, List.getElem?_cons_succ, Nat.add_zero] at q0 q1 q2 r0 r1 r2
  obtain ⟨b0, _, _, _, _, _, _, k0, k1, k2, k3, k4, k5⟩ := six_z hb
  obtain ⟨b1, _, _, _, _, _, _, m0, m1, m2, m3, m4, m5⟩ := six_z hb'
  simp only [Int.toNat_natCast]
  generalize t.col n = u at q0 q1 q2 ⊢
  generalize o.col m = v at r0 r1 r2 ⊢
  rw [ha] at k1
  rw [ha'] at m1
  clear hc hc' h h' hb hb' ha ha' k0 k2 k3 k4 k5 m0 m2 m3 m4 m5
  generalize t.cs.len = cn at *
  generalize o.cs.len = on at *
  go_enter Tryd.func134, Tryd.ntmps134
  go_wp2_with fail
  refine wp_region_ext (by kernel_rfl) (by kernel_rfl) ?_
  repeat (go_big_quiet_step (fail))
  refine wpQuiet_nil ?_
  rintro _ ⟨y, rfl⟩
  go_wp2_with fail
  go_ret
  exact ⟨ret_bool rfl, y, rfl⟩
set_option maxHeartbeats 4000000 in
set_option maxRecDepth 20000 in
theorem equalF_calls (t o : Tb) (s s' : Sl) (f g : Nat → Int) (bx by_ : Nat) (w : World) (h : TbAt w t) (h' : TbAt w o) (hb : w.heap[bx]? = some (.cells #[.string t.name, .slice t.cs.a t.cs.len t.cs.cap, .slice t.ps.a t.ps.len t.ps.cap, .slice t.us.a t.us.len t.us.cap, .slice t.fs.a t.fs.len t.fs.cap, .slice t.ks.a t.ks.len t.ks.cap] 53)) (hb' : w.heap[by_]? = some (.cells #[.string o.name, .slice o.cs.a o.cs.len o.cs.cap, .slice o.ps.a o.ps.len o.ps.cap, .slice o.us.a o.us.len o.us.cap, .slice o.fs.a o.fs.len o.fs.cap, .slice o.ks.a o.ks.len o.ks.cap] 53)) (hs : SlAt w 1 s (intC f)) (hs' : SlAt w 1 s' (intC g))
    (hin : ∀ i, i < s.len → 0 ≤ f i ∧ f i < t.cs.len) (hin' : ∀ i, i < s'.len → 0 ≤ g i ∧ g i < o.cs.len) :
    Calls Tryd.prog 133 #[.slice s.a s.len s.cap, .slice s'.a s'.len s'.cap, .func (.func 134) #[] #[.pointer (some ⟨bx, 0, none⟩), .pointer (some ⟨by_, 0, none⟩)]] w fun r w' => r = .returned (.bool (fksB t o f g s.len s'.len)) ∧ Cls w w' := by
  have hle := hs.1
  have hmax := hs.2.1
  have hle' := hs'.1
  have hmax' := hs'.2.1
  unfold maxLen at hmax hmax'
  have H := Lib.hid hs.2.2.2
  have H' := Lib.hid hs'.2.2.2
  have HT : Hid (∀ j, j < s.len → j < s'.len → ∀ W, Below w.heap.size w W → Calls Tryd.prog 134 #[.int .i64 (f j), .int .i64 (g j), .pointer (some ⟨bx, 0, none⟩), .pointer (some ⟨by_, 0, none⟩)] W fun r w' => r = .returned (.bool ((t.col (f j).toNat).ty == (o.col (g j).toNat).ty)) ∧ Cls W w') := Lib.hid fun j hj hj' W hW => fksFn_calls t o (f j) (g j) bx by_ W (h.later hW) (h'.later hW) ((hW.block _ (Array.getElem?_eq_some_iff.1 hb).1).trans hb) ((hW.block _ (Array.getElem?_eq_some_iff.1 hb').1).trans hb') (hin j hj).1 (hin j hj).2 (hin' j hj').1 (hin' j hj').2
  have HP : Hid (∀ j, fksP t o f g j = !((t.col (f j).toNat).ty == (o.col (g j).toNat).ty)) := Lib.hid fun j => rfl
  unfold fksB
  clear hs hs' h h' hb hb' hin hin'
  generalize fksP t o f g = fp at HP ⊢
  obtain ⟨sa, sn, sc⟩ := s
  obtain ⟨ta, tn, tc⟩ := s'
  simp only at hle hmax hle' hmax' H H' HT ⊢
  go_enter Tryd.func133, Tryd.ntmps133
  by_cases hnm : sn = tn
  · subst hnm
    have e0 : decide (sn = sn) = true := by simp
    rw [e0, Bool.true_and]
    clear e0
    go_wp2_with fail
    go_loopw [17] (fun i wr => ∃ j : Nat, j ≤ sn ∧ i = .int .i64 j ∧ idx fp 0 sn = idx fp j (sn - j) ∧ Cls w wr) (fun i _ => sn - (intOf i).toNat)
    case atStart => exact ⟨0, Nat.zero_le _, rfl, rfl, Cls.of (Below.refl _ _)⟩
    case round =>
      obtain ⟨j, hj, rfl, he, x, rfl⟩ := hrel
      have HE := Lib.hid he
      clear he
      have xs := x.size
      by_cases hltj : j < sn
      · obtain ⟨b, off, ha, hb2, hc⟩ := H.out j hltj
        obtain ⟨b', off', ha', hb2', hc'⟩ := H'.out j hltj
        subst ha ha'
        have q0 := hc 0 (by omega)
        have r0 := hc' 0 (by omega)
        simp only [intC, List.getElem?_cons_zero, Nat.add_zero, Nat.mul_one] at q0 r0
        have hS : Hid (sn - j = (sn - (j + 1)) + 1) := Lib.hid (by omega)
        have C1 := Lib.hid (HT.out j hltj hltj)
        have hP := Lib.hid (HP.out j)
        clear hc hc'
        generalize ((t.col (f j).toNat).ty == (o.col (g j).toNat).ty) = bb at C1 hP
        generalize f j = tj at q0 C1
        generalize g j = uj at r0 C1
        cases bb
        all_goals
          go_wp2_with (go_at_call 134; ((with_reducible refine (Cls.call (C1.out _ x.below)).mono ?_); rintro r _ ⟨rfl, y, rfl⟩))
        · go_ret
          exact ⟨ret_bool (by rw [HE.out, hS.out, idx_stop hP.out]; first | (simp; done) | (simp; omega)), y, rfl⟩
        · go_roundw
          case rel => exact ⟨j + 1, by omega, by go_num, by rw [HE.out, hS.out, idx_go hP.out], y, rfl⟩
          case measure => simp [intOf]; omega
      · have hz : Hid (sn - j = 0) := Lib.hid (by omega)
        go_wp2_with fail
        go_ret
        exact ⟨ret_bool (by rw [HE.out, hz.out]; rfl), x, rfl⟩
  · have e0 : decide (sn = tn) = false := by simp [hnm]
    rw [e0, Bool.false_and]
    have d1 : ((sn : Int) == (tn : Int)) = false := by simp; omega
    have d2 : ((sn : Int) != (tn : Int)) = true := by simp; omega
    clear e0
    go_wp2_with fail
    go_ret
    exact ⟨ret_bool rfl, Cls.of (Below.refl _ _)⟩
set_option maxHeartbeats 4000000 in
set_option maxRecDepth 20000 in
theorem fits_calls (t o : Tb) (s : Sl) (f : Nat → Int) (w : World) (h : TbAt w t) (h' : TbAt w o) (hs : SlAt w 1 s (intC f)) (hin : ∀ i, i < s.len → 0 ≤ f i ∧ f i < t.cs.len) (hin' : ∀ i, i < o.ps.len → 0 ≤ o.prim i ∧ o.prim i < o.cs.len) :
    Calls Tryd.prog 102 #[.agg #[.string t.name, .slice t.cs.a t.cs.len t.cs.cap, .slice t.ps.a t.ps.len t.ps.cap, .slice t.us.a t.us.len t.us.cap, .slice t.fs.a t.fs.len t.fs.cap, .slice t.ks.a t.ks.len t.ks.cap], .slice s.a s.len s.cap, .agg #[.string o.name, .slice o.cs.a o.cs.len o.cs.cap, .slice o.ps.a o.ps.len o.ps.cap, .slice o.us.a o.us.len o.us.cap, .slice o.fs.a o.fs.len o.fs.cap, .slice o.ks.a o.ks.len o.ks.cap]] w fun r w' => r = .returned (.bool (fksB t o f o.prim s.len o.ps.len)) ∧ Cls w w' := by
  have C1 : Hid (∀ W, Below w.heap.size w W → W.heap[w.heap.size]? = some (.cells #[.string t.name, .slice t.cs.a t.cs.len t.cs.cap, .slice t.ps.a t.ps.len t.ps.cap, .slice t.us.a t.us.len t.us.cap, .slice t.fs.a t.fs.len t.fs.cap, .slice t.ks.a t.ks.len t.ks.cap] 53) → W.heap[w.heap.size + 1]? = some (.cells #[.string o.name, .slice o.cs.a o.cs.len o.cs.cap, .slice o.ps.a o.ps.len o.ps.cap, .slice o.us.a o.us.len o.us.cap, .slice o.fs.a o.fs.len o.fs.cap, .slice o.ks.a o.ks.len o.ks.cap] 53) → Calls Tryd.prog 133 #[.slice s.a s.len s.cap, .slice o.ps.a o.ps.len o.ps.cap, .func (.func 134) #[] #[.pointer (some ⟨w.heap.size, 0, none⟩), .pointer (some ⟨w.heap.size + 1, 0, none⟩)]] W fun r w' => r = .returned (.bool (fksB t o f o.prim s.len o.ps.len)) ∧ Cls W w') := Lib.hid fun W hW hb hb' => equalF_calls t o s o.ps f o.prim _ _ W (h.later hW) (h'.later hW) hb hb' (hs.later hW) (h'.prim.later hW) hin hin'
  clear h h' hs hin hin'
  generalize fksB t o f o.prim s.len o.ps.len = bb at C1 ⊢
  go_enter Tryd.func102, Tryd.ntmps102
  go_wp2_with (go_at_call 133; ((with_reducible refine (C1.out _ ?_ ?_ ?_).mono ?_); (· repeat first | with_reducible exact Below.refl _ _ | with_reducible refine Below.setCell ?_ (by first | omega | (simp; done) | (simp; omega)) _ | with_reducible refine Below.alloc ?_ (by first | omega | (simp; done) | (simp; omega)) _ | with_reducible refine Below.drew ?_ | with_reducible refine Ext.on _ ?_ (by first | omega | (simp; done) | (simp; omega))); (· exact (Below.heap_alloc _ _ _ (by simp)).trans (heap_alloc_new w _)); (· exact heap_alloc_at _ _ (by simp)); rintro r _ ⟨rfl, y, rfl⟩))
  go_ret
  refine ⟨ret_bool rfl, Cls.of ?_⟩
  repeat first | with_reducible exact Below.refl _ _ | with_reducible refine Below.setCell ?_ (by first | omega | (simp; done) | (simp; omega)) _ | with_reducible refine Below.alloc ?_ (by first | omega | (simp; done) | (simp; omega)) _ | with_reducible refine Below.drew ?_ | with_reducible refine Ext.on _ ?_ (by first | omega | (simp; done) | (simp; omega))
end Go.Proofs.YtpddkljedhghkaaDoor
set_option linter.unusedVariables false
namespace Go.Proofs.YtpddkljedhghkaaDoor
open Go Go.RowKit Go.Deep Go.Maps
/-- A slice as it stands, whatever it leads to. -/
def codeR : Value → Option (DataW Unit × List MemPlace)
  | .slice none 0 0 => some (.nil, [])
  | .slice (some ⟨g, 0, none⟩) n c => some (.agg [.lit (.int .i64 (g : Nat)), .lit (.int .i64 (n : Nat)), .lit (.int .i64 (c : Nat))], [])
  | _ => none
def nilV : Value := .slice none 0 0
theorem codeR_nil : codeR nilV = some (.nil, []) := rfl
theorem codeR_some (g n c : Nat) : codeR (.slice (some ⟨g, 0, none⟩) n c) = some (.agg [.lit (.int .i64 (g : Nat)), .lit (.int .i64 (n : Nat)), .lit (.int .i64 (c : Nat))], []) := rfl
theorem codeR_inv {v : Value} {d : DataW Unit} {ps : List MemPlace} (h : codeR v = some (d, ps)) : (v = nilV ∧ d = .nil) ∨ ∃ g n c, v = .slice (some ⟨g, 0, none⟩) n c ∧ d = .agg [.lit (.int .i64 (g : Nat)), .lit (.int .i64 (n : Nat)), .lit (.int .i64 (c : Nat))] := by
  unfold codeR at h
  split at h
  · simp only [Option.some.injEq, Prod.mk.injEq] at h
    exact .inl ⟨rfl, h.1.symm⟩
  · simp only [Option.some.injEq, Prod.mk.injEq] at h
    exact .inr ⟨_, _, _, rfl, h.1.symm⟩
  · cases h
theorem codeR_inj {v v' : Value} {d : DataW Unit} {ps ps' : List MemPlace} (h : codeR v = some (d, ps)) (h' : codeR v' = some (d, ps')) : v = v' := by
  rcases codeR_inv h with ⟨rfl, rfl⟩ | ⟨g, n, c, rfl, rfl⟩ <;> rcases codeR_inv h' with ⟨rfl, e⟩ | ⟨g', n', c', rfl, e⟩
  · rfl
  · cases e
  · cases e
  · simp only [DataW.agg.injEq, List.cons.injEq, DataW.lit.injEq, Lit.int.injEq, true_and, and_true] at e
    obtain ⟨e1, e2, e3⟩ := e
    have h1 : g = g' := by exact_mod_cast e1
    have h2 : n = n' := by exact_mod_cast e2
    have h3 : c = c' := by exact_mod_cast e3
    subst h1 h2 h3
    rfl
theorem keyL : Keyed Tryd.prog 3 := int_keyed Tryd.underlying3
theorem wf_key {j : Nat} (hj : j < 1000) : (Lit.int .i64 (j : Nat)).wf = true := by
  have h1 : IntKind.i64.min ≤ (j : Int) := Int.le_trans (by decide : IntKind.i64.min ≤ 0) (by omega)
  have h2 : (j : Int) ≤ IntKind.i64.max := Int.le_trans (by omega : (j : Int) ≤ 1000) (by decide)
  simp [Lit.wf]
  exact ⟨h1, h2⟩
theorem hkeyL {j : Nat} (hj : j < 1000) : keyOf Tryd.prog 3 (.int .i64 (j : Nat)) = some (.int .i64 (j : Nat)) := keyOf_int_mk Tryd.underlying3 (wf_key hj)
theorem zeroL (w : World) : (zeroValue 22).run Tryd.prog w = .ok (.slice none 0 0) w := by kernel_rfl
/-- Block B is a map of m entries: at key j stands f j, if anything. -/
def MapIs (w : World) (B c m : Nat) (f : Nat → Option Value) : Prop :=
  ∃ D : DataW Unit, w.ownsMap Tryd.prog 3 codeR B c D ∧ Maps.size D = m ∧ ∀ j : Nat, j < 1000 → Maps.has D (.int .i64 (j : Nat)) = (f j).isSome ∧ codeR ((f j).getD nilV) = some (D.atKey (.int .i64 (j : Nat)) .nil, [])
theorem MapIs.lt {w : World} {B c m : Nat} {f : Nat → Option Value} (h : MapIs w B c m f) : B < w.heap.size := by
  obtain ⟨D, h1, _⟩ := h
  exact h1.lt
theorem MapIs.grown {w w' : World} {B c m : Nat} {f : Nat → Option Value} {row : Option Nat} (h : MapIs w B c m f) (hg : w.grownBy w' row) (hr : some B ≠ row) : MapIs w' B c m f := by
  obtain ⟨D, h1, h2⟩ := h
  exact ⟨D, h1.kept hg hr, h2⟩
theorem MapIs.same {w w' : World} {B c m : Nat} {f : Nat → Option Value} (h : MapIs w B c m f) (hb : w'.heap[B]? = w.heap[B]?) : MapIs w' B c m f := by
  obtain ⟨D, ⟨es, clock, h0, r⟩, h2⟩ := h
  exact ⟨D, ⟨es, clock, hb.trans h0, r⟩, h2⟩
theorem MapIs.later {w w' : World} {B c m : Nat} {f : Nat → Option Value} (h : MapIs w B c m f) (hb : Below w.heap.size w w') : MapIs w' B c m f := h.same (hb.block B h.lt)
theorem MapIs.congr {w : World} {B c m m' : Nat} {f f' : Nat → Option Value} (h : MapIs w B c m f) (hm : m = m') (hf : ∀ j, j < 1000 → f j = f' j) : MapIs w B c m' f' := by
  subst hm
  obtain ⟨D, h1, h2, h3⟩ := h
  exact ⟨D, h1, h2, fun j hj => by rw [← hf j hj]; exact h3 j hj⟩
theorem MapIs.made (w : World) : MapIs (w.alloc (.map #[] 0)) w.heap.size 0 0 fun _ => none :=
  ⟨.map [], World.ownsMap_made w _ _ _, rfl, fun j hj => ⟨rfl, rfl⟩⟩
theorem MapIs.look {w : World} {B c m : Nat} {f : Nat → Option Value} (h : MapIs w B c m f) {j : Nat} (hj : j < 1000) : (Instr.lookup 123 (.map (some B)) (.int .i64 (j : Nat)) false).run Tryd.prog w = .ok ((f j).getD nilV) w := by
  obtain ⟨D, h1, _, h3⟩ := h
  obtain ⟨v, ps, hrun, hv⟩ := h1.lookup keyL Tryd.underlying123 (zeroL w) codeR_nil (hkeyL hj)
  rw [hrun, codeR_inj hv (h3 j hj).2]
theorem MapIs.look_ok {w : World} {B c m : Nat} {f : Nat → Option Value} (h : MapIs w B c m f) {j : Nat} (hj : j < 1000) : (Instr.lookup 123 (.map (some B)) (.int .i64 (j : Nat)) true).run Tryd.prog w = .ok (.tuple #[(f j).getD nilV, .bool (f j).isSome]) w := by
  obtain ⟨D, h1, _, h3⟩ := h
  obtain ⟨v, ps, hrun, hv⟩ := h1.look_ok keyL Tryd.underlying123 (zeroL w) codeR_nil (hkeyL hj)
  rw [hrun, codeR_inj hv (h3 j hj).2, (h3 j hj).1]
theorem MapIs.len {w : World} {B c m : Nat} {f : Nat → Option Value} (h : MapIs w B c m f) (ty : TypeId) : (Builtin.len_ #[123] ty #[.map (some B)]).run Tryd.prog w = .ok (.int .i64 (m : Nat)) w := by
  obtain ⟨D, h1, h2, _⟩ := h
  rw [h1.len Tryd.underlying123 ty, h2]
def upd (f : Nat → Option Value) (i : Nat) (v : Option Value) : Nat → Option Value := fun j => if j = i then v else f j
theorem upd_at {f : Nat → Option Value} {i : Nat} {v : Option Value} : upd f i v i = v := if_pos rfl
theorem upd_ne {f : Nat → Option Value} {i j : Nat} {v : Option Value} (h : j ≠ i) : upd f i v j = f j := if_neg h
theorem lit_ne {i j : Nat} (h : j ≠ i) : (Lit.int .i64 (j : Nat)) ≠ Lit.int .i64 (i : Nat) := fun e => by
  simp only [Lit.int.injEq, true_and] at e
  omega
theorem MapIs.store {w : World} {B c m : Nat} {f : Nat → Option Value} (h : MapIs w B c m f) {i : Nat} (hi : i < 1000) (hc : c < maxLen) {v : Value} {d : DataW Unit} (hv : codeR v = some (d, [])) :
    ∃ w', (Instr.mapUpdate 123 (.map (some B)) (.int .i64 (i : Nat)) v).run Tryd.prog w = .ok () w' ∧ MapIs w' B (c + 1) (if (f i).isSome then m else m + 1) (upd f i (some v)) ∧ w.mapTurned w' B := by
  obtain ⟨D, h1, h2, h3⟩ := h
  obtain ⟨w', hrun, hown, ht⟩ := h1.store keyL Tryd.underlying123 hc (hkeyL hi) hv
  refine ⟨w', hrun, ⟨_, hown, ?_, fun j hj => ?_⟩, ht⟩
  · rw [size_put (h1.tidy keyL), (h3 i hi).1, h2]
  · by_cases e : j = i
    · subst e
      rw [upd_at, has_put_same h1.isMap (keyL.key (hkeyL hi)), atKey_put_same h1.isMap (keyL.key (hkeyL hi))]
      exact ⟨rfl, hv⟩
    · rw [upd_ne e, has_put_other (lit_ne e), atKey_put_other (lit_ne e)]
      exact h3 j hj
theorem MapIs.drop {w : World} {B c m : Nat} {f : Nat → Option Value} (h : MapIs w B c m f) {i : Nat} (hi : i < 1000) (ty : TypeId) :
    ∃ w', (Builtin.delete_ #[123, 3] ty #[.map (some B), .int .i64 (i : Nat)]).run Tryd.prog w = .ok (.tuple #[]) w' ∧ (∃ m', MapIs w' B c m' (upd f i none) ∧ ((f i).isSome = true → m' + 1 = m)) ∧ w.mapTurned w' B := by
  obtain ⟨D, h1, h2, h3⟩ := h
  obtain ⟨w', hrun, hown, ht⟩ := h1.drop keyL Tryd.underlying123 (hkeyL hi) ty
  refine ⟨w', hrun, ⟨_, ⟨_, hown, rfl, fun j hj => ?_⟩, fun hs => ?_⟩, ht⟩
  rotate_left
  · have h4 := size_del (k := .int .i64 (i : Nat)) (h1.tidy keyL)
    rw [(h3 i hi).1, hs, h2, if_pos rfl] at h4
    exact h4
  · by_cases e : j = i
    · subst e
      rw [upd_at, has_del_same, atKey_del_same]
      exact ⟨rfl, rfl⟩
    · rw [upd_ne e, has_del_other (lit_ne e), atKey_del_other (lit_ne e)]
      exact h3 j hj
/-! ### at the operation -/
section
variable (w : World) {ops : Array Oper} {rest : List Oper} {o : Oper} {a : Act} {Q : Exit → Act → World → Prop}
theorem wpList_store_z (hg : o.guard = none) (m x v : Operand) (hop : o.op = Op.mapUpdate 123 m x v) (B c n : Nat) (f : Nat → Option Value) (hm : a.eval m = .map (some B)) (hown : MapIs w B c n f) (hc : c < maxLen) (i : Nat) (hi : i < 1000) (val : Value) (hx : a.eval x = .int .i64 (i : Nat)) (hv : a.eval v = val)
    (d : DataW Unit) (hval : codeR val = some (d, [])) (hK : ∀ w', MapIs w' B (c + 1) (if (f i).isSome then n else n + 1) (upd f i (some val)) → w.grownBy w' (some B) → wpList Tryd.prog ops Q rest (a.put o.dst undef) w') : wpList Tryd.prog ops Q (o :: rest) a w := by
  refine wpList_plain hg fun K' hK' => ?_
  obtain ⟨w', hrun, r1, r2⟩ := hown.store hi hc hval
  unfold Oper.wp
  simp [execOp, hop, hm, hx, hv, hrun, Result.andThen]
  exact hK' _ _ (hK w' r1 r2.grown)
theorem wpList_drop_z (hg : o.guard = none) (m x : Operand) (hop : o.op = Op.call { callee := Callee.builtin Builtin.delete, args := #[m, x], argTypes := #[123, 3] }) (B c n : Nat) (f : Nat → Option Value) (hm : a.eval m = .map (some B)) (hown : MapIs w B c n f) (i : Nat) (hi : i < 1000) (hx : a.eval x = .int .i64 (i : Nat))
    (hK : ∀ w' m', MapIs w' B c m' (upd f i none) → ((f i).isSome = true → m' + 1 = n) → w.grownBy w' (some B) → wpList Tryd.prog ops Q rest (a.put o.dst (.tuple #[])) w') : wpList Tryd.prog ops Q (o :: rest) a w := by
  refine wpList_plain hg fun K' hK' => ?_
  obtain ⟨w', hrun, ⟨m', r1, r3⟩, r2⟩ := hown.drop hi o.type
  unfold Oper.wp
  simp [execOp, hop, resolve, invoke, builtin, hm, hx, hrun, Result.andThen]
  exact hK' _ _ (hK w' m' r1 r3 r2.grown)
end
end Go.Proofs.YtpddkljedhghkaaDoor
