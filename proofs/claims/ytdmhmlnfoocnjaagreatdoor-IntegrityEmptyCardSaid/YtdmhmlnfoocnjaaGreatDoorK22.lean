/-
  The program's Type of the expressions that the tape makes.
-/
import Derived.Test.YtdmhmlnfoocnjaaGreatDoorK21
import Derived.Test.YtdmhmlnfoocnjaaGreatDoorK18
import Derived.Test.YtdmhmlnfoocnjaaGreatDoorK15
set_option linter.unusedVariables false
namespace Go.Proofs.YtdmhmlnfoocnjaaGreatDoor
open Go Go.RowKit Go.Deep
instance (o : ORow) (ks : List Int) : Decidable (Fits o ks) := inferInstanceAs (Decidable (∀ j, j < ks.length → ks.getD j 0 = if wantAt o j = -1 then oneAt o ks (j + 1) else wantAt o j))
def Row_ok (n : Nat) (x k : Int) (m : Nat) : Prop := Fits (oRow n) (List.replicate m x) ∧ givesOf (oRow n) (List.replicate m x) = k ∧ takesH (oRow n).has m = true
instance (n : Nat) (x k : Int) (m : Nat) : Decidable (Row_ok n x k m) := inferInstanceAs (Decidable (_ ∧ _ ∧ _))
theorem sig_few' {k op x : Int} {n : Nat} (h : Sig k op x n) : n ≤ 4 := by
  unfold Sig at h; omega
theorem sizL_le {l : List Ex} {M : Nat} (h : ∀ e ∈ l, sizE e ≤ M) : sizL l ≤ l.length * M := by
  induction l with
  | nil => simp [sizL]
  | cons k r ih =>
    have h1 := h k (by simp)
    have h2 := ih (fun e he => h e (by simp [he]))
    rw [sizL, List.length_cons, Nat.succ_mul]
    omega
theorem depL_le {l : List Ex} {M : Nat} (h : ∀ e ∈ l, depE e ≤ M) : depL l ≤ M := by
  induction l with
  | nil => simp [depL]
  | cons k r ih =>
    have h1 := h k (by simp)
    have h2 := ih (fun e he => h e (by simp [he]))
    rw [depL]
    omega
theorem Made.bounds {ty : List Int} {d : Nat} {k : Int} {e : Ex} (h : Made ty d k e) : depE e ≤ d + 1 ∧ sizE e ≤ 5 ^ (d + 1) := by
  induction h with
  | col k c hc h => exact ⟨by simp [depE, depL], by simp only [sizE, sizL]; exact Nat.one_le_pow _ _ (by decide)⟩
  | const k v h => exact ⟨by simp [depE, depL], by simp only [sizE, sizL]; exact Nat.one_le_pow _ _ (by decide)⟩
  | @case d k c a b hc ha hb ihc iha ihb =>
    have hp : 5 ^ (d + 1 + 1) = 5 ^ (d + 1) * 5 := Nat.pow_succ ..
    have h1 : 1 ≤ 5 ^ (d + 1) := Nat.one_le_pow _ _ (by decide)
    simp only [Ex.node, depE, depL, sizE, sizL]
    omega
  | @node d k op x l h hl2 ih =>
    have hp : 5 ^ (d + 1 + 1) = 5 ^ (d + 1) * 5 := Nat.pow_succ ..
    have h1 : 1 ≤ 5 ^ (d + 1) := Nat.one_le_pow _ _ (by decide)
    have h2 := depL_le (fun e he => (ih e he).1)
    have h3 := sizL_le (fun e he => (ih e he).2)
    have h4 := sig_few' h
    have h5 : l.length * 5 ^ (d + 1) ≤ 4 * 5 ^ (d + 1) := Nat.mul_le_mul_right _ h4
    simp only [Ex.node, depE, sizE]
    omega
end Go.Proofs.YtdmhmlnfoocnjaaGreatDoor
set_option linter.unusedVariables false
namespace Go.Proofs.YtdmhmlnfoocnjaaGreatDoor
open Go Go.RowKit Go.Deep
def ChkT (w : World) (t : Tb) (g : Nat → Int × Int) : Prop :=
  ∀ i, i < t.checks.length → ∀ (W : World) (s : Sl) (a : Option Addr) (len cap : Nat), Below w.heap.size w W → s.len = t.cs.len → SlAt W 1 s (intC fun i => (tyL t.col t.cs.len).getD i 0) → Kids W (fun _ => True) a len cap (t.checks.getD i Ex.z).kids →
    Calls Tryz.prog 109 #[.slice s.a s.len s.cap, .agg #[.int .i64 (t.checks.getD i Ex.z).op, .int .i64 (t.checks.getD i Ex.z).ty, .int .i64 (t.checks.getD i Ex.z).num, .string (t.checks.getD i Ex.z).text, .int .i64 (t.checks.getD i Ex.z).col, .slice a len cap]] W fun r w' => r = .returned (.tuple #[.int .i64 (g i).1, .int .i64 (g i).2]) ∧ Cls W w'
def chkE1 (g : Nat → Int × Int) (i : Nat) : Int := if (g i).2 = 0 then (if (g i).1 = 2 then 0 else 4) else (g i).2
theorem chkE1_is (g : Nat → Int × Int) (i : Nat) : ((g i).2 = 0 → (g i).1 = 2 → chkE1 g i = 0) ∧ ((g i).2 = 0 → (g i).1 ≠ 2 → chkE1 g i = 4) ∧ ((g i).2 ≠ 0 → chkE1 g i = (g i).2) := by
  unfold chkE1
  refine ⟨fun h1 h2 => ?_, fun h1 h2 => ?_, fun h1 => ?_⟩
  · rw [if_pos h1, if_pos h2]
  · rw [if_pos h1, if_neg h2]
  · rw [if_neg h1]
def chkE (g : Nat → Int × Int) (n : Nat) : Int := fstE (chkE1 g) 0 n
set_option maxHeartbeats 8000000 in
set_option maxRecDepth 20000 in
theorem checkError_calls (t : Tb) (g : Nat → Int × Int) (w : World) (h : TbAt w t) (hg : ChkT w t g) (hc : t.cs.len ≤ 1000) :
    Calls Tryz.prog 76 #[.agg #[.string t.name, .slice t.cs.a t.cs.len t.cs.cap, .slice t.ps.a t.ps.len t.ps.cap, .slice t.us.a t.us.len t.us.cap, .slice t.fs.a t.fs.len t.fs.cap, .slice t.ks.a t.ks.len t.ks.cap]] w fun r w' => r = .returned (.int .i64 (chkE g t.ks.len)) ∧ Cls w w' := by
  have hle := h.kids.le
  have hmax := h.kids.max
  have hlen := h.kids.len_eq
  unfold maxLen at hmax
  have CT : Hid (∀ W, Below w.heap.size w W → Calls Tryz.prog 110 #[.agg #[.string t.name, .slice t.cs.a t.cs.len t.cs.cap, .slice t.ps.a t.ps.len t.ps.cap, .slice t.us.a t.us.len t.us.cap, .slice t.fs.a t.fs.len t.fs.cap, .slice t.ks.a t.ks.len t.ks.cap]] W fun r w' => ∃ s : Sl, r = .returned s.v ∧ s.len = t.cs.len ∧ SlAt w' 1 s (intC fun i => (tyL t.col t.cs.len).getD i 0) ∧ Cls W w') := Lib.hid fun W hW => sTypes_calls t W (h.later hW) hc
  have CG := Lib.hid hg
  have HK := Lib.hid h.kids
  have HP : Hid (∀ i, ((g i).2 = 0 → (g i).1 = 2 → chkE1 g i = 0) ∧ ((g i).2 = 0 → (g i).1 ≠ 2 → chkE1 g i = 4) ∧ ((g i).2 ≠ 0 → chkE1 g i = (g i).2)) := Lib.hid (chkE1_is g)
  have HX : Hid (chkE g t.ks.len = fstE (chkE1 g) 0 t.ks.len) := Lib.hid rfl
  clear h hg hc
  generalize chkE g t.ks.len = ce at HX ⊢
  generalize chkE1 g = cf at HX HP
  unfold ChkT at CG
  obtain ⟨tn, tcs, tf, tps, tprim, tus, tuq, tuqn, tfs, tfk, tfkn, tfkt, ⟨ka, kn, kc⟩, tch⟩ := t
  simp only at hle hmax hlen CT CG HK HX ⊢
  generalize (fun i => (tyL tf tcs.len).getD i 0) = tyf at CT CG
  go_enter Tryz.func76, Tryz.ntmps76
  go_wp2_with fail
  have hbl : (w.alloc (.cells #[.string tn, .slice tcs.a tcs.len tcs.cap, .slice tps.a tps.len tps.cap, .slice tus.a tus.len tus.cap, .slice tfs.a tfs.len tfs.cap, .slice ka kn kc] 55)).heap[w.heap.size]? = some (.cells #[.string tn, .slice tcs.a tcs.len tcs.cap, .slice tps.a tps.len tps.cap, .slice tus.a tus.len tus.cap, .slice tfs.a tfs.len tfs.cap, .slice ka kn kc] 55) := heap_alloc_new w _
  have HBL := Lib.hid hbl
  have HB0 : Hid (Below w.heap.size w (w.alloc (.cells #[.string tn, .slice tcs.a tcs.len tcs.cap, .slice tps.a tps.len tps.cap, .slice tus.a tus.len tus.cap, .slice tfs.a tfs.len tfs.cap, .slice ka kn kc] 55))) := Lib.hid (by repeat first|with_reducible exact Below.refl _ _|with_reducible refine Below.setCell ?_ (by first|omega|(simp;done)|(simp;omega)) _|with_reducible refine Below.alloc ?_ (by first|omega|(simp;done)|(simp;omega)) _|with_reducible refine Below.drew ?_|with_reducible refine Ext.on _ ?_ (by first|omega|(simp;done)|(simp;omega)))
  have h0s : (w.alloc (.cells #[.string tn, .slice tcs.a tcs.len tcs.cap, .slice tps.a tps.len tps.cap, .slice tus.a tus.len tus.cap, .slice tfs.a tfs.len tfs.cap, .slice ka kn kc] 55)).heap.size = w.heap.size + 1 := by simp
  clear hbl
  generalize (w.alloc (.cells #[.string tn, .slice tcs.a tcs.len tcs.cap, .slice tps.a tps.len tps.cap, .slice tus.a tus.len tus.cap, .slice tfs.a tfs.len tfs.cap, .slice ka kn kc] 55)) = W0 at *
  go_loopw [10] (fun i wr => ∃ j : Nat, j ≤ kn ∧ i = .int .i64 j ∧ fstE cf 0 kn = fstE cf j (kn - j) ∧ Cls W0 wr) (fun i _ => kn - (intOf i).toNat)
  case atStart => exact ⟨0, Nat.zero_le _, rfl, rfl, Cls.of (Below.refl _ _)⟩
  case round =>
    obtain ⟨j, hj, rfl, he, x, rfl⟩ := hrel
    have HE := Lib.hid he
    clear he
    have xs := x.size
    have HBX : Hid (Below w.heap.size w x.val) := Lib.hid (HB0.out.trans (x.below.mono (by omega)))
    obtain ⟨b0, _, _, _, _, _, _, k0, k1, k2, k3, k4, k5⟩ := six_z ((x.below.block _ (by omega)).trans HBL.out)
    by_cases hltj : j < kn
    · obtain ⟨ea, en, ep, ⟨b, off, ha, hb2, -, q0, q1, q2, q3, q4, q5⟩, hfine, hkk⟩ := HK.out.at_ (i := j) hltj
      subst ha
      rw [← HBX.out.cell (p := ⟨b, _, none⟩) hb2] at q0 q1 q2 q3 q4 q5
      have HKK := Lib.hid hkk
      have hb3 : b < x.val.heap.size := by omega
      have hS : Hid (kn - j = (kn - (j + 1)) + 1) := Lib.hid (by omega)
      have hP := Lib.hid (HP.out j)
      have C1 := Lib.hid (CG.out j (by omega))
      clear hkk hfine
      generalize g j = gj at hP C1
      obtain ⟨g1, g2⟩ := gj
      simp only at hP C1
      generalize tch.getD j Ex.z = e at q0 q1 q2 q3 q4 q5 C1 HKK
      have hbn : (x.val.alloc (.cells #[.int .i64 e.op, .int .i64 e.ty, .int .i64 e.num, .string e.text, .int .i64 e.col, .slice ea en ep] 64)).heap[x.val.heap.size]? = some (.cells #[.int .i64 e.op, .int .i64 e.ty, .int .i64 e.num, .string e.text, .int .i64 e.col, .slice ea en ep] 64) := heap_alloc_new _ _
      have HBN := Lib.hid hbn
      have HBA : Hid (Below w.heap.size w (x.val.alloc (.cells #[.int .i64 e.op, .int .i64 e.ty, .int .i64 e.num, .string e.text, .int .i64 e.col, .slice ea en ep] 64))) := Lib.hid (HBX.out.trans (((Below.refl _ _).alloc (Nat.le_refl _) _).mono HBX.out.size))
      have HXA : Hid (Below W0.heap.size W0 (x.val.alloc (.cells #[.int .i64 e.op, .int .i64 e.ty, .int .i64 e.num, .string e.text, .int .i64 e.col, .slice ea en ep] 64))) := Lib.hid (x.below.trans (((Below.refl _ _).alloc (Nat.le_refl _) _).mono x.size))
      have has : (x.val.alloc (.cells #[.int .i64 e.op, .int .i64 e.ty, .int .i64 e.num, .string e.text, .int .i64 e.col, .slice ea en ep] 64)).heap.size = x.val.heap.size + 1 := by simp
      have HBQ := Lib.hid ((Below.heap_alloc x.val (.cells #[.int .i64 e.op, .int .i64 e.ty, .int .i64 e.num, .string e.text, .int .i64 e.col, .slice ea en ep] 64) w.heap.size b0).trans ((x.below.block _ (by omega)).trans HBL.out))
      clear hbn
      by_cases h2 : g2 = 0
      · subst h2
        by_cases h1 : g1 = 2
        · subst h1
          have hP3 : Hid (cf j = 0) := Lib.hid (hP.out.1 rfl rfl)
          clear hP
          go_wp2_with fail
          generalize (x.val.alloc (.cells #[.int .i64 e.op, .int .i64 e.ty, .int .i64 e.num, .string e.text, .int .i64 e.col, .slice ea en ep] 64)) = WA at HBN HBA HXA has HBQ ⊢
          obtain ⟨c0, _, _, _, _, _, _, m0, m1, m2, m3, m4, m5⟩ := six_z HBQ.out
          obtain ⟨c1, _, _, _, _, _, _, p0, p1, p2, p3, p4, p5⟩ := six_z HBN.out
          refine wp_region_lin (by kernel_rfl) (by kernel_rfl) ?_
          intro y0
          have y0s := y0.size
          repeat (refine lin_calm rfl ?_; intro KK hKK; go_big_quiet_step (fail); refine wpQuiet_nil ?_; refine hKK _ ?_; clear hKK KK)
          refine lin_free rfl ?_
          intro KK hKK
          go_wp2_with (go_at_call 110; ((with_reducible refine (CT.out _ (HBA.out.trans (y0.below.mono HBA.out.size))).mono ?_); rintro r w2 ⟨⟨sa, sn, sp⟩, he, hsl, hsat, z, rfl⟩; have he2 : r = .returned (.slice sa sn sp) := he; clear he; subst he2; have HSA := Lib.hid hsat; have zs := z.size; have hsl2 : sn = tcs.len := hsl; have HSL := Lib.hid hsl2; clear hsat hsl hsl2))
          have hzb := z.on (y0.on (Below.refl _ _) (Nat.le_refl _)) (by omega)
          refine hKK _ _ (.inr ⟨⟨z.val, hzb⟩, rfl⟩) ?_
          clear hKK KK
          have HZB := Lib.hid hzb
          repeat (refine lin_calm rfl ?_; intro KK hKK; go_big_quiet_step (fail); refine wpQuiet_nil ?_; refine hKK _ ?_; clear hKK KK)
          refine lin_free rfl ?_
          intro KK hKK
          have HBZ : Hid (Below w.heap.size w z.val) := Lib.hid (HBA.out.trans (HZB.out.mono HBA.out.size))
          go_wp2_with (go_at_call 109; ((with_reducible refine (C1.out z.val ⟨sa, sn, sp⟩ ea en ep HBZ.out HSL.out HSA.out (HKK.out.later HBZ.out)).mono ?_); rintro r _ ⟨rfl, v, rfl⟩; have vs := v.size))
          have HVB := Lib.hid (v.on HZB.out (by omega))
          refine hKK _ _ (.inr ⟨⟨v.val, HVB.out⟩, rfl⟩) ?_
          clear hKK KK
          repeat (refine lin_calm rfl ?_; intro KK hKK; go_big_quiet_step (fail); refine wpQuiet_nil ?_; refine hKK _ ?_; clear hKK KK)
          refine lin_nil ?_
          go_wp2_with fail
          go_roundw
          case rel => exact ⟨j + 1, by omega, by go_num, by rw [HE.out, hS.out, fstE_go hP3.out], Cls.of (HXA.out.trans (HVB.out.mono HXA.out.size))⟩
          case measure => simp [intOf]; omega
        · have d1 : (g1 == 2) = false := by simp [h1]
          have d1' : (g1 != 2) = true := by simp [h1]
          have hP3 : Hid (cf j = 4) := Lib.hid (hP.out.2.1 rfl h1)
          clear hP h1
          go_wp2_with fail
          generalize (x.val.alloc (.cells #[.int .i64 e.op, .int .i64 e.ty, .int .i64 e.num, .string e.text, .int .i64 e.col, .slice ea en ep] 64)) = WA at HBN HBA HXA has HBQ ⊢
          obtain ⟨c0, _, _, _, _, _, _, m0, m1, m2, m3, m4, m5⟩ := six_z HBQ.out
          obtain ⟨c1, _, _, _, _, _, _, p0, p1, p2, p3, p4, p5⟩ := six_z HBN.out
          refine wp_region_lin (by kernel_rfl) (by kernel_rfl) ?_
          intro y0
          have y0s := y0.size
          repeat (refine lin_calm rfl ?_; intro KK hKK; go_big_quiet_step (fail); refine wpQuiet_nil ?_; refine hKK _ ?_; clear hKK KK)
          refine lin_free rfl ?_
          intro KK hKK
          go_wp2_with (go_at_call 110; ((with_reducible refine (CT.out _ (HBA.out.trans (y0.below.mono HBA.out.size))).mono ?_); rintro r w2 ⟨⟨sa, sn, sp⟩, he, hsl, hsat, z, rfl⟩; have he2 : r = .returned (.slice sa sn sp) := he; clear he; subst he2; have HSA := Lib.hid hsat; have zs := z.size; have hsl2 : sn = tcs.len := hsl; have HSL := Lib.hid hsl2; clear hsat hsl hsl2))
          have hzb := z.on (y0.on (Below.refl _ _) (Nat.le_refl _)) (by omega)
          refine hKK _ _ (.inr ⟨⟨z.val, hzb⟩, rfl⟩) ?_
          clear hKK KK
          have HZB := Lib.hid hzb
          repeat (refine lin_calm rfl ?_; intro KK hKK; go_big_quiet_step (fail); refine wpQuiet_nil ?_; refine hKK _ ?_; clear hKK KK)
          refine lin_free rfl ?_
          intro KK hKK
          have HBZ : Hid (Below w.heap.size w z.val) := Lib.hid (HBA.out.trans (HZB.out.mono HBA.out.size))
          go_wp2_with (go_at_call 109; ((with_reducible refine (C1.out z.val ⟨sa, sn, sp⟩ ea en ep HBZ.out HSL.out HSA.out (HKK.out.later HBZ.out)).mono ?_); rintro r _ ⟨rfl, v, rfl⟩; have vs := v.size))
          have HVB := Lib.hid (v.on HZB.out (by omega))
          refine hKK _ _ (.inr ⟨⟨v.val, HVB.out⟩, rfl⟩) ?_
          clear hKK KK
          repeat (refine lin_calm rfl ?_; intro KK hKK; go_big_quiet_step (fail); refine wpQuiet_nil ?_; refine hKK _ ?_; clear hKK KK)
          refine lin_nil ?_
          go_wp2_with fail
          go_ret
          exact ⟨ret_int (by rw [HX.out, HE.out, hS.out, fstE_stop (by rw [hP3.out]; decide), hP3.out]), Cls.of (HBA.out.trans (HVB.out.mono HBA.out.size))⟩
      · have d1 : (g2 == 0) = false := by simp [h2]
        have d1' : (g2 != 0) = true := by simp [h2]
        have hP3 : Hid (cf j = g2) := Lib.hid (hP.out.2.2 h2)
        have HG2 := Lib.hid h2
        clear hP h2
        go_wp2_with fail
        generalize (x.val.alloc (.cells #[.int .i64 e.op, .int .i64 e.ty, .int .i64 e.num, .string e.text, .int .i64 e.col, .slice ea en ep] 64)) = WA at HBN HBA HXA has HBQ ⊢
        obtain ⟨c0, _, _, _, _, _, _, m0, m1, m2, m3, m4, m5⟩ := six_z HBQ.out
        obtain ⟨c1, _, _, _, _, _, _, p0, p1, p2, p3, p4, p5⟩ := six_z HBN.out
        refine wp_region_lin (by kernel_rfl) (by kernel_rfl) ?_
        intro y0
        have y0s := y0.size
        repeat (refine lin_calm rfl ?_; intro KK hKK; go_big_quiet_step (fail); refine wpQuiet_nil ?_; refine hKK _ ?_; clear hKK KK)
        refine lin_free rfl ?_
        intro KK hKK
        go_wp2_with (go_at_call 110; ((with_reducible refine (CT.out _ (HBA.out.trans (y0.below.mono HBA.out.size))).mono ?_); rintro r w2 ⟨⟨sa, sn, sp⟩, he, hsl, hsat, z, rfl⟩; have he2 : r = .returned (.slice sa sn sp) := he; clear he; subst he2; have HSA := Lib.hid hsat; have zs := z.size; have hsl2 : sn = tcs.len := hsl; have HSL := Lib.hid hsl2; clear hsat hsl hsl2))
        have hzb := z.on (y0.on (Below.refl _ _) (Nat.le_refl _)) (by omega)
        refine hKK _ _ (.inr ⟨⟨z.val, hzb⟩, rfl⟩) ?_
        clear hKK KK
        have HZB := Lib.hid hzb
        repeat (refine lin_calm rfl ?_; intro KK hKK; go_big_quiet_step (fail); refine wpQuiet_nil ?_; refine hKK _ ?_; clear hKK KK)
        refine lin_free rfl ?_
        intro KK hKK
        have HBZ : Hid (Below w.heap.size w z.val) := Lib.hid (HBA.out.trans (HZB.out.mono HBA.out.size))
        go_wp2_with (go_at_call 109; ((with_reducible refine (C1.out z.val ⟨sa, sn, sp⟩ ea en ep HBZ.out HSL.out HSA.out (HKK.out.later HBZ.out)).mono ?_); rintro r _ ⟨rfl, v, rfl⟩; have vs := v.size))
        have HVB := Lib.hid (v.on HZB.out (by omega))
        refine hKK _ _ (.inr ⟨⟨v.val, HVB.out⟩, rfl⟩) ?_
        clear hKK KK
        repeat (refine lin_calm rfl ?_; intro KK hKK; go_big_quiet_step (fail); refine wpQuiet_nil ?_; refine hKK _ ?_; clear hKK KK)
        refine lin_nil ?_
        go_wp2_with fail
        go_ret
        exact ⟨ret_int (by rw [HX.out, HE.out, hS.out, fstE_stop (by rw [hP3.out]; exact HG2.out), hP3.out]), Cls.of (HBA.out.trans (HVB.out.mono HBA.out.size))⟩
    · have hz : Hid (kn - j = 0) := Lib.hid (by omega)
      go_wp2_with fail
      go_ret
      exact ⟨ret_int (by rw [HX.out, HE.out, hz.out]; rfl), Cls.of HBX.out⟩
end Go.Proofs.YtdmhmlnfoocnjaaGreatDoor
