/-
  The schema that a tape without numbers makes: one table.
-/
import Derived.Test.YtbnhmjecjeifdaaDoorDFrame
import Derived.Test.YtbnhmjecjeifdaaDoorDTwo
import Derived.Test.YtbnhmjecjeifdaaDoorDTab
import Derived.Test.YtbnhmjecjeifdaaDoorTypes
set_option linter.unusedVariables false
namespace Go.Proofs.YtbnhmjecjeifdaaDoor
open Go Go.RowKit Go.Deep
/-- Ahead of the loop's round. -/
structure OutA (T : Nat) (w wr : World) : Prop where
  tp : Tp T w wr
  tape : TapeZ T 1 wr
  b2 : wr.heap[w.heap.size]? = some (.cells #[.slice none 0 0] 37)
  b3 : wr.heap[w.heap.size + 1]? = some (.cells #[.slice none 0 0] 37)
/-- Behind it. -/
def OutB (T : Nat) (w wr : World) : Prop :=
  ∃ (sl : Sl) (tb : Nat → Tb), Tp T w wr ∧ sl.len = 1 ∧ (∀ W : World, (∀ k, w.heap.size + 2 ≤ k → W.heap[k]? = wr.heap[k]?) → TabsAt W sl tb) ∧ nameP tb ⟨#[116, 48]⟩ 0 = true ∧ (tb 0).cs.len = 2 ∧ wr.heap[w.heap.size]? = some (.cells #[.slice none 0 0] 37) ∧ wr.heap[w.heap.size + 1]? = some (.cells #[.slice sl.a sl.len sl.cap] 37)
theorem outB_of {T p : Nat} {w w6 : World} {xb pb g cp g3 cp3 ub g4 cp4 g6 cp6 : Nat} {cs us ks : Value} (hf : Fz T p w xb pb cs us ks w6) (hc : w6.ownsRow (w.heap.size + 2) 49 3 (.slice (some ⟨g, 0, none⟩) 2 cp) 2 (idC ++ c0C))
    (hu : w6.ownsRow (w.heap.size + 2) 31 1 (.slice (some ⟨g3, 0, none⟩) 1 cp3) 1 [.slice (some ⟨ub, 0, none⟩) 1 1]) (hub : w6.heap[ub]? = some (.cells #[.int .i64 1] 3)) (hul : w.heap.size + 2 ≤ ub) (he : w6.ownsRow (w.heap.size + 2) 24 6 (.slice (some ⟨g4, 0, none⟩) 1 cp4) 1 nullR.cells)
    (ht : w6.ownsRow (w.heap.size + 2) 47 6 (.slice (some ⟨g6, 0, none⟩) 1 cp6) 1 [.string ⟨#[116, 48]⟩, .slice (some ⟨g, 0, none⟩) 2 cp, .slice (some ⟨pb, 0, none⟩) 1 1, .slice (some ⟨g3, 0, none⟩) 1 cp3, .slice none 0 0, .slice (some ⟨g4, 0, none⟩) 1 cp4]) :
    OutB T w (w6.setCell ⟨w.heap.size + 1, 0, none⟩ (.slice (some ⟨g6, 0, none⟩) 1 cp6)) := by
  have hpl := hf.plo
  refine ⟨⟨some ⟨g6, 0, none⟩, 1, cp6⟩, fun _ => tbZ g cp pb g3 cp3 ub (some ⟨g4, 0, none⟩) 1 cp4 [nullE], hf.tp.setCell (.inl (by show w.heap.size ≤ w.heap.size + 1; omega)) _, rfl, fun W hW => ?_, (by show ((⟨#[116, 48]⟩ : ByteArray).toList == (⟨#[116, 48]⟩ : ByteArray).toList) = true; exact beq_self_eq_true _), rfl, set_ne hf.b2 (by omega), ?_⟩
  · have hW2 : ∀ k, w.heap.size + 2 ≤ k → W.heap[k]? = w6.heap[k]? := fun k hk => (hW k hk).trans (Below.heap_setCell _ _ _ _ (by show k ≠ w.heap.size + 1; omega))
    have lo : ∀ {size n : Nat} {e : TypeId} {v : Value} {xs : List Value}, w6.ownsRow (w.heap.size + 2) e size v n xs → W.ownsRow (w.heap.size + 2) e size v n xs := fun h => own_block h fun k hk => hW2 k (h.lt k hk).1
    obtain ⟨a, cap, hv, hk⟩ := kids_null (lo he)
    simp only [Value.slice.injEq, true_and] at hv
    obtain ⟨rfl, rfl⟩ := hv
    refine ⟨sl_own (lo ht) fun i hi j hj => ?_, fun i _ => tb_of ((hW2 pb hpl).trans hf.pr) (lo hc) (lo hu) ((hW2 ub hul).trans hub) hk⟩
    obtain rfl : i = 0 := by omega
    rw [Nat.zero_mul, Nat.zero_add]
    rfl
  · simp only [World.setCell, Array.getElem?_modify, hf.b3]
    simp
set_option maxHeartbeats 8000000 in
set_option maxRecDepth 20000 in
theorem Schema_zero (T : Nat) (w : World) (h : TapeZ T 0 w) :
    Calls Tryd.prog 14 #[.pointer (some ⟨T, 0, none⟩)] w fun r w' => ∃ (sl : Sl) (tb : Nat → Tb), r = .returned (.agg #[.slice sl.a sl.len sl.cap]) ∧ sl.len = 1 ∧ TabsAt w' sl tb ∧ nameP tb ⟨#[116, 48]⟩ 0 = true ∧ (tb 0).cs.len = 2 ∧ Tp T w w' := by
  have hT := h.lt
  have H := Lib.hid h
  clear h
  go_enter Tryd.func14, Tryd.ntmps14
  go_wp2_with (go_at_call 17; ((with_reducible refine (Next_zero T 0 _ _ (H.out.later (by repeat first | with_reducible exact Below.refl _ _ | with_reducible refine Below.setCell ?_ (by first | omega | (simp; done) | (simp; omega)) _ | with_reducible refine Below.alloc ?_ (by first | omega | (simp; done) | (simp; omega)) _ | with_reducible refine Below.drew ?_ | with_reducible refine Ext.on _ ?_ (by first | omega | (simp; done) | (simp; omega)))) (by omega) (by omega)).mono ?_); rintro e1 w1 hq; obtain ⟨rfl, z, rfl⟩ := hq; have HA : Hid (OutA T w z.val) := Lib.hid ⟨z.on (by repeat first | with_reducible exact Tp.refl _ _ | with_reducible refine Tp.setCell ?_ (by first | (left; omega) | (left; simp; done) | (left; simp; omega)) _ | with_reducible refine Tp.alloc ?_ _ | with_reducible refine Tp.drew ?_ | with_reducible refine LatZ.on _ ?_ | with_reducible refine Tp.ext ?_ _), z.at_, ((z.tp.block _ (by simp; omega) (by omega)).trans ((Below.heap_alloc _ _ _ (by simp)).trans (heap_alloc_at _ _ rfl))), ((z.tp.block _ (by simp) (by omega)).trans (heap_alloc_at _ _ (by simp)))⟩; have zs := z.size; simp at zs))
  go_loopw [5] (fun i wr => (i = .int .i64 0 ∧ OutA T w wr) ∨ (i = .int .i64 1 ∧ OutB T w wr)) (fun i _ => 1 - (intOf i).toNat)
  case atStart => exact .inl ⟨rfl, HA.out⟩
  case round =>
    rcases hrel with ⟨rfl, ha⟩ | ⟨rfl, hb⟩
    · have HO := Lib.hid ha
      clear ha HA
      have hs := (Array.getElem?_eq_some_iff.1 HO.out.b3).1
      go_wp2_with (first | (go_at_call 40; ((with_reducible refine (name_zero _ ⟨#[116, 48]⟩ (by decide) (by decide) _).mono ?_); rintro e1 w1 hq; obtain ⟨rfl, y, rfl⟩ := hq; have ys := y.size)) | (go_at_call 17; ((with_reducible refine (Next_zero T 1 _ _ (HO.out.tape.later (by repeat first | with_reducible exact Below.refl _ _ | with_reducible refine Below.setCell ?_ (by first | omega | (simp; done) | (simp; omega)) _ | with_reducible refine Below.alloc ?_ (by first | omega | (simp; done) | (simp; omega)) _ | with_reducible refine Below.drew ?_ | with_reducible refine Ext.on _ ?_ (by first | omega | (simp; done) | (simp; omega)))) (by omega) (by omega)).mono ?_); rintro e1 w1 hq; obtain ⟨rfl, z2, rfl⟩ := hq; have z2s := z2.size; simp at z2s)))
      obtain ⟨HZ, HC⟩ := start_z hT (Tp.ext HO.out.tp y) ((y.below.block _ (by omega)).trans HO.out.b2) ((y.below.block _ (by omega)).trans HO.out.b3) z2
      generalize z2.val = W2 at HZ HC z2s ⊢
      generalize y.val.heap.size + 1 + 1 = xb at HZ z2s ⊢
      generalize y.val.heap.size + 1 = pb at HZ ⊢
      generalize y.val.heap.size = cb at HZ HC ⊢
      have HF0 := Lib.hid HZ
      have HC0 := Lib.hid HC
      clear HZ HC z2s z2 y ys hs HO zs z H
      go_loopw [8] (fun k wr2 => (k = .int .i64 0 ∧ Fz T 2 w xb pb (.slice (some ⟨cb, 0, none⟩) 1 1) (.slice none 0 0) (.slice none 0 0) wr2 ∧ wr2.ownsRow (w.heap.size + 2) 49 3 (.slice (some ⟨cb, 0, none⟩) 1 1) 1 idC) ∨ (k = .int .i64 1 ∧ ∃ v, Fz T 4 w xb pb v (.slice none 0 0) (.slice none 0 0) wr2 ∧ wr2.ownsRow (w.heap.size + 2) 49 3 v 2 (idC ++ c0C))) (fun k _ => 1 - (intOf k).toNat)
      case atStart => exact .inl ⟨rfl, HF0.out, HC0.out⟩
      case round =>
        clear HF0 HC0
        rcases hrel with ⟨rfl, hf, hc⟩ | ⟨rfl, v, hf, hc⟩
        · have HF := Lib.hid hf
          have HC := Lib.hid hc
          have HX := Lib.hid hf.x
          have hlo := hf.xlo
          obtain ⟨bx, f0, f1, f2, f3, f4, f5, c0, c1, c2, c3, c4, c5⟩ := six_z hf.x
          clear hf hc
          obtain ⟨i0, hi, hz0, hz1, hz2⟩ := info_parts infoCl
          go_wp2_with fail
          refine wp_region_lin_in (C := fun w' => ∃ y : Kept xb wr, w' = y.val) (fun x => kept_start bx x) (by kernel_rfl) (by kernel_rfl) ?_
          intro x0
          have x0s := x0.size
          repeat (refine lin_calm rfl ?_; intro KK hKK; go_big_quiet_step (fail); refine wpQuiet_nil ?_; refine hKK _ ?_; clear hKK KK)
          have HF := Lib.hid (HF.out.below x0.below)
          have HC := Lib.hid (own_later'_s HC.out x0.below)
          refine lin_free rfl ?_
          intro KK hKK
          go_wp2_with (go_at_call 40; ((with_reducible refine (name_zero _ ⟨#[99, 48]⟩ (by decide) (by decide) _).mono ?_); rintro e1 w1 hq; obtain ⟨rfl, y, rfl⟩ := hq; have ys := y.size; have HF := Lib.hid (HF.out.below y.below); have HC := Lib.hid (own_later'_s HC.out y.below)))
          refine hKK _ _ (.inr ⟨⟨_, HF.out.x.trans HX.out.symm⟩, rfl⟩) ?_
          clear hKK KK
          repeat (refine lin_calm rfl ?_; intro KK hKK; go_big_quiet_step (fail); refine wpQuiet_nil ?_; refine hKK _ ?_; clear hKK KK)
          refine lin_free rfl ?_
          intro KK hKK
          go_wp2_with (go_at_call 17; ((with_reducible refine (Next_zero T 2 _ _ HF.out.tape (by omega) (by omega)).mono ?_); rintro e1 w1 hq; obtain ⟨rfl, z, rfl⟩ := hq; have zs := z.size; have HF := Lib.hid (HF.out.next z); have HC := Lib.hid (own_next HC.out z (by omega))))
          refine hKK _ _ (.inr ⟨⟨_, HF.out.x.trans HX.out.symm⟩, rfl⟩) ?_
          clear hKK KK
          repeat (refine lin_calm rfl ?_; intro KK hKK; go_big_quiet_step (fail); refine wpQuiet_nil ?_; refine hKK _ ?_; clear hKK KK)
          refine lin_free rfl ?_
          intro KK hKK
          go_wp2_with (go_at_call 17; ((with_reducible refine (Next_zero T 3 _ _ HF.out.tape (by omega) (by omega)).mono ?_); rintro e1 w1 hq; obtain ⟨rfl, z2, rfl⟩ := hq; have z2s := z2.size; have HF := Lib.hid (HF.out.next z2); have HC := Lib.hid (own_next HC.out z2 (by omega))))
          refine hKK _ _ (.inr ⟨⟨_, HF.out.x.trans HX.out.symm⟩, rfl⟩) ?_
          clear hKK KK
          repeat (refine lin_calm rfl ?_; intro KK hKK; go_big_quiet_step (fail); refine wpQuiet_nil ?_; refine hKK _ ?_; clear hKK KK)
          refine lin_free rfl ?_
          intro KK hKK
          go_wp2_with fail
          refine hKK _ _ (.inr ⟨⟨_, HF.out.x.trans HX.out.symm⟩, rfl⟩) ?_
          clear hKK KK
          refine lin_free rfl ?_
          intro KK hKK
          go_wp2_with fail
          have HF := Lib.hid (HF.out.below (w' := z2.val.alloc (.cells c0C.toArray 49)) ((Below.refl _ _).alloc (Nat.le_refl _) _))
          have HC := Lib.hid (own_later'_s HC.out ((Below.refl _ _).alloc (Nat.le_refl _) (.cells c0C.toArray 49)))
          refine hKK _ _ (.inr ⟨⟨_, HF.out.x.trans HX.out.symm⟩, rfl⟩) ?_
          clear hKK KK
          refine lin_free rfl ?_
          intro KK hKK
          go_wp2_with (at_builtin; refine wpList_append_own_at _ rfl _ _ 43 rfl (w.heap.size + 2) 49 i0 (.agg #[.string ⟨#[]⟩, .int .i64 0, .bool false]) 3 32 Tryd.underlying43 hi hz0 hz1 hz2 rfl (by decide) _ 1 idC rfl HC.out ⟨z2.val.heap.size, 0, none⟩ 1 1 c0C rfl rfl (cells_new'_s _ _ _) (by intro u hu; simp [c0C] at hu; rcases hu with rfl | rfl | rfl <;> rfl) (by unfold maxLen; omega) (by omega) (by simp; omega) ?_; intro v3 w3 hown3 hg3 _ hat3; obtain ⟨g3, cp3, rfl⟩ := own_slice_z hown3; have HF := Lib.hid (HF.out.grown hg3 (fun k hk => ⟨(HC.out.lt k hk).1, own_ne_z HC.out HF.out.x (by decide) k hk, own_ne_z HC.out HF.out.pr (by decide) k hk⟩)); have HC := Lib.hid hown3; clear hown3 hg3 hat3)
          refine hKK _ _ (.inr ⟨⟨_, HF.out.x.trans HX.out.symm⟩, rfl⟩) ?_
          clear hKK KK
          repeat (refine lin_calm rfl ?_; intro KK hKK; go_big_quiet_step (fail); refine wpQuiet_nil ?_; refine hKK _ ?_; clear hKK KK)
          refine lin_free rfl ?_
          intro KK hKK
          obtain ⟨bx2, g0, g1, _, _, _, _, k0, k1, _, _, _, _⟩ := six_z HF.out.x
          go_wp2_with fail
          refine hKK _ _ (.inl trivial) ?_
          clear hKK KK
          refine lin_nil ?_
          go_wp2_with fail
          go_roundw
          case rel => exact .inr ⟨rfl, _, HF.out.set1 _, own_set HC.out (own_ne_z HC.out HF.out.x (by decide))⟩
          case measure => simp [intOf]
        · obtain ⟨g, cp, rfl⟩ := own_slice_z hc
          have HF1 := Lib.hid hf
          have HC1 := Lib.hid hc
          clear hf hc
          go_wp2_with fail
          go_loopw [9] (fun k wr3 => k = .int .i64 0 ∧ Fz T 4 w xb pb (.slice (some ⟨g, 0, none⟩) 2 cp) (.slice none 0 0) (.slice none 0 0) wr3 ∧ wr3.ownsRow (w.heap.size + 2) 49 3 (.slice (some ⟨g, 0, none⟩) 2 cp) 2 (idC ++ c0C)) (fun _ _ => 0)
          case atStart => exact ⟨rfl, HF1.out, HC1.out⟩
          case round =>
            clear HF1 HC1
            obtain ⟨rfl, hf, hc⟩ := hrel
            have HF := Lib.hid hf
            have HC := Lib.hid hc
            have hlo := hf.xlo
            have hbx := (Array.getElem?_eq_some_iff.1 hf.x).1
            clear hf hc
            go_wp2_with (go_at_call 17; ((with_reducible refine (Next_zero T 4 _ _ HF.out.tape (by omega) (by omega)).mono ?_); rintro e1 w1 hq; obtain ⟨rfl, z, rfl⟩ := hq; have zs := z.size; have HF := Lib.hid (HF.out.next z); have HC := Lib.hid (own_next HC.out z (by omega))))
            have HX := Lib.hid HF.out.x
            obtain ⟨bx, f0, f1, f2, f3, f4, f5, c0, c1, c2, c3, c4, c5⟩ := six_z HF.out.x
            obtain ⟨i0, hi, hz0, hz1, hz2⟩ := info_parts infoIs
            refine wp_region_lin_in (C := fun w' => ∃ y : Kept xb z.val, w' = y.val) (fun x => kept_start bx x) (by kernel_rfl) (by kernel_rfl) ?_
            intro x0
            have x0s := x0.size
            have HF := Lib.hid (HF.out.below x0.below)
            have HC := Lib.hid (own_later'_s HC.out x0.below)
            repeat (refine lin_calm rfl ?_; intro KK hKK; go_big_quiet_step (fail); refine wpQuiet_nil ?_; refine hKK _ ?_; clear hKK KK)
            refine lin_free rfl ?_
            intro KK hKK
            go_wp2_with (go_at_call 17; ((with_reducible refine (Next_zero T 5 _ _ HF.out.tape (by omega) (by omega)).mono ?_); rintro e1 w1 hq; obtain ⟨rfl, z2, rfl⟩ := hq; have z2s := z2.size; have HF := Lib.hid (HF.out.next z2); have HC := Lib.hid (own_next HC.out z2 (by omega))))
            refine hKK _ _ (.inr ⟨⟨_, HF.out.x.trans HX.out.symm⟩, rfl⟩) ?_
            clear hKK KK
            repeat (refine lin_calm rfl ?_; intro KK hKK; go_big_quiet_step (fail); refine wpQuiet_nil ?_; refine hKK _ ?_; clear hKK KK)
            refine lin_free rfl ?_
            intro KK hKK
            go_wp2_with fail
            have HF := Lib.hid (HF.out.below (w' := z2.val.alloc (.cells #[.int .i64 1] 3)) ((Below.refl _ _).alloc (Nat.le_refl _) _))
            have HC := Lib.hid (own_later'_s HC.out ((Below.refl _ _).alloc (Nat.le_refl _) (.cells #[.int .i64 1] 3)))
            have HU := Lib.hid (heap_alloc_new z2.val (.cells #[.int .i64 1] 3))
            refine hKK _ _ (.inr ⟨⟨_, HF.out.x.trans HX.out.symm⟩, rfl⟩) ?_
            clear hKK KK
            refine lin_free rfl ?_
            intro KK hKK
            go_wp2_with fail
            have HF := Lib.hid (HF.out.below (w' := (z2.val.alloc (.cells #[.int .i64 1] 3)).alloc (.cells #[.slice (some ⟨z2.val.heap.size, 0, none⟩) 1 1] 31)) ((Below.refl _ _).alloc (Nat.le_refl _) _))
            have HC := Lib.hid (own_later'_s HC.out ((Below.refl _ _).alloc (Nat.le_refl _) (.cells #[.slice (some ⟨z2.val.heap.size, 0, none⟩) 1 1] 31)))
            have HU := Lib.hid ((Below.heap_alloc (z2.val.alloc (.cells #[.int .i64 1] 3)) (.cells #[.slice (some ⟨z2.val.heap.size, 0, none⟩) 1 1] 31) z2.val.heap.size (by simp)).trans HU.out)
            refine hKK _ _ (.inr ⟨⟨_, HF.out.x.trans HX.out.symm⟩, rfl⟩) ?_
            clear hKK KK
            refine lin_free rfl ?_
            intro KK hKK
            go_wp2_with (at_builtin; refine wpList_append_own_at _ rfl _ _ 44 rfl (w.heap.size + 2) 31 i0 (.slice none 0 0) 1 24 Tryd.underlying44 hi hz0 hz1 hz2 rfl (by decide) _ 0 [] rfl (World.ownsRow_nil _ _ _ 1) ⟨z2.val.heap.size + 1, 0, none⟩ 1 1 [.slice (some ⟨z2.val.heap.size, 0, none⟩) 1 1] rfl rfl (cells_new_b _ _ _ (by simp)) (by intro u hu; simp at hu; rcases hu with rfl; rfl) (by unfold maxLen; omega) (by omega) (by simp; omega) ?_; intro v3 w3 hown3 hg3 _ hat3; change World.grownBy _ _ none at hg3; obtain ⟨g3, cp3, rfl⟩ := own_slice_z hown3; have HF := Lib.hid (HF.out.grown hg3 (fun k hk => by cases hk)); have HC := Lib.hid (own_block HC.out (fun k hk => hg3.block k (HC.out.lt k hk).2 (by simp))); have HU := Lib.hid ((hg3.block z2.val.heap.size (by simp; omega) (by simp)).trans HU.out); have HUo := Lib.hid hown3; have w3s := hg3.size; clear hown3 hg3 hat3)
            refine hKK _ _ (.inr ⟨⟨_, HF.out.x.trans HX.out.symm⟩, rfl⟩) ?_
            clear hKK KK
            repeat (refine lin_calm rfl ?_; intro KK hKK; go_big_quiet_step (fail); refine wpQuiet_nil ?_; refine hKK _ ?_; clear hKK KK)
            refine lin_free rfl ?_
            intro KK hKK
            obtain ⟨bx2, g0, g1, g2, g3', _, _, k0, k1, k2, k3, _, _⟩ := six_z HF.out.x
            go_wp2_with fail
            refine hKK _ _ (.inl trivial) ?_
            clear hKK KK
            refine lin_nil ?_
            have HC := Lib.hid (own_set (o := 3) (u := .slice (some ⟨g3, 0, none⟩) 1 cp3) HC.out (own_ne_z HC.out HF.out.x (by decide)))
            have HUo := Lib.hid (own_set (o := 3) (u := .slice (some ⟨g3, 0, none⟩) 1 cp3) HUo.out (own_ne_z HUo.out HF.out.x (by decide)))
            have HU := Lib.hid (set_ne (i := 3) (u := .slice (some ⟨g3, 0, none⟩) 1 cp3) HU.out (blk_ne HU.out HF.out.x (by decide)))
            have HF := Lib.hid (HF.out.set3 (.slice (some ⟨g3, 0, none⟩) 1 cp3))
            clear f0 f1 f2 f3 f4 f5 c0 c1 c2 c3 c4 c5 g0 g1 g2 g3' k0 k1 k2 k3 bx bx2 HX w3s
            simp only [Nat.zero_add] at HUo ⊢
            generalize w3.setCell ⟨xb, 3, none⟩ (.slice (some ⟨g3, 0, none⟩) 1 cp3) = W3 at HF HC HU HUo ⊢
            have hul : w.heap.size + 2 ≤ z2.val.heap.size := by omega
            generalize z2.val.heap.size = ub at HU HUo hul ⊢
            go_wp2_with (go_at_call 17; ((with_reducible refine (Next_zero T 6 _ _ HF.out.tape (by omega) (by omega)).mono ?_); rintro e1 w1 hq; obtain ⟨rfl, z3, rfl⟩ := hq; have zs := z3.size; have HC := Lib.hid (own_next HC.out z3 (by omega)); have HUo := Lib.hid (own_next HUo.out z3 (by omega)); have HU := Lib.hid (next_ne HU.out z3 (blk_ne HU.out HF.out.tape (by decide))); have HF := Lib.hid (HF.out.next z3)))
            have HX := Lib.hid HF.out.x
            obtain ⟨bx, f0, f1, f2, f3, f4, f5, c0, c1, c2, c3, c4, c5⟩ := six_z HF.out.x
            obtain ⟨i1, hi', hz0', hz1', hz2'⟩ := info_parts infoEx
            simp only [List.nil_append] at HUo
            refine wp_region_lin_in (C := fun w' => ∃ y : Kept xb z3.val, w' = y.val) (fun x => kept_start bx x) (by kernel_rfl) (by kernel_rfl) ?_
            intro x1
            have x1s := x1.size
            have HF := Lib.hid (HF.out.below x1.below)
            have HC := Lib.hid (own_later'_s HC.out x1.below)
            have HUo := Lib.hid (own_later'_s HUo.out x1.below)
            have HU := Lib.hid ((x1.below.block ub (Array.getElem?_eq_some_iff.1 HU.out).1).trans HU.out)
            repeat (refine lin_calm rfl ?_; intro KK hKK; go_big_quiet_step (fail); refine wpQuiet_nil ?_; refine hKK _ ?_; clear hKK KK)
            have CT : Hid (Calls Tryd.prog 42 #[.agg #[.string ⟨#[116, 48]⟩, .slice (some ⟨g, 0, none⟩) 2 cp, .slice (some ⟨pb, 0, none⟩) 1 1, .slice (some ⟨g3, 0, none⟩) 1 cp3, .slice none 0 0, .slice none 0 0]] x1.val fun r w' => ∃ s : Sl, r = .returned (.slice s.a s.len s.cap) ∧ s.len = 2 ∧ SlAt w' 1 s (intC fun i => (tyL colZ 2).getD i 0) ∧ Cls x1.val w') := Lib.hid (rTypes_calls (tbZ g cp pb g3 cp3 ub none 0 0 []) x1.val (tb_of HF.out.pr HC.out HUo.out HU.out .none) (by show 2 ≤ 1000; omega))
            refine lin_free rfl ?_
            intro KK hKK
            go_wp2_with (go_at_call 42; ((with_reducible refine (CT.out).mono ?_); rintro e1 w1 hq; obtain ⟨s, rfl, hs2, hsat, t, rfl⟩ := hq; have ts := t.size; have HS := Lib.hid hsat; have HS2 := Lib.hid hs2; clear hs2 hsat; have HF := Lib.hid (HF.out.below t.below); have HC := Lib.hid (own_later'_s HC.out t.below); have HUo := Lib.hid (own_later'_s HUo.out t.below); have HU := Lib.hid ((t.below.block ub (Array.getElem?_eq_some_iff.1 HU.out).1).trans HU.out)))
            refine hKK _ _ (.inr ⟨⟨_, HF.out.x.trans HX.out.symm⟩, rfl⟩) ?_
            clear hKK KK
            repeat (refine lin_calm rfl ?_; intro KK hKK; go_big_quiet_step (fail); refine wpQuiet_nil ?_; refine hKK _ ?_; clear hKK KK)
            refine lin_free rfl ?_
            intro KK hKK
            go_wp2_with (go_at_call 41; ((with_reducible refine (Expr_zero T 7 s _ _ HF.out.tape HS.out (fun i hi => ?_) (by omega) (by have := HS2.out; omega) (not_tape HF.out.tape HS.out HS2.out)).mono ?_); (· have h2 := HS2.out; rcases (by omega : i = 0 ∨ i = 1) with rfl | rfl <;> decide); rintro e1 w1 hq; obtain ⟨rfl, z4, rfl⟩ := hq; have z4s := z4.size; have HC := Lib.hid (own_next HC.out z4 (by omega)); have HUo := Lib.hid (own_next HUo.out z4 (by omega)); have HU := Lib.hid (next_ne HU.out z4 (blk_ne HU.out HF.out.tape (by decide))); have HF := Lib.hid (HF.out.next z4)))
            refine hKK _ _ (.inr ⟨⟨_, HF.out.x.trans HX.out.symm⟩, rfl⟩) ?_
            clear hKK KK
            refine lin_free rfl ?_
            intro KK hKK
            go_wp2_with fail
            have HF := Lib.hid (HF.out.below (w' := z4.val.alloc (.cells nullR.cells.toArray 24)) ((Below.refl _ _).alloc (Nat.le_refl _) _))
            have HC := Lib.hid (own_later'_s HC.out ((Below.refl _ _).alloc (Nat.le_refl _) (.cells nullR.cells.toArray 24)))
            have HUo := Lib.hid (own_later'_s HUo.out ((Below.refl _ _).alloc (Nat.le_refl _) (.cells nullR.cells.toArray 24)))
            have HU := Lib.hid ((Below.heap_alloc z4.val (.cells nullR.cells.toArray 24) ub (Array.getElem?_eq_some_iff.1 HU.out).1).trans HU.out)
            refine hKK _ _ (.inr ⟨⟨_, HF.out.x.trans HX.out.symm⟩, rfl⟩) ?_
            clear hKK KK
            refine lin_free rfl ?_
            intro KK hKK
            go_wp2_with (at_builtin; refine wpList_append_own_at _ rfl _ _ 22 rfl (w.heap.size + 2) 24 i1 (.agg #[.int .i64 0, .int .i64 0, .int .i64 0, .string ⟨#[]⟩, .int .i64 0, .slice none 0 0]) 6 72 Tryd.underlying22 hi' hz0' hz1' hz2' rfl (by decide) _ 0 [] rfl (World.ownsRow_nil _ _ _ 6) ⟨z4.val.heap.size, 0, none⟩ 1 1 nullR.cells rfl rfl (cells_new_b _ _ _ (by simp)) null_one (by unfold maxLen; omega) (by omega) (by simp; omega) ?_; intro v4 w4 hown4 hg4 _ hat4; change World.grownBy _ _ none at hg4; obtain ⟨g4, cp4, rfl⟩ := own_slice_z hown4; have HF := Lib.hid (HF.out.grown hg4 (fun k hk => by cases hk)); have HC := Lib.hid (own_block HC.out (fun k hk => hg4.block k (HC.out.lt k hk).2 (by simp))); have HUo := Lib.hid (own_block HUo.out (fun k hk => hg4.block k (HUo.out.lt k hk).2 (by simp))); have HU := Lib.hid ((hg4.block ub (Array.getElem?_eq_some_iff.1 HU.out).1 (by simp)).trans HU.out); have HE := Lib.hid hown4; have w4s := hg4.size; clear hown4 hg4 hat4)
            refine hKK _ _ (.inr ⟨⟨_, HF.out.x.trans HX.out.symm⟩, rfl⟩) ?_
            clear hKK KK
            repeat (refine lin_calm rfl ?_; intro KK hKK; go_big_quiet_step (fail); refine wpQuiet_nil ?_; refine hKK _ ?_; clear hKK KK)
            refine lin_free rfl ?_
            intro KK hKK
            obtain ⟨bx2, g0, g1, g2, g3', g4', g5', k0, k1, k2, k3, k4, k5⟩ := six_z HF.out.x
            go_wp2_with fail
            refine hKK _ _ (.inl trivial) ?_
            clear hKK KK
            refine lin_nil ?_
            simp only [Nat.zero_add, List.nil_append] at HE ⊢
            have HC := Lib.hid (own_set (o := 5) (u := .slice (some ⟨g4, 0, none⟩) 1 cp4) HC.out (own_ne_z HC.out HF.out.x (by decide)))
            have HUo := Lib.hid (own_set (o := 5) (u := .slice (some ⟨g4, 0, none⟩) 1 cp4) HUo.out (own_ne_z HUo.out HF.out.x (by decide)))
            have HE := Lib.hid (own_set (o := 5) (u := .slice (some ⟨g4, 0, none⟩) 1 cp4) HE.out (own_ne_z HE.out HF.out.x (by decide)))
            have HU := Lib.hid (set_ne (i := 5) (u := .slice (some ⟨g4, 0, none⟩) 1 cp4) HU.out (blk_ne HU.out HF.out.x (by decide)))
            have HF := Lib.hid (HF.out.set5 (.slice (some ⟨g4, 0, none⟩) 1 cp4))
            clear f0 f1 f2 f3 f4 f5 c0 c1 c2 c3 c4 c5 g0 g1 g2 g3' g4' g5' k0 k1 k2 k3 k4 k5 bx bx2 HX w4s CT
            generalize w4.setCell ⟨xb, 5, none⟩ (.slice (some ⟨g4, 0, none⟩) 1 cp4) = W5 at HF HC HU HUo HE ⊢
            obtain ⟨bx, f0, f1, f2, f3, f4, f5, c0, c1, c2, c3, c4, c5⟩ := six_z HF.out.x
            obtain ⟨b3, g0, k0⟩ := one_z HF.out.b3
            obtain ⟨i2, hj, hy0, hy1, hy2⟩ := info_parts infoTb
            have HF := Lib.hid (HF.out.below (w' := W5.alloc (.cells #[.string ⟨#[116, 48]⟩, .slice (some ⟨g, 0, none⟩) 2 cp, .slice (some ⟨pb, 0, none⟩) 1 1, .slice (some ⟨g3, 0, none⟩) 1 cp3, .slice none 0 0, .slice (some ⟨g4, 0, none⟩) 1 cp4] 47)) ((Below.refl _ _).alloc (Nat.le_refl _) _))
            have HC := Lib.hid (own_later'_s HC.out ((Below.refl _ _).alloc (Nat.le_refl _) (.cells #[.string ⟨#[116, 48]⟩, .slice (some ⟨g, 0, none⟩) 2 cp, .slice (some ⟨pb, 0, none⟩) 1 1, .slice (some ⟨g3, 0, none⟩) 1 cp3, .slice none 0 0, .slice (some ⟨g4, 0, none⟩) 1 cp4] 47)))
            have HUo := Lib.hid (own_later'_s HUo.out ((Below.refl _ _).alloc (Nat.le_refl _) (.cells #[.string ⟨#[116, 48]⟩, .slice (some ⟨g, 0, none⟩) 2 cp, .slice (some ⟨pb, 0, none⟩) 1 1, .slice (some ⟨g3, 0, none⟩) 1 cp3, .slice none 0 0, .slice (some ⟨g4, 0, none⟩) 1 cp4] 47)))
            have HE := Lib.hid (own_later'_s HE.out ((Below.refl _ _).alloc (Nat.le_refl _) (.cells #[.string ⟨#[116, 48]⟩, .slice (some ⟨g, 0, none⟩) 2 cp, .slice (some ⟨pb, 0, none⟩) 1 1, .slice (some ⟨g3, 0, none⟩) 1 cp3, .slice none 0 0, .slice (some ⟨g4, 0, none⟩) 1 cp4] 47)))
            have HU := Lib.hid ((Below.heap_alloc W5 (.cells #[.string ⟨#[116, 48]⟩, .slice (some ⟨g, 0, none⟩) 2 cp, .slice (some ⟨pb, 0, none⟩) 1 1, .slice (some ⟨g3, 0, none⟩) 1 cp3, .slice none 0 0, .slice (some ⟨g4, 0, none⟩) 1 cp4] 47) ub (Array.getElem?_eq_some_iff.1 HU.out).1).trans HU.out)
            go_wp2_with (at_builtin; refine wpList_append_own_at _ rfl _ _ 35 rfl (w.heap.size + 2) 47 i2 (.agg #[.string ⟨#[]⟩, .slice none 0 0, .slice none 0 0, .slice none 0 0, .slice none 0 0, .slice none 0 0]) 6 136 Tryd.underlying35 hj hy0 hy1 hy2 rfl (by decide) _ 0 [] rfl (World.ownsRow_nil _ _ _ 6) ⟨W5.heap.size, 0, none⟩ 1 1 [.string ⟨#[116, 48]⟩, .slice (some ⟨g, 0, none⟩) 2 cp, .slice (some ⟨pb, 0, none⟩) 1 1, .slice (some ⟨g3, 0, none⟩) 1 cp3, .slice none 0 0, .slice (some ⟨g4, 0, none⟩) 1 cp4] rfl rfl (cells_new_b _ _ _ (by simp)) (by intro u hu; simp at hu; rcases hu with rfl | rfl | rfl | rfl | rfl | rfl <;> rfl) (by unfold maxLen; omega) (by omega) (by simp; omega) ?_; intro v6 w6 hown6 hg6 _ hat6; change World.grownBy _ _ none at hg6; obtain ⟨g6, cp6, rfl⟩ := own_slice_z hown6; have HF := Lib.hid (HF.out.grown hg6 (fun k hk => by cases hk)); have HC := Lib.hid (own_block HC.out (fun k hk => hg6.block k (HC.out.lt k hk).2 (by simp))); have HUo := Lib.hid (own_block HUo.out (fun k hk => hg6.block k (HUo.out.lt k hk).2 (by simp))); have HE := Lib.hid (own_block HE.out (fun k hk => hg6.block k (HE.out.lt k hk).2 (by simp))); have HU := Lib.hid ((hg6.block ub (Array.getElem?_eq_some_iff.1 HU.out).1 (by simp)).trans HU.out); have HTb := Lib.hid hown6; have w6s := hg6.size; clear hown6 hg6 hat6; clear f0 f1 f2 f3 f4 f5 c0 c1 c2 c3 c4 c5 g0 k0; obtain ⟨bx, f0, f1, f2, f3, f4, f5, c0, c1, c2, c3, c4, c5⟩ := six_z HF.out.x; obtain ⟨b32, g0, k0⟩ := one_z HF.out.b3)
            refine ⟨.inr ⟨rfl, ?_⟩, ?_⟩
            · simp only [Nat.zero_add, List.nil_append] at HTb
              exact outB_of HF.out HC.out HUo.out HU.out (by omega) HE.out HTb.out
            · simp [intOf]
    · have HB := Lib.hid hb
      clear hb HA
      obtain ⟨sl, tb, htp, hl, htab, hnm, hcl, h2, h3⟩ := HB.out
      obtain ⟨q2, p2, k2⟩ := one_z h2
      obtain ⟨q3, p3, k3⟩ := one_z h3
      have H2 := Lib.hid h2
      have HT := Lib.hid htab
      clear h2 h3 htab HB
      go_wp2_with fail
      refine ret_ex rfl ?_
      simp [results, Tryd.results14, go_sem, k2]
      refine ⟨sl, ⟨rfl, hl.symm, rfl⟩, hl, tb, HT.out _ fun k hk => Below.heap_setCell wr ⟨w.heap.size, 0, none⟩ _ k (by show k ≠ w.heap.size; omega), hnm, hcl, ?_⟩
      exact Tp.setCell (p := ⟨w.heap.size, 0, none⟩) htp (.inl (Nat.le_refl _)) _
end Go.Proofs.YtbnhmjecjeifdaaDoor
