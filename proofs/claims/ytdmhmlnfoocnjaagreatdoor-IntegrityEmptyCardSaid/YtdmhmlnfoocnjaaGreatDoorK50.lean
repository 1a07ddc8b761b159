/-
  Expressions of truths that the tape makes.
-/
import Derived.Test.YtdmhmlnfoocnjaaGreatDoorK49
set_option linter.unusedVariables false
namespace Go.Proofs.YtdmhmlnfoocnjaaGreatDoor
open Go Go.RowKit Go.Deep
set_option maxHeartbeats 8000000 in
set_option maxRecDepth 20000 in
theorem expr_high2 (D δ B : Nat) (hE : ExprG D δ B) (hD : 1 ≤ D) (hd : D ≤ 100) (T m : Nat) (ty : List Int) (a : Option Addr) (len cap : Nat) (w : World) (h : TapeAt T m w) (ht : IntsAt T w a len cap ty) (hm : m + (10 + 4 * B) ≤ 2 ^ 60) (hlen : len ≤ 1000) :
    Calls Tryz.prog 24 #[.pointer (some ⟨T, 0, none⟩), .slice a len cap, .int .i64 2, .int .i64 ((D : Nat) + 1)] w fun r w' => MadeBy T (m + (10 + 4 * B)) (δ + 1) ty 2 w r w' := by
  have hT := h.lt
  have H := Lib.hid h
  have HT := Lib.hid ht
  have HE := Lib.hid hE
  have HK := Lib.hid ty2
  have HF := Lib.hid (fr_start T a len cap ((D : Nat) + 1) w)
  have d1 : decide ((D : Int) + 1 ≤ 1) = false := by simp; omega
  have hn4 : w.heap.size ≠ T := by omega
  have hn5 : w.heap.size + 1 ≠ T := by omega
  have hn7 : w.heap.size + 1 + 1 ≠ T := by omega
  have hn8 : w.heap.size + 1 + 1 + 1 ≠ T := by omega
  clear h ht hE
  go_enter Tryz.func24, Tryz.ntmps24
  go_wp2_with (first | (go_at_call 21; ((with_reducible refine (Next_calls T _ _ _ (TapeAt.upto yt.at_ ?_) ?_ (by omega) (by omega)).mono ?_); (· repeat first|with_reducible exact Below.refl _ _|with_reducible refine Below.setCell ?_ (by first|omega|(simp;done)|(simp;omega)) _|with_reducible refine Below.alloc ?_ (by first|omega|(simp;done)|(simp;omega)) _|with_reducible refine Below.drew ?_|with_reducible refine Ext.on _ ?_ (by first|omega|(simp;done)|(simp;omega))); (· omega); rintro e0 w1 hq; obtain ⟨r, rfl, hr, z, rfl⟩ := hq; (first | (have hchk := rx) | (have hr3 : r = 0 ∨ (r : Int) < 3 := hr; rename Nat => rx) | skip); have HA := Lib.hid (z.on (T := T) (w0 := w) (by repeat first | with_reducible exact HA.out | with_reducible exact Tp.refl _ _ | with_reducible refine Tp.setCell ?_ (by first | (left; omega) | (left; simp; done) | (left; simp; omega)) _ | with_reducible refine Tp.alloc ?_ _ | with_reducible refine Tp.drew ?_ | with_reducible refine Lat.on _ ?_ | with_reducible refine Tp.ext ?_ _)); have HF := Lib.hid (HF.out.up (lo := w.heap.size) (W' := z.val) (Nat.le_refl _) (by repeat first|with_reducible exact Up.refl _ _|with_reducible refine Up.setCell ?_ (by first|(left;omega)|(right;omega)|(right;simp;done)|(right;simp;omega)) _|with_reducible refine Up.alloc ?_ _|with_reducible refine Up.drew ?_|with_reducible refine Up.lat _ ?_ (by omega)|with_reducible refine Up.ext ?_ _)); have hF := HF.out.facts; obtain ⟨s4, s5, s7, sR, s41, s51, s71, sR1, c4, c5, c7, f0, f1, f2, f3, f4, f5, k0, k1, k2, k3, k4, k5⟩ := hF; have zT : z.val.heap.size ≠ T := (by omega))) | (go_at_call 21; ((with_reducible refine (Next_calls T _ _ _ (TapeAt.upto z.at_ ?_) ?_ (by omega) (by omega)).mono ?_); (· repeat first|with_reducible exact Below.refl _ _|with_reducible refine Below.setCell ?_ (by first|omega|(simp;done)|(simp;omega)) _|with_reducible refine Below.alloc ?_ (by first|omega|(simp;done)|(simp;omega)) _|with_reducible refine Below.drew ?_|with_reducible refine Ext.on _ ?_ (by first|omega|(simp;done)|(simp;omega))); (· omega); rintro e0 w1 hq; obtain ⟨r, rfl, hr, z, rfl⟩ := hq; (first | (have hchk := rx) | (have hr3 : r = 0 ∨ (r : Int) < 3 := hr; rename Nat => rx) | skip); have HA := Lib.hid (z.on (T := T) (w0 := w) (by repeat first | with_reducible exact HA.out | with_reducible exact Tp.refl _ _ | with_reducible refine Tp.setCell ?_ (by first | (left; omega) | (left; simp; done) | (left; simp; omega)) _ | with_reducible refine Tp.alloc ?_ _ | with_reducible refine Tp.drew ?_ | with_reducible refine Lat.on _ ?_ | with_reducible refine Tp.ext ?_ _)); have HF := Lib.hid (HF.out.up (lo := w.heap.size) (W' := z.val) (Nat.le_refl _) (by repeat first|with_reducible exact Up.refl _ _|with_reducible refine Up.setCell ?_ (by first|(left;omega)|(right;omega)|(right;simp;done)|(right;simp;omega)) _|with_reducible refine Up.alloc ?_ _|with_reducible refine Up.drew ?_|with_reducible refine Up.lat _ ?_ (by omega)|with_reducible refine Up.ext ?_ _)); have hF := HF.out.facts; obtain ⟨s4, s5, s7, sR, s41, s51, s71, sR1, c4, c5, c7, f0, f1, f2, f3, f4, f5, k0, k1, k2, k3, k4, k5⟩ := hF; have zT : z.val.heap.size ≠ T := (by omega))) | (go_at_call 21; ((with_reducible refine (Next_calls T _ _ _ (TapeAt.upto H.out ?_) ?_ (by omega) (by omega)).mono ?_); (· repeat first|with_reducible exact Below.refl _ _|with_reducible refine Below.setCell ?_ (by first|omega|(simp;done)|(simp;omega)) _|with_reducible refine Below.alloc ?_ (by first|omega|(simp;done)|(simp;omega)) _|with_reducible refine Below.drew ?_|with_reducible refine Ext.on _ ?_ (by first|omega|(simp;done)|(simp;omega))); (· omega); rintro e0 w1 hq; obtain ⟨r, rfl, hr, z, rfl⟩ := hq; (first | (have hchk := rx) | (have hr3 : r = 0 ∨ (r : Int) < 3 := hr; rename Nat => rx) | skip); have HA := Lib.hid (z.on (T := T) (w0 := w) (by repeat first | with_reducible exact HA.out | with_reducible exact Tp.refl _ _ | with_reducible refine Tp.setCell ?_ (by first | (left; omega) | (left; simp; done) | (left; simp; omega)) _ | with_reducible refine Tp.alloc ?_ _ | with_reducible refine Tp.drew ?_ | with_reducible refine Lat.on _ ?_ | with_reducible refine Tp.ext ?_ _)); have HF := Lib.hid (HF.out.up (lo := w.heap.size) (W' := z.val) (Nat.le_refl _) (by repeat first|with_reducible exact Up.refl _ _|with_reducible refine Up.setCell ?_ (by first|(left;omega)|(right;omega)|(right;simp;done)|(right;simp;omega)) _|with_reducible refine Up.alloc ?_ _|with_reducible refine Up.drew ?_|with_reducible refine Up.lat _ ?_ (by omega)|with_reducible refine Up.ext ?_ _)); have hF := HF.out.facts; obtain ⟨s4, s5, s7, sR, s41, s51, s71, sR1, c4, c5, c7, f0, f1, f2, f3, f4, f5, k0, k1, k2, k3, k4, k5⟩ := hF; have zT : z.val.heap.size ≠ T := (by omega))) | (go_at_call 41; ((with_reducible refine (pick_calls (δ + 1) T _ ty 2 a len cap _ (TapeAt.upto z.at_ ?_) ?_ HK.out ?_ hlen).mono ?_); (· repeat first|with_reducible exact Below.refl _ _|with_reducible refine Below.setCell ?_ (by first|omega|(simp;done)|(simp;omega)) _|with_reducible refine Below.alloc ?_ (by first|omega|(simp;done)|(simp;omega)) _|with_reducible refine Below.drew ?_|with_reducible refine Ext.on _ ?_ (by first|omega|(simp;done)|(simp;omega))); (· exact HT.out.tp (by repeat first | with_reducible exact HA.out | with_reducible exact Tp.refl _ _ | with_reducible refine Tp.setCell ?_ (by first | (left; omega) | (left; simp; done) | (left; simp; omega)) _ | with_reducible refine Tp.alloc ?_ _ | with_reducible refine Tp.drew ?_ | with_reducible refine Lat.on _ ?_ | with_reducible refine Tp.ext ?_ _)); (· omega); rintro e0 w1 hq; obtain ⟨e1, a1, n1, cc1, rfl, hmade, hfine, hkids, z, rfl⟩ := hq; have HM1 := Lib.hid hmade; have HE1 := Lib.hid hfine; have HK1 := Lib.hid (hkids.low (lo' := w.heap.size + 4) (by first | omega | (simp; done) | (simp; omega))); clear hmade hfine hkids; have HA := Lib.hid (z.on (T := T) (w0 := w) (by repeat first | with_reducible exact HA.out | with_reducible exact Tp.refl _ _ | with_reducible refine Tp.setCell ?_ (by first | (left; omega) | (left; simp; done) | (left; simp; omega)) _ | with_reducible refine Tp.alloc ?_ _ | with_reducible refine Tp.drew ?_ | with_reducible refine Lat.on _ ?_ | with_reducible refine Tp.ext ?_ _)); have HF := Lib.hid (HF.out.up (lo := w.heap.size) (W' := z.val) (Nat.le_refl _) (by repeat first|with_reducible exact Up.refl _ _|with_reducible refine Up.setCell ?_ (by first|(left;omega)|(right;omega)|(right;simp;done)|(right;simp;omega)) _|with_reducible refine Up.alloc ?_ _|with_reducible refine Up.drew ?_|with_reducible refine Up.lat _ ?_ (by omega)|with_reducible refine Up.ext ?_ _)); have hF := HF.out.facts; obtain ⟨s4, s5, s7, sR, s41, s51, s71, sR1, c4, c5, c7, f0, f1, f2, f3, f4, f5, k0, k1, k2, k3, k4, k5⟩ := hF; have zT : z.val.heap.size ≠ T := (by omega))) | (go_at_call 41; ((with_reducible refine (pick_calls (δ + 1) T _ ty 2 a len cap _ (TapeAt.upto H.out ?_) ?_ HK.out ?_ hlen).mono ?_); (· repeat first|with_reducible exact Below.refl _ _|with_reducible refine Below.setCell ?_ (by first|omega|(simp;done)|(simp;omega)) _|with_reducible refine Below.alloc ?_ (by first|omega|(simp;done)|(simp;omega)) _|with_reducible refine Below.drew ?_|with_reducible refine Ext.on _ ?_ (by first|omega|(simp;done)|(simp;omega))); (· exact HT.out.tp (by repeat first | with_reducible exact HA.out | with_reducible exact Tp.refl _ _ | with_reducible refine Tp.setCell ?_ (by first | (left; omega) | (left; simp; done) | (left; simp; omega)) _ | with_reducible refine Tp.alloc ?_ _ | with_reducible refine Tp.drew ?_ | with_reducible refine Lat.on _ ?_ | with_reducible refine Tp.ext ?_ _)); (· omega); rintro e0 w1 hq; obtain ⟨e1, a1, n1, cc1, rfl, hmade, hfine, hkids, z, rfl⟩ := hq; have HM1 := Lib.hid hmade; have HE1 := Lib.hid hfine; have HK1 := Lib.hid (hkids.low (lo' := w.heap.size + 4) (by first | omega | (simp; done) | (simp; omega))); clear hmade hfine hkids; have HA := Lib.hid (z.on (T := T) (w0 := w) (by repeat first | with_reducible exact HA.out | with_reducible exact Tp.refl _ _ | with_reducible refine Tp.setCell ?_ (by first | (left; omega) | (left; simp; done) | (left; simp; omega)) _ | with_reducible refine Tp.alloc ?_ _ | with_reducible refine Tp.drew ?_ | with_reducible refine Lat.on _ ?_ | with_reducible refine Tp.ext ?_ _)); have HF := Lib.hid (HF.out.up (lo := w.heap.size) (W' := z.val) (Nat.le_refl _) (by repeat first|with_reducible exact Up.refl _ _|with_reducible refine Up.setCell ?_ (by first|(left;omega)|(right;omega)|(right;simp;done)|(right;simp;omega)) _|with_reducible refine Up.alloc ?_ _|with_reducible refine Up.drew ?_|with_reducible refine Up.lat _ ?_ (by omega)|with_reducible refine Up.ext ?_ _)); have hF := HF.out.facts; obtain ⟨s4, s5, s7, sR, s41, s51, s71, sR1, c4, c5, c7, f0, f1, f2, f3, f4, f5, k0, k1, k2, k3, k4, k5⟩ := hF; have zT : z.val.heap.size ≠ T := (by omega))) | (go_at_call 24; ((with_reducible refine (HE.out.call T _ ty _ a len cap _ (TapeAt.upto y1.at_ ?_) ?_ ?_ ?_ hlen).mono ?_); (· repeat first|with_reducible exact Below.refl _ _|with_reducible refine Below.setCell ?_ (by first|omega|(simp;done)|(simp;omega)) _|with_reducible refine Below.alloc ?_ (by first|omega|(simp;done)|(simp;omega)) _|with_reducible refine Below.drew ?_|with_reducible refine Ext.on _ ?_ (by first|omega|(simp;done)|(simp;omega))); (· exact HT.out.tp (by repeat first | with_reducible exact HA.out | with_reducible exact Tp.refl _ _ | with_reducible refine Tp.setCell ?_ (by first | (left; omega) | (left; simp; done) | (left; simp; omega)) _ | with_reducible refine Tp.alloc ?_ _ | with_reducible refine Tp.drew ?_ | with_reducible refine Lat.on _ ?_ | with_reducible refine Tp.ext ?_ _)); (· first | exact HK.out | exact ty1 | exact ty2 | exact ty3 | exact tyx _ (by omega)); (· omega); rintro e0 w1 hq; obtain ⟨e2, a2, n2, cc2, rfl, hmade, hfine, hkids, z, rfl⟩ := hq; have HM2 := Lib.hid hmade; have HE2 := Lib.hid hfine; have HK2 := Lib.hid (hkids.low (lo' := w.heap.size + 4) (by first | omega | (simp; done) | (simp; omega))); clear hmade hfine hkids; have HK1 := Lib.hid (HK1.out.up (w' := z.val) (by repeat first|with_reducible exact Up.refl _ _|with_reducible refine Up.setCell ?_ (by first|(left;omega)|(right;omega)|(right;simp;done)|(right;simp;omega)) _|with_reducible refine Up.alloc ?_ _|with_reducible refine Up.drew ?_|with_reducible refine Up.lat _ ?_ (by omega)|with_reducible refine Up.ext ?_ _)); have ys := z.size; simp at ys; have q1a : y1.val.heap.size < z.val.heap.size := (by omega); have q1b : y1.val.heap.size < z.val.heap.size + 1 := (by omega); have HA := Lib.hid (z.on (T := T) (w0 := w) (by repeat first | with_reducible exact HA.out | with_reducible exact Tp.refl _ _ | with_reducible refine Tp.setCell ?_ (by first | (left; omega) | (left; simp; done) | (left; simp; omega)) _ | with_reducible refine Tp.alloc ?_ _ | with_reducible refine Tp.drew ?_ | with_reducible refine Lat.on _ ?_ | with_reducible refine Tp.ext ?_ _)); have HF := Lib.hid (HF.out.up (lo := w.heap.size) (W' := z.val) (Nat.le_refl _) (by repeat first|with_reducible exact Up.refl _ _|with_reducible refine Up.setCell ?_ (by first|(left;omega)|(right;omega)|(right;simp;done)|(right;simp;omega)) _|with_reducible refine Up.alloc ?_ _|with_reducible refine Up.drew ?_|with_reducible refine Up.lat _ ?_ (by omega)|with_reducible refine Up.ext ?_ _)); have hF := HF.out.facts; obtain ⟨s4, s5, s7, sR, s41, s51, s71, sR1, c4, c5, c7, f0, f1, f2, f3, f4, f5, k0, k1, k2, k3, k4, k5⟩ := hF; have zT : z.val.heap.size ≠ T := (by omega))) | (go_at_call 24; ((with_reducible refine (HE.out.call T _ ty _ a len cap _ (TapeAt.upto z.at_ ?_) ?_ ?_ ?_ hlen).mono ?_); (· repeat first|with_reducible exact Below.refl _ _|with_reducible refine Below.setCell ?_ (by first|omega|(simp;done)|(simp;omega)) _|with_reducible refine Below.alloc ?_ (by first|omega|(simp;done)|(simp;omega)) _|with_reducible refine Below.drew ?_|with_reducible refine Ext.on _ ?_ (by first|omega|(simp;done)|(simp;omega))); (· exact HT.out.tp (by repeat first | with_reducible exact HA.out | with_reducible exact Tp.refl _ _ | with_reducible refine Tp.setCell ?_ (by first | (left; omega) | (left; simp; done) | (left; simp; omega)) _ | with_reducible refine Tp.alloc ?_ _ | with_reducible refine Tp.drew ?_ | with_reducible refine Lat.on _ ?_ | with_reducible refine Tp.ext ?_ _)); (· first | exact HK.out | exact ty1 | exact ty2 | exact ty3 | exact tyx _ (by omega)); (· omega); rintro e0 w1 hq; obtain ⟨e1, a1, n1, cc1, rfl, hmade, hfine, hkids, y1, rfl⟩ := hq; have HM1 := Lib.hid hmade; have HE1 := Lib.hid hfine; have HK1 := Lib.hid (hkids.low (lo' := w.heap.size + 4) (by first | omega | (simp; done) | (simp; omega))); clear hmade hfine hkids; have HA := Lib.hid (y1.on (T := T) (w0 := w) (by repeat first | with_reducible exact HA.out | with_reducible exact Tp.refl _ _ | with_reducible refine Tp.setCell ?_ (by first | (left; omega) | (left; simp; done) | (left; simp; omega)) _ | with_reducible refine Tp.alloc ?_ _ | with_reducible refine Tp.drew ?_ | with_reducible refine Lat.on _ ?_ | with_reducible refine Tp.ext ?_ _)); have HF := Lib.hid (HF.out.up (lo := w.heap.size) (W' := y1.val) (Nat.le_refl _) (by repeat first|with_reducible exact Up.refl _ _|with_reducible refine Up.setCell ?_ (by first|(left;omega)|(right;omega)|(right;simp;done)|(right;simp;omega)) _|with_reducible refine Up.alloc ?_ _|with_reducible refine Up.drew ?_|with_reducible refine Up.lat _ ?_ (by omega)|with_reducible refine Up.ext ?_ _)); have hF := HF.out.facts; obtain ⟨s4, s5, s7, sR, s41, s51, s71, sR1, c4, c5, c7, f0, f1, f2, f3, f4, f5, k0, k1, k2, k3, k4, k5⟩ := hF; have y1T : y1.val.heap.size ≠ T := (by omega))) | (go_at_call 42; ((with_reducible refine (two_calls D δ B HE.out T _ ty _ _ a len cap _ _ _ _ (TapeAt.upto z.at_ ?_) ?_ ?_ ?_ hlen hd ?_ ?_ ?_ hn4 hn5 hn7).mono ?_); (· repeat first|with_reducible exact Below.refl _ _|with_reducible refine Below.setCell ?_ (by first|omega|(simp;done)|(simp;omega)) _|with_reducible refine Below.alloc ?_ (by first|omega|(simp;done)|(simp;omega)) _|with_reducible refine Below.drew ?_|with_reducible refine Ext.on _ ?_ (by first|omega|(simp;done)|(simp;omega))); (· exact HT.out.tp (by repeat first | with_reducible exact HA.out | with_reducible exact Tp.refl _ _ | with_reducible refine Tp.setCell ?_ (by first | (left; omega) | (left; simp; done) | (left; simp; omega)) _ | with_reducible refine Tp.alloc ?_ _ | with_reducible refine Tp.drew ?_ | with_reducible refine Lat.on _ ?_ | with_reducible refine Tp.ext ?_ _)); (· first | exact HK.out | exact ty1 | exact ty2 | exact ty3 | exact tyx _ (by omega)); (· omega); (· exact (HF.out.up (lo := w.heap.size) (Nat.le_refl _) (by repeat first|with_reducible exact Up.refl _ _|with_reducible refine Up.setCell ?_ (by first|(left;omega)|(right;omega)|(right;simp;done)|(right;simp;omega)) _|with_reducible refine Up.alloc ?_ _|with_reducible refine Up.drew ?_|with_reducible refine Up.lat _ ?_ (by omega)|with_reducible refine Up.ext ?_ _)).1); (· exact (HF.out.up (lo := w.heap.size) (Nat.le_refl _) (by repeat first|with_reducible exact Up.refl _ _|with_reducible refine Up.setCell ?_ (by first|(left;omega)|(right;omega)|(right;simp;done)|(right;simp;omega)) _|with_reducible refine Up.alloc ?_ _|with_reducible refine Up.drew ?_|with_reducible refine Up.lat _ ?_ (by omega)|with_reducible refine Up.ext ?_ _)).2.1); (· exact (HF.out.up (lo := w.heap.size) (Nat.le_refl _) (by repeat first|with_reducible exact Up.refl _ _|with_reducible refine Up.setCell ?_ (by first|(left;omega)|(right;omega)|(right;simp;done)|(right;simp;omega)) _|with_reducible refine Up.alloc ?_ _|with_reducible refine Up.drew ?_|with_reducible refine Up.lat _ ?_ (by omega)|with_reducible refine Up.ext ?_ _)).2.2.1); rintro e0 w1 hq; obtain ⟨e1, e2, a1, cc1, rfl, hmade1, hmade2, hkids, hrow, yt, rfl⟩ := hq; have HR1 := Lib.hid (row_low hrow (lo' := w.heap.size + 4) (by first | omega | (simp; done) | (simp; omega))); clear hrow; have HM1 := Lib.hid hmade1; have HM2 := Lib.hid hmade2; have HK1 := Lib.hid (hkids.low (lo' := w.heap.size + 4) (by first | omega | (simp; done) | (simp; omega))); clear hmade1 hmade2 hkids; have HA := Lib.hid (yt.on (T := T) (w0 := w) (by repeat first | with_reducible exact HA.out | with_reducible exact Tp.refl _ _ | with_reducible refine Tp.setCell ?_ (by first | (left; omega) | (left; simp; done) | (left; simp; omega)) _ | with_reducible refine Tp.alloc ?_ _ | with_reducible refine Tp.drew ?_ | with_reducible refine Lat.on _ ?_ | with_reducible refine Tp.ext ?_ _)); have HF := Lib.hid (HF.out.up (lo := w.heap.size) (W' := yt.val) (Nat.le_refl _) (by repeat first|with_reducible exact Up.refl _ _|with_reducible refine Up.setCell ?_ (by first|(left;omega)|(right;omega)|(right;simp;done)|(right;simp;omega)) _|with_reducible refine Up.alloc ?_ _|with_reducible refine Up.drew ?_|with_reducible refine Up.lat _ ?_ (by omega)|with_reducible refine Up.ext ?_ _)); have hF := HF.out.facts; obtain ⟨s4, s5, s7, sR, s41, s51, s71, sR1, c4, c5, c7, f0, f1, f2, f3, f4, f5, k0, k1, k2, k3, k4, k5⟩ := hF; have ytT : yt.val.heap.size ≠ T := (by omega); have yts4 := Lib.hid sR)))
  · refine ret_ex rfl ?_
    simp [results, Tryz.results24, go_sem, k0, k1, k2, k3, k4, k5]
    obtain ⟨K, Q⟩ := set_end (M := m + (10 + 4 * B)) (u0 := .int .i64 e1.op) (u1 := .int .i64 e1.ty) (u2 := .int .i64 e1.num) (u3 := .string e1.text) (u4 := .int .i64 e1.col) (u5 := .slice a1 n1 cc1) (R := w.heap.size + 1 + 1 + 1) HA.out (z.at_.mono (by omega)) (by omega) (by omega) HK1.out
    exact ⟨e1, a1, n1, cc1, rfl, HM1.out, HE1.out, K, Q⟩
  · have HT2 : Hid (TapeAt T (m + 1 + 1 + B + B) (z.val.alloc (.cells #[.int .i64 e2.op, .int .i64 e2.ty, .int .i64 e2.num, .string e2.text, .int .i64 e2.col, .slice a2 n2 cc2] 64))) := Lib.hid ((z.at_.mono (by omega)).later ((Below.refl _ _).alloc (Nat.le_refl _) _))
    haveI : Nonempty (Lat T (m + (10 + 4 * B)) (z.val.alloc (.cells #[.int .i64 e2.op, .int .i64 e2.ty, .int .i64 e2.num, .string e2.text, .int .i64 e2.col, .slice a2 n2 cc2] 64))) := ⟨⟨_, Tp.refl _ _, HT2.out.mono (by omega)⟩⟩
    refine wp_region_lin_in (C := fun w' => ∃ y : Lat T (m + (10 + 4 * B)) (z.val.alloc (.cells #[.int .i64 e2.op, .int .i64 e2.ty, .int .i64 e2.num, .string e2.text, .int .i64 e2.col, .slice a2 n2 cc2] 64)), w' = y.val) (fun x => lat_start (HT2.out.mono (by omega)) x) (by kernel_rfl) (by kernel_rfl) ?_
    intro x0
    have x0s := x0.size
    simp at x0s
    repeat (refine lin_calm rfl ?_; intro KK hKK; go_big_quiet_step (fail); refine wpQuiet_nil ?_; refine hKK _ ?_; clear hKK KK)
    refine lin_free rfl ?_
    intro KK hKK
    go_wp2_with (go_at_call 24; ((with_reducible refine (HE.out.call T _ ty _ a len cap _ (HT2.out.later x0.below) ?_ HK.out ?_ hlen).mono ?_); (· exact HT.out.tp (by repeat first | with_reducible exact HA.out | with_reducible exact Tp.refl _ _ | with_reducible refine Tp.setCell ?_ (by first | (left; omega) | (left; simp; done) | (left; simp; omega)) _ | with_reducible refine Tp.alloc ?_ _ | with_reducible refine Tp.drew ?_ | with_reducible refine Lat.on _ ?_ | with_reducible refine Tp.ext ?_ _)); (· omega); rintro e0 w1 hq; obtain ⟨e3, a3, n3, cc3, rfl, hmade, hfine, hkids, z3, rfl⟩ := hq; have HM3 := Lib.hid hmade; have HE3 := Lib.hid hfine; have HK3 := Lib.hid (hkids.low (lo' := w.heap.size + 4) (by omega)); clear hmade hfine hkids; have HK1 := Lib.hid (HK1.out.up (w' := z3.val) (by repeat first|with_reducible exact Up.refl _ _|with_reducible refine Up.setCell ?_ (by first|(left;omega)|(right;omega)|(right;simp;done)|(right;simp;omega)) _|with_reducible refine Up.alloc ?_ _|with_reducible refine Up.drew ?_|with_reducible refine Up.lat _ ?_ (by omega)|with_reducible refine Up.ext ?_ _)); have HK2 := Lib.hid (HK2.out.up (w' := z3.val) (by repeat first|with_reducible exact Up.refl _ _|with_reducible refine Up.setCell ?_ (by first|(left;omega)|(right;omega)|(right;simp;done)|(right;simp;omega)) _|with_reducible refine Up.alloc ?_ _|with_reducible refine Up.drew ?_|with_reducible refine Up.lat _ ?_ (by omega)|with_reducible refine Up.ext ?_ _)); clear s4 s5 s7 sR s41 s51 s71 sR1 c4 c5 c7 f0 f1 f2 f3 f4 f5 k0 k1 k2 k3 k4 k5; have HA := Lib.hid (z3.on (T := T) (w0 := w) (by repeat first | with_reducible exact HA.out | with_reducible exact Tp.refl _ _ | with_reducible refine Tp.setCell ?_ (by first | (left; omega) | (left; simp; done) | (left; simp; omega)) _ | with_reducible refine Tp.alloc ?_ _ | with_reducible refine Tp.drew ?_ | with_reducible refine Lat.on _ ?_ | with_reducible refine Tp.ext ?_ _)); have HF := Lib.hid (HF.out.up (lo := w.heap.size) (W' := z3.val) (Nat.le_refl _) (by repeat first|with_reducible exact Up.refl _ _|with_reducible refine Up.setCell ?_ (by first|(left;omega)|(right;omega)|(right;simp;done)|(right;simp;omega)) _|with_reducible refine Up.alloc ?_ _|with_reducible refine Up.drew ?_|with_reducible refine Up.lat _ ?_ (by omega)|with_reducible refine Up.ext ?_ _)); have hF := HF.out.facts; obtain ⟨s4, s5, s7, sR, s41, s51, s71, sR1, c4, c5, c7, f0, f1, f2, f3, f4, f5, k0, k1, k2, k3, k4, k5⟩ := hF; have z3T : z3.val.heap.size ≠ T := (by omega)))
    refine hKK _ _ (.inr ⟨⟨_, z3.on (Tp.ofBelow x0.below), z3.at_.mono (by omega)⟩, rfl⟩) ?_
    clear hKK KK
    refine lin_free rfl ?_
    intro KK hKK
    go_wp2_with fail
    refine hKK _ _ (.inr ⟨⟨_, (z3.on (Tp.ofBelow x0.below)).alloc _, (z3.at_.mono (by omega)).later ((Below.refl _ _).alloc (Nat.le_refl _) _)⟩, rfl⟩) ?_
    clear hKK KK
    refine lin_free rfl ?_
    intro KK hKK
    go_wp2_with fail
    refine hKK _ _ (.inr ⟨⟨_, (z3.on (Tp.ofBelow x0.below)).alloc _, (z3.at_.mono (by omega)).later ((Below.refl _ _).alloc (Nat.le_refl _) _)⟩, rfl⟩) ?_
    clear hKK KK
    refine lin_free rfl ?_
    intro KK hKK
    go_wp2_with fail
    refine hKK _ _ (.inl trivial) ?_
    clear hKK KK
    refine lin_nil ?_
    go_wp2_with fail
    refine ret_ex rfl ?_
    simp [results, Tryz.results24, go_sem, sR, k0, k1, k2, k3, k4, k5]
    have hN := fun u0 u1 u2 u3 u4 u5 => node_end (T := T) (M := m + (10 + 4 * B)) (u0 := u0) (u1 := u1) (u2 := u2) (u3 := u3) (u4 := u4) (u5 := u5) (W := z3.val) (R := w.heap.size + 1 + 1 + 1) (rs := [⟨e1, a1, n1, cc1⟩, ⟨e2, a2, n2, cc2⟩, ⟨e3, a3, n3, cc3⟩]) (Tq.of HA.out (z3.at_.mono (by omega))) (by omega) (by omega) sR (by unfold maxLen; simp) (fun r hr => by
      simp only [List.mem_cons, List.not_mem_nil, or_false] at hr
      rcases hr with rfl | rfl | rfl
      · exact ⟨HE1.out, HK1.out⟩
      · exact ⟨HE2.out, HK2.out⟩
      · exact ⟨HE3.out, HK3.out⟩)
    simp only [flatR, Rec.cells, List.append_nil, List.cons_append, List.nil_append, List.length_cons, List.length_nil, List.map_cons, List.map_nil] at hN
    obtain ⟨K, Q⟩ := hN (.int .i64 26) (.int .i64 0) (.int .i64 0) (.string ⟨#[]⟩) (.int .i64 0) (.slice (some ⟨z3.val.heap.size, 0, none⟩) 3 3)
    exact ⟨Ex.node 26 [e1, e2, e3], some ⟨z3.val.heap.size, 0, none⟩, 3, 3, rfl, .case 2 e1 e2 e3 HM1.out HM2.out HM3.out, ⟨wf_small (n := 26) (by omega) (by omega), wf_small (n := 0) (by decide) (by decide), wf_small (n := 0) (by decide) (by decide), Nat.zero_le _, wf_small (n := 0) (by decide) (by decide)⟩, K, Q⟩
  · refine ret_ex rfl ?_
    simp [results, Tryz.results24, go_sem, k0, k1, k2, k3, k4, k5]
    obtain ⟨K, Q⟩ := set_end (M := m + (10 + 4 * B)) (u0 := .int .i64 (27)) (u1 := .int .i64 0) (u2 := .int .i64 0) (u3 := .string ⟨#[]⟩) (u4 := .int .i64 0) (u5 := .slice a1 2 cc1) (R := w.heap.size + 1 + 1 + 1) HA.out (yt.at_.mono (by omega)) (by omega) (by omega) HK1.out
    exact ⟨Ex.node (27) [e1, e2], a1, 2, cc1, rfl, .node 2 (27) 2 [e1, e2] (sg27 2) (all2 HM1.out HM2.out), ⟨wf_small (n := 27) (by omega) (by omega), wf_small (n := 0) (by decide) (by decide), wf_small (n := 0) (by decide) (by decide), Nat.zero_le _, wf_small (n := 0) (by decide) (by decide)⟩, K, Q⟩
  · refine ret_ex rfl ?_
    simp [results, Tryz.results24, go_sem, k0, k1, k2, k3, k4, k5]
    obtain ⟨K, Q⟩ := set_end (M := m + (10 + 4 * B)) (u0 := .int .i64 (22 + (r : Int))) (u1 := .int .i64 0) (u2 := .int .i64 0) (u3 := .string ⟨#[]⟩) (u4 := .int .i64 0) (u5 := .slice a1 2 cc1) (R := w.heap.size + 1 + 1 + 1) HA.out (yt.at_.mono (by omega)) (by omega) (by omega) HK1.out
    exact ⟨Ex.node (22 + (r : Int)) [e1, e2], a1, 2, cc1, rfl, .node 2 (22 + (r : Int)) 2 [e1, e2] (sgLo r hr) (all2 HM1.out HM2.out), ⟨wf_small (n := 22 + (r : Int)) (by omega) (by omega), wf_small (n := 0) (by decide) (by decide), wf_small (n := 0) (by decide) (by decide), Nat.zero_le _, wf_small (n := 0) (by decide) (by decide)⟩, K, Q⟩
  · have HT2 : Hid (TapeAt T (m + 1 + 1 + 1 + 1) (z.val.alloc (.cells #[.int .i64 24, .int .i64 25] 3))) := Lib.hid ((z.at_.mono (by omega)).later ((Below.refl _ _).alloc (Nat.le_refl _) _))
    haveI : Nonempty (Lat T (m + (10 + 4 * B)) (z.val.alloc (.cells #[.int .i64 24, .int .i64 25] 3))) := ⟨⟨_, Tp.refl _ _, HT2.out.mono (by omega)⟩⟩
    refine wp_region_lin_in (C := fun w' => ∃ y : Lat T (m + (10 + 4 * B)) (z.val.alloc (.cells #[.int .i64 24, .int .i64 25] 3)), w' = y.val) (fun x => lat_start (HT2.out.mono (by omega)) x) (by kernel_rfl) (by kernel_rfl) ?_
    intro x0
    have x0s := x0.size
    simp at x0s
    repeat (refine lin_calm rfl ?_; intro KK hKK; go_big_quiet_step (fail); refine wpQuiet_nil ?_; refine hKK _ ?_; clear hKK KK)
    refine lin_free rfl ?_
    intro KK hKK
    go_wp2_with (go_at_call 21; ((with_reducible refine (Next_calls T _ _ _ (HT2.out.later x0.below) ?_ (by omega) (by omega)).mono ?_); (· omega); rintro e0 w1 hq; obtain ⟨r, rfl, hr, zA, rfl⟩ := hq; have zAs := zA.size))
    refine hKK _ _ (.inr ⟨⟨_, zA.on (Tp.ofBelow x0.below), zA.at_.mono (by omega)⟩, rfl⟩) ?_
    clear hKK KK
    have hr01 : r = 0 ∨ r = 1 := by omega
    rcases hr01 with rfl | rfl
    all_goals
      repeat (refine lin_calm rfl ?_; intro KK hKK; go_big_quiet_step (fail); refine wpQuiet_nil ?_; refine hKK _ ?_; clear hKK KK)
      refine lin_free rfl ?_
      intro KK hKK
      go_wp2_with (go_at_call 24; ((with_reducible refine (HE.out.call T _ ty _ a len cap _ zA.at_ ?_ ty2 ?_ hlen).mono ?_); (· exact HT.out.tp (by repeat first | with_reducible exact HA.out | with_reducible exact Tp.refl _ _ | with_reducible refine Tp.setCell ?_ (by first | (left; omega) | (left; simp; done) | (left; simp; omega)) _ | with_reducible refine Tp.alloc ?_ _ | with_reducible refine Tp.drew ?_ | with_reducible refine Lat.on _ ?_ | with_reducible refine Tp.ext ?_ _)); (· omega); rintro e0 w1 hq; obtain ⟨e1, a1, n1, cc1, rfl, hmade, hfine, hkids, y1, rfl⟩ := hq; have HM1 := Lib.hid hmade; have HE1 := Lib.hid hfine; have HK1 := Lib.hid (hkids.low (lo' := w.heap.size + 4) (by omega)); clear hmade hfine hkids; clear s4 s5 s7 sR s41 s51 s71 sR1 c4 c5 c7 f0 f1 f2 f3 f4 f5 k0 k1 k2 k3 k4 k5; have HA := Lib.hid (y1.on (T := T) (w0 := w) (by repeat first | with_reducible exact HA.out | with_reducible exact Tp.refl _ _ | with_reducible refine Tp.setCell ?_ (by first | (left; omega) | (left; simp; done) | (left; simp; omega)) _ | with_reducible refine Tp.alloc ?_ _ | with_reducible refine Tp.drew ?_ | with_reducible refine Lat.on _ ?_ | with_reducible refine Tp.ext ?_ _)); have HF := Lib.hid (HF.out.up (lo := w.heap.size) (W' := y1.val) (Nat.le_refl _) (by repeat first|with_reducible exact Up.refl _ _|with_reducible refine Up.setCell ?_ (by first|(left;omega)|(right;omega)|(right;simp;done)|(right;simp;omega)) _|with_reducible refine Up.alloc ?_ _|with_reducible refine Up.drew ?_|with_reducible refine Up.lat _ ?_ (by omega)|with_reducible refine Up.ext ?_ _)); have hF := HF.out.facts; obtain ⟨s4, s5, s7, sR, s41, s51, s71, sR1, c4, c5, c7, f0, f1, f2, f3, f4, f5, k0, k1, k2, k3, k4, k5⟩ := hF; have y1T : y1.val.heap.size ≠ T := (by omega)))
      refine hKK _ _ (.inr ⟨⟨_, y1.on (zA.on (Tp.ofBelow x0.below)), y1.at_.mono (by omega)⟩, rfl⟩) ?_
      clear hKK KK
      refine lin_free rfl ?_
      intro KK hKK
      go_wp2_with fail
      refine hKK _ _ (.inr ⟨⟨_, (y1.on (zA.on (Tp.ofBelow x0.below))).alloc _, (y1.at_.mono (by omega)).later ((Below.refl _ _).alloc (Nat.le_refl _) _)⟩, rfl⟩) ?_
      clear hKK KK
      refine lin_free rfl ?_
      intro KK hKK
      go_wp2_with fail
      refine hKK _ _ (.inr ⟨⟨_, (y1.on (zA.on (Tp.ofBelow x0.below))).alloc _, (y1.at_.mono (by omega)).later ((Below.refl _ _).alloc (Nat.le_refl _) _)⟩, rfl⟩) ?_
      clear hKK KK
      refine lin_free rfl ?_
      intro KK hKK
      go_wp2_with fail
      refine hKK _ _ (.inl trivial) ?_
      clear hKK KK
      refine lin_nil ?_
      go_wp2_with fail
      refine ret_ex rfl ?_
      simp [results, Tryz.results24, go_sem, sR, k0, k1, k2, k3, k4, k5]
      have hN := fun u0 u1 u2 u3 u4 u5 => node_end (T := T) (M := m + (10 + 4 * B)) (u0 := u0) (u1 := u1) (u2 := u2) (u3 := u3) (u4 := u4) (u5 := u5) (W := y1.val) (R := w.heap.size + 1 + 1 + 1) (rs := [⟨e1, a1, n1, cc1⟩]) (Tq.of HA.out (y1.at_.mono (by omega))) (by omega) (by omega) sR (by unfold maxLen; simp) (fun r hr => by
        simp only [List.mem_cons, List.not_mem_nil, or_false] at hr
        subst hr
        exact ⟨HE1.out, HK1.out⟩)
      simp only [flatR, Rec.cells, List.append_nil, List.length_cons, List.length_nil, List.map_cons, List.map_nil] at hN
    · obtain ⟨K, Q⟩ := hN (.int .i64 24) (.int .i64 0) (.int .i64 0) (.string ⟨#[]⟩) (.int .i64 0) (.slice (some ⟨y1.val.heap.size, 0, none⟩) 1 1)
      exact ⟨Ex.node 24 [e1], some ⟨y1.val.heap.size, 0, none⟩, 1, 1, rfl, .node 2 24 2 [e1] (sg24) (all1 HM1.out), ⟨wf_small (n := 24) (by omega) (by omega), wf_small (n := 0) (by decide) (by decide), wf_small (n := 0) (by decide) (by decide), Nat.zero_le _, wf_small (n := 0) (by decide) (by decide)⟩, K, Q⟩
    · obtain ⟨K, Q⟩ := hN (.int .i64 25) (.int .i64 0) (.int .i64 0) (.string ⟨#[]⟩) (.int .i64 0) (.slice (some ⟨y1.val.heap.size, 0, none⟩) 1 1)
      exact ⟨Ex.node 25 [e1], some ⟨y1.val.heap.size, 0, none⟩, 1, 1, rfl, .node 2 25 2 [e1] (sg25) (all1 HM1.out), ⟨wf_small (n := 25) (by omega) (by omega), wf_small (n := 0) (by decide) (by decide), wf_small (n := 0) (by decide) (by decide), Nat.zero_le _, wf_small (n := 0) (by decide) (by decide)⟩, K, Q⟩
  · refine ret_ex rfl ?_
    simp [results, Tryz.results24, go_sem, sR, k0, k1, k2, k3, k4, k5]
    have hN := fun u0 u1 u2 u3 u4 u5 => node_end (T := T) (M := m + (10 + 4 * B)) (u0 := u0) (u1 := u1) (u2 := u2) (u3 := u3) (u4 := u4) (u5 := u5) (W := y1.val) (R := w.heap.size + 1 + 1 + 1) (rs := [⟨e1, a1, n1, cc1⟩]) (Tq.of HA.out (y1.at_.mono (by omega))) (by omega) (by omega) sR (by unfold maxLen; simp) (fun r hr => by
      simp only [List.mem_cons, List.not_mem_nil, or_false] at hr
      subst hr
      exact ⟨HE1.out, HK1.out⟩)
    simp only [flatR, Rec.cells, List.append_nil, List.length_cons, List.length_nil, List.map_cons, List.map_nil] at hN
    obtain ⟨K, Q⟩ := hN (.int .i64 (21)) (.int .i64 0) (.int .i64 0) (.string ⟨#[]⟩) (.int .i64 0) (.slice (some ⟨y1.val.heap.size, 0, none⟩) 1 1)
    exact ⟨Ex.node (21) [e1], some ⟨y1.val.heap.size, 0, none⟩, 1, 1, rfl, .node 2 (21) _ [e1] (sg21 _ (tyx rx (by assumption))) (all1 HM1.out), ⟨wf_small (n := 21) (by omega) (by omega), wf_small (n := 0) (by decide) (by decide), wf_small (n := 0) (by decide) (by decide), Nat.zero_le _, wf_small (n := 0) (by decide) (by decide)⟩, K, Q⟩
  · have hx : IsTy (1 + (rx : Int)) := (tyx rx (by assumption))
    have HX := Lib.hid hx
    have HI : Hid (LoopIs T (m + (10 + 4 * B)) δ ty (1 + (rx : Int)) a len cap ((D : Nat) + 1) B w.heap.size yt.val.heap.size w r z.val) := Lib.hid (loop_start (by omega) (Nat.le_refl _) (by have := yts4.out; omega) HR1.out HM1.out HM2.out z HA.out HF.out (by omega) (by omega))
    have ybo : w.heap.size + 4 ≤ yt.val.heap.size := by have := yts4.out; omega
    clear hx s4 s5 s7 sR s41 s51 s71 sR1 c4 c5 c7 f0 f1 f2 f3 f4 f5 k0 k1 k2 k3 k4 k5 HA HF
    generalize yt.val.heap.size = bo at *
    generalize z.val = wz at *
    obtain ⟨i1, hi, hz0, hz1, hz2⟩ := info_parts infoEx
    go_loopw [16] (fun i wr => ∃ c : Nat, i = .int .i64 c ∧ LoopIs T (m + (10 + 4 * B)) δ ty (1 + (rx : Int)) a len cap ((D : Nat) + 1) B w.heap.size bo w c wr) (fun i _ => (intOf i).toNat)
    case atStart => exact ⟨r, rfl, HI.out⟩
    case round =>
      clear HI
      obtain ⟨c, rfl, rs, v, mm, hc2, hl4, hl2, hmM, hA, hat, hF, hb, hrow, hv, hq⟩ := hrel
      have hA2 := Lib.hid hA
      have hAT := Lib.hid hat
      have hF2 := Lib.hid hF
      have hB2 := Lib.hid hb
      have hR2 := Lib.hid hrow
      have hV2 := Lib.hid hv
      have hQ2 := Lib.hid hq
      have hM2 := Lib.hid hmM
      obtain ⟨s4, s5, s7, sR, s41, s51, s71, sR1, c4, c5, c7, f0, f1, f2, f3, f4, f5, k0, k1, k2, k3, k4, k5⟩ := hF.facts
      obtain ⟨sb, g0, g1, g2, g3, g4, g5, b0, b1, b2, b3, b4, b5⟩ := six (a0 := .int .i64 28) (a1 := .int .i64 0) (a2 := .int .i64 0) (a3 := .string ⟨#[]⟩) (a4 := .int .i64 0) (a5 := v) hb
      clear hA hat hF hb hrow hv hq hmM
      by_cases hc0 : c = 0
      · subst hc0
        obtain ⟨a4, cap4, rfl, hk4⟩ := hR2.out.kids (ok' := fun b => w.heap.size + 3 + 1 ≤ b) (fun g hg => (hR2.out.1.lt g hg).1) (fun b hb => hb.1)
        go_wp2_with fail
        refine ret_ex rfl ?_
        simp [results, Tryz.results24, go_sem, k0, k1, k2, k3, k4, k5]
        obtain ⟨K, Q⟩ := set_end (M := m + (10 + 4 * B)) (u0 := .int .i64 28) (u1 := .int .i64 0) (u2 := .int .i64 0) (u3 := .string ⟨#[]⟩) (u4 := .int .i64 0) (u5 := .slice a4 rs.length cap4) (R := w.heap.size + 1 + 1 + 1) hA2.out (hAT.out.mono (by have := hM2.out; simpa using this)) (by omega) (by omega) hk4
        exact ⟨Ex.node 28 (rs.map Rec.e), a4, rs.length, cap4, rfl, .node 2 28 _ (rs.map Rec.e) (by rw [List.length_map]; exact sg28 _ _ HX.out hl2 (by omega)) (fun e he => by obtain ⟨q, hq, rfl⟩ := List.mem_map.1 he; exact hQ2.out q hq), ⟨wf_small (n := 28) (by omega) (by omega), wf_small (n := 0) (by decide) (by decide), wf_small (n := 0) (by decide) (by decide), Nat.zero_le _, wf_small (n := 0) (by decide) (by decide)⟩, K, Q⟩
      · obtain ⟨c', rfl⟩ : ∃ c' : Nat, c = c' + 1 := ⟨c - 1, by omega⟩
        have hd2 : decide ((0 : Int) < (c' : Int) + 1) = true := by first | (simp; done) | (simp; omega)
        have hmB : mm + B ≤ m + (10 + 4 * B) := by
          have := hM2.out
          rcases (by omega : c' = 0 ∨ c' = 1) with rfl | rfl <;> simp at this <;> omega
        have hrl := hR2.out.1.lt
        have HSb : Hid (∀ b, (b = w.heap.size ∨ b = w.heap.size + 1 ∨ b = w.heap.size + 1 + 1 ∨ b = bo) → w.heap.size ≤ b ∧ b < wr.heap.size ∧ v.ownBlock ≠ some b) := Lib.hid (fun b hb => by
          rcases hb with rfl | rfl | rfl | rfl
          · exact ⟨Nat.le_refl _, s4, fun e => by have := (hrl _ e).1; omega⟩
          · exact ⟨by omega, s5, fun e => by have := (hrl _ e).1; omega⟩
          · exact ⟨by omega, s7, fun e => by have := (hrl _ e).1; omega⟩
          · exact ⟨by omega, sb, hV2.out⟩)
        have HRL := Lib.hid hrl
        clear hrl
        go_wp2_with fail
        refine wp_region_lin_in (C := fun w' => ∃ y : Keep w.heap.size bo wr, w' = y.val) (fun x => ⟨⟨x.val, fun b hb => x.below.block b (HSb.out b hb).2.1⟩, rfl⟩) (by kernel_rfl) (by kernel_rfl) ?_
        intro x0
        have x0s := x0.size
        repeat (refine lin_calm rfl ?_; intro KK hKK; go_big_quiet_step (fail); refine wpQuiet_nil ?_; refine hKK _ ?_; clear hKK KK)
        refine lin_free rfl ?_
        intro KK hKK
        go_wp2_with (go_at_call 24; ((with_reducible refine (HE.out.call T mm ty _ a len cap _ (hAT.out.later x0.below) ?_ HX.out ?_ hlen).mono ?_); (· exact HT.out.tp (hA2.out.ext x0)); (· omega); rintro e0 w1 hq; obtain ⟨e3, a3, n3, cc3, rfl, hmade, hfine, hkids, z3, rfl⟩ := hq; have HM3 := Lib.hid hmade; have HE3 := Lib.hid hfine; have HK3 := Lib.hid hkids; clear hmade hfine hkids; have z3s := z3.size))
        have HU : Hid (∀ b, (b = w.heap.size ∨ b = w.heap.size + 1 ∨ b = w.heap.size + 1 + 1 ∨ b = bo) → z3.val.heap[b]? = wr.heap[b]?) := Lib.hid (fun b hb => (Up.lat z3 ((Up.refl w.heap.size _).ext x0) (by omega)).block b (HSb.out b hb).1 (HSb.out b hb).2.1)
        refine hKK _ _ (.inr ⟨⟨_, HU.out⟩, rfl⟩) ?_
        clear hKK KK
        refine lin_free rfl ?_
        intro KK hKK
        go_wp2_with fail
        refine hKK _ _ (.inr ⟨⟨_, fun b hb => (Below.heap_alloc _ _ _ (by have := (HSb.out b hb).2.1; omega)).trans (HU.out b hb)⟩, rfl⟩) ?_
        clear hKK KK
        refine lin_free rfl ?_
        intro KK hKK
        go_wp2_with (at_builtin; refine wpList_append_own_at _ rfl _ _ 53 rfl (w.heap.size + 4) 64 i1 (.agg #[.int .i64 0, .int .i64 0, .int .i64 0, .string ⟨#[]⟩, .int .i64 0, .slice none 0 0]) 6 72 Tryz.underlying53 hi hz0 hz1 hz2 rfl (by decide) v rs.length (flatR rs) rfl (own_keep hR2.out.1 (fun k hk => (Below.heap_alloc _ _ _ (by have := (HRL.out k hk).2; omega)).trans ((Up.lat z3 ((Up.refl w.heap.size _).ext x0) (by omega)).block k (by have := (HRL.out k hk).1; omega) (HRL.out k hk).2))) ⟨z3.val.heap.size, 0, none⟩ 1 1 (Rec.cells ⟨e3, a3, n3, cc3⟩) rfl rfl (cells_new' _ _ _) (by intro u hu; exact flatR_one [⟨e3, a3, n3, cc3⟩] u (by simpa [flatR] using hu)) (by unfold maxLen; omega) (by omega) (by simp; omega) ?_; intro v3 w3 hown3 hg3 _ hat3; have HO3 := Lib.hid hown3; have HG := Lib.hid hg3; have HAT3 := Lib.hid hat3; clear hown3 hg3 hat3)
        obtain ⟨a5, n5, cc5, rfl⟩ := own_slice HO3.out
        have HMD : Hid (∀ b, (b = w.heap.size ∨ b = w.heap.size + 1 ∨ b = w.heap.size + 1 + 1 ∨ b = bo) → w3.heap[b]? = wr.heap[b]?) := Lib.hid (fun b hb => loop_mid hR2.out (by omega) z3 HG.out b (HSb.out b hb).1 (HSb.out b hb).2.1 (HSb.out b hb).2.2)
        refine hKK _ _ (.inr ⟨⟨_, HMD.out⟩, rfl⟩) ?_
        clear hKK KK
        repeat (refine lin_calm rfl ?_; intro KK hKK; go_big_quiet_step (fail); refine wpQuiet_nil ?_; refine hKK _ ?_; clear hKK KK)
        refine lin_free rfl ?_
        intro KK hKK
        clear g0 g1 g2 g3 g4 g5 b0 b1 b2 b3 b4 b5 sb
        obtain ⟨sb, g0, g1, g2, g3, g4, g5, b0, b1, b2, b3, b4, b5⟩ := six (a0 := .int .i64 28) (a1 := .int .i64 0) (a2 := .int .i64 0) (a3 := .string ⟨#[]⟩) (a4 := .int .i64 0) (a5 := v) ((HMD.out bo (.inr (.inr (.inr rfl)))).trans hB2.out)
        go_wp2_with fail
        refine hKK _ _ (.inl trivial) ?_
        clear hKK KK
        refine lin_nil ?_
        go_wp2_with fail
        go_roundw
        case rel => exact ⟨c', by go_num, loop_step (r := ⟨e3, a3, n3, cc3⟩) (by omega) (Nat.le_refl _) (by omega) ybo (by omega) (by omega) hl2 hM2.out hA2.out hF2.out hB2.out hR2.out hV2.out hQ2.out z3 HE3.out HK3.out HM3.out HO3.out HG.out HAT3.out⟩
        case measure => first | (simp [intOf]; done) | (simp [intOf]; omega)
  · refine ret_ex rfl ?_
    simp [results, Tryz.results24, go_sem, k0, k1, k2, k3, k4, k5]
    obtain ⟨K, Q⟩ := set_end (M := m + (10 + 4 * B)) (u0 := .int .i64 (14 + (r : Int))) (u1 := .int .i64 0) (u2 := .int .i64 0) (u3 := .string ⟨#[]⟩) (u4 := .int .i64 0) (u5 := .slice a1 2 cc1) (R := w.heap.size + 1 + 1 + 1) HA.out (yt.at_.mono (by omega)) (by omega) (by omega) HK1.out
    exact ⟨Ex.node (14 + (r : Int)) [e1, e2], a1, 2, cc1, rfl, .node 2 (14 + (r : Int)) _ [e1, e2] (sgCm r _ hr (tyx rx (by assumption))) (all2 HM1.out HM2.out), ⟨wf_small (n := 14 + (r : Int)) (by omega) (by omega), wf_small (n := 0) (by decide) (by decide), wf_small (n := 0) (by decide) (by decide), Nat.zero_le _, wf_small (n := 0) (by decide) (by decide)⟩, K, Q⟩
end Go.Proofs.YtdmhmlnfoocnjaaGreatDoor
