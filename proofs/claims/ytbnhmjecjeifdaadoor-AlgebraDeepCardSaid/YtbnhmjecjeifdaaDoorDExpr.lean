/-
  The expression that a tape without numbers makes over columns none of which is a truth: the null of truths.
-/
import Derived.Test.YtbnhmjecjeifdaaDoorDMade
import Derived.LoopTactic
import Derived.BigQuiet
set_option linter.unusedVariables false
namespace Go.Proofs.YtbnhmjecjeifdaaDoor
open Go Go.RowKit Go.Deep
theorem SlAt.tp {T k : Nat} {w w' : World} {s : Sl} {c : Nat → List Value} (h : SlAt w k s c) (hb : Tp T w w') (hT : ∀ b off, s.a = some ⟨b, off, none⟩ → b ≠ T) : SlAt w' k s c := by
  refine ⟨h.1, h.2.1, h.2.2.1, fun i hi => ?_⟩
  obtain ⟨b, off, ha, hlt, hc⟩ := h.2.2.2 i hi
  exact ⟨b, off, ha, Nat.lt_of_lt_of_le hlt hb.size, fun j hj => by rw [hb.cell _ hlt (hT b off ha)]; exact hc j hj⟩
set_option maxHeartbeats 4000000 in
set_option maxRecDepth 20000 in
theorem pick_zero (T p : Nat) (s : Sl) (f : Nat → Int) (w : World) (h : TapeZ T p w) (hs : SlAt w 1 s (intC f)) (hf : ∀ i, i < s.len → f i ≠ 2) (hm : p ≤ 2 ^ 60) (hlen : s.len ≤ 1000) :
    Calls Tryd.prog 83 #[.pointer (some ⟨T, 0, none⟩), .slice s.a s.len s.cap, .int .i64 2] w fun r w' => r = .returned (.agg #[.int .i64 1, .int .i64 2, .int .i64 0, .string ⟨#[]⟩, .int .i64 0, .slice none 0 0]) ∧ TqZ T (p + 2) w w' := by
  have hT := h.lt
  have hle := hs.1
  have hmax := hs.2.1
  unfold maxLen at hmax
  have H := Lib.hid h
  have HS := Lib.hid hs.2.2.2
  have HF := Lib.hid hf
  clear h hs hf
  obtain ⟨sa, sn, sc⟩ := s
  simp only at hle hmax hlen HS HF
  go_enter Tryd.func83, Tryd.ntmps83
  go_wp2_with fail
  go_loopw [7, 8] (fun u i wr => ∃ (j : Nat), u = .slice none 0 0 ∧ j ≤ sn ∧ i = .int .i64 j ∧ Cls (w.alloc (.cells #[.int .i64 0, .int .i64 0, .int .i64 0, .string ⟨#[]⟩, .int .i64 0, .slice none 0 0] 24)) wr) (fun _ i _ => sn - (intOf i).toNat)
  case atStart => exact ⟨0, rfl, by omega, rfl, Cls.of (Below.refl _ _)⟩
  case round =>
    obtain ⟨j, rfl, hj, rfl, y, rfl⟩ := hrel
    have ys := y.size
    have ys2 : w.heap.size + 1 ≤ y.val.heap.size := by simpa using ys
    by_cases hlt : j < sn
    · obtain ⟨b, off, rfl, hb2, hc⟩ := HS.out j hlt
      have q := hc 0 (by omega)
      have hfj := HF.out j hlt
      simp only [intC, List.getElem?_cons_zero, Nat.mul_one, Nat.add_zero] at q
      have hb3 : b < w.heap.size + 1 := by omega
      clear hc
      generalize f j = kj at q hfj
      have d2 : (kj == 2) = false := by simpa using hfj
      clear hfj
      go_wp2_with fail
      go_roundw
      case rel => exact ⟨j + 1, rfl, by omega, by go_num, y, rfl⟩
      case measure => simp [intOf]; omega
    · have HB : Hid (y.val.heap[w.heap.size]? = some (.cells #[.int .i64 0, .int .i64 0, .int .i64 0, .string ⟨#[]⟩, .int .i64 0, .slice none 0 0] 24)) := Lib.hid ((y.below.block _ (by simp)).trans (heap_alloc_new w _))
      have hTn : w.heap.size ≠ T := by omega
      go_wp2_with (first | (go_at_call 17; ((with_reducible refine (Next_zero T p _ _ ((H.out.later ((Below.refl _ _).alloc (Nat.le_refl _) _)).later y.below) (by omega) (by omega)).mono ?_); rintro e1 w1 hq; obtain ⟨rfl, z, rfl⟩ := hq; have zs := z.size; obtain ⟨b0, f0, f1, f2, f3, f4, f5, c0, c1, c2, c3, c4, c5⟩ := six_z ((z.tp.block _ (by omega) hTn).trans HB.out))) | (go_at_call 98; ((with_reducible refine (Value_zero T (p + 1) _ z.at_ (by omega)).mono ?_); rintro e1 w1 hq; obtain ⟨rfl, z2, rfl⟩ := hq; have z2s := z2.size)) | (go_at_call 13; ((with_reducible refine (rConst_zero _).mono ?_); rintro e1 w1 hq; obtain ⟨rfl, t, rfl⟩ := hq; have ts := t.size; clear f0 f1 f2 f3 f4 f5 c0 c1 c2 c3 c4 c5; obtain ⟨b02, f0, f1, f2, f3, f4, f5, c0, c1, c2, c3, c4, c5⟩ := six_z ((t.below.block w.heap.size (by omega)).trans ((z2.tp.block _ (by omega) hTn).trans ((z.tp.block _ (by omega) hTn).trans HB.out))))))
      refine ret_ex rfl ?_
      simp [results, Tryd.results83, go_sem, c0, c1, c2, c3, c4, c5]
      refine TqZ.of ?_ (z2.at_.upto ?_)
      · repeat first | with_reducible exact Tp.refl _ _ | with_reducible refine Tp.setCell ?_ (by first | (left; omega) | (left; simp; done) | (left; simp; omega)) _ | with_reducible refine Tp.alloc ?_ _ | with_reducible refine Tp.drew ?_ | with_reducible refine LatZ.on _ ?_ | with_reducible refine Tp.ext ?_ _
      · repeat first | with_reducible exact Below.refl _ _ | with_reducible refine Below.setCell ?_ (by first | omega | (simp; done) | (simp; omega)) _ | with_reducible refine Below.alloc ?_ (by first | omega | (simp; done) | (simp; omega)) _ | with_reducible refine Below.drew ?_ | with_reducible refine Ext.on _ ?_ (by first | omega | (simp; done) | (simp; omega))
set_option maxHeartbeats 4000000 in
set_option maxRecDepth 20000 in
theorem Expr_zero (T p : Nat) (s : Sl) (f : Nat → Int) (w : World) (h : TapeZ T p w) (hs : SlAt w 1 s (intC f)) (hf : ∀ i, i < s.len → f i ≠ 2) (hm : p ≤ 2 ^ 50) (hlen : s.len ≤ 1000) (hsT : ∀ b off, s.a = some ⟨b, off, none⟩ → b ≠ T) :
    Calls Tryd.prog 41 #[.pointer (some ⟨T, 0, none⟩), .slice s.a s.len s.cap, .int .i64 2, .int .i64 3] w fun r w' => r = .returned (.agg #[.int .i64 1, .int .i64 2, .int .i64 0, .string ⟨#[]⟩, .int .i64 0, .slice none 0 0]) ∧ TqZ T (p + 3) w w' := by
  have hT := h.lt
  have H := Lib.hid h
  have HS := Lib.hid hs
  have HF := Lib.hid hf
  have HN := Lib.hid hsT
  clear h hs hf hsT
  have hn4 : w.heap.size ≠ T := by omega
  have hn5 : w.heap.size + 1 ≠ T := by omega
  have hn7 : w.heap.size + 1 + 1 ≠ T := by omega
  have hn8 : w.heap.size + 1 + 1 + 1 ≠ T := by omega
  go_enter Tryd.func41, Tryd.ntmps41
  go_wp2_with (first | (go_at_call 17; ((with_reducible refine (Next_zero T p _ _ (H.out.later ?_) (by omega) (by omega)).mono ?_); (· repeat first | with_reducible exact Below.refl _ _ | with_reducible refine Below.setCell ?_ (by first | omega | (simp; done) | (simp; omega)) _ | with_reducible refine Below.alloc ?_ (by first | omega | (simp; done) | (simp; omega)) _ | with_reducible refine Below.drew ?_ | with_reducible refine Ext.on _ ?_ (by first | omega | (simp; done) | (simp; omega))); rintro e1 w1 hq; obtain ⟨rfl, z, rfl⟩ := hq; have zs := z.size; simp at zs; obtain ⟨b4, _, c4⟩ := one_z ((z.tp.block w.heap.size (by simp; omega) hn4).trans ((Below.heap_alloc _ _ _ (by simp; omega)).trans ((Below.heap_alloc _ _ _ (by simp; omega)).trans ((Below.heap_alloc _ _ _ (by simp)).trans (heap_alloc_new w _)))))) ) | (go_at_call 83; ((with_reducible refine (pick_zero T (p + 1) s f _ z.at_ ?_ HF.out (by omega) hlen).mono ?_); (· exact (HS.out.later (by repeat first | with_reducible exact Below.refl _ _ | with_reducible refine Below.setCell ?_ (by first | omega | (simp; done) | (simp; omega)) _ | with_reducible refine Below.alloc ?_ (by first | omega | (simp; done) | (simp; omega)) _ | with_reducible refine Below.drew ?_ | with_reducible refine Ext.on _ ?_ (by first | omega | (simp; done) | (simp; omega)))).tp z.tp HN.out); rintro e1 w1 hq; obtain ⟨rfl, z2, rfl⟩ := hq; have z2s := z2.size; obtain ⟨b8, f0, f1, f2, f3, f4, f5, k0, k1, k2, k3, k4, k5⟩ := six_z ((z2.tp.block (w.heap.size + 1 + 1 + 1) (by omega) hn8).trans ((z.tp.block (w.heap.size + 1 + 1 + 1) (by simp) hn8).trans (heap_alloc_at _ _ (by simp)))))))
  refine ret_ex rfl ?_
  simp [results, Tryd.results41, go_sem, k0, k1, k2, k3, k4, k5]
  refine TqZ.of ?_ (z2.at_.upto ?_)
  · repeat first | with_reducible exact Tp.refl _ _ | with_reducible refine Tp.setCell ?_ (by first | (left; omega) | (left; simp; done) | (left; simp; omega)) _ | with_reducible refine Tp.alloc ?_ _ | with_reducible refine Tp.drew ?_ | with_reducible refine LatZ.on _ ?_ | with_reducible refine Tp.ext ?_ _
  · repeat first | with_reducible exact Below.refl _ _ | with_reducible refine Below.setCell ?_ (by first | omega | (simp; done) | (simp; omega)) _ | with_reducible refine Below.alloc ?_ (by first | omega | (simp; done) | (simp; omega)) _ | with_reducible refine Below.drew ?_ | with_reducible refine Ext.on _ ?_ (by first | omega | (simp; done) | (simp; omega))
end Go.Proofs.YtbnhmjecjeifdaaDoor
