/-
  The reference's fractions: the fraction of two numbers.
-/
import Derived.Test.YtogjollefllajaaDoorFBig7
set_option linter.unusedVariables false
namespace Go.Proofs.YtogjollefllajaaDoor
open Go Go.RowKit Go.Deep
theorem frV_parts (N : Int) (D : Nat) : frV N D = .tuple #[.agg #[.int .i64 (frN N D), .int .i64 (frD N D)], .int .i64 (frE N D)] := rfl
theorem turned_sg (num den : Int) : sg (decide (num < 0) != decide (den < 0)) num.natAbs = turned num den := by
  unfold turned
  by_cases h1 : num < 0 <;> by_cases h2 : den < 0
  · rw [decide_eq_true h1, decide_eq_true h2, if_pos h2]; simp [sg]; omega
  · rw [decide_eq_true h1, decide_eq_false h2, if_neg h2]; simp [sg]; omega
  · rw [decide_eq_false h1, decide_eq_true h2, if_pos h2]; simp [sg]; omega
  · rw [decide_eq_false h1, decide_eq_false h2, if_neg h2]; simp [sg]; omega
theorem in64_pow {n : Int} (h : In64 n) : n.natAbs < 1000000000 ^ 100 := by
  refine pow_big (k := 3) ?_ (by omega)
  rw [show (1000000000 : Nat) ^ 3 = 1000000000000000000000000000 from rfl]
  unfold In64 at h
  omega
set_option maxHeartbeats 4000000 in
set_option maxRecDepth 20000 in
theorem rOf_zero (num : Int) (w : World) : Calls Tryd.prog 5 #[.int .i64 num, .int .i64 0] w fun e w' => e = .returned (.tuple #[.agg #[.int .i64 0, .int .i64 0], .int .i64 1]) ∧ Cls w w' := by
  go_enter Tryd.func5, Tryd.ntmps5
  go_wp2_with fail
  refine ret_ex rfl ?_
  simp [results, Tryd.results5, go_sem]
  refine Cls.of ?_
  repeat first | with_reducible exact Below.refl _ _ | with_reducible refine Below.setCell ?_ (by first | omega | (simp; done) | (simp; omega)) _ | with_reducible refine Below.alloc ?_ (by first | omega | (simp; done) | (simp; omega)) _ | with_reducible refine Below.drew ?_ | with_reducible refine Ext.on _ ?_ (by first | omega | (simp; done) | (simp; omega))
set_option maxHeartbeats 8000000 in
set_option maxRecDepth 20000 in
theorem rOf_calls (num den : Int) (w : World) (hn : In64 num) (hd : In64 den) (h0 : den ≠ 0) :
    Calls Tryd.prog 5 #[.int .i64 num, .int .i64 den] w fun e w' => e = .returned (frV (turned num den) den.natAbs) ∧ Cls w w' := by
  have C1 := Lib.hid (fun W => of_calls num W hn.1 hn.2)
  have C2 := Lib.hid (fun W => of_calls den W hd.1 hd.2)
  have L1 : Hid (∀ (s : Sl) (W : World), NumAt W s num.natAbs → s.len ≤ 500) := Lib.hid fun s W h => lt_len h (in64_pow hn) (by omega)
  have L2 : Hid (∀ (s : Sl) (W : World), NumAt W s den.natAbs → s.len ≤ 500) := Lib.hid fun s W h => lt_len h (in64_pow hd) (by omega)
  have E : Hid (sg (!(decide (num < 0) == decide (den < 0))) num.natAbs = turned num den) := Lib.hid (turned_sg num den)
  have HD : Hid (0 < den.natAbs) := Lib.hid (by omega)
  have d0 : (den == 0) = false := by simpa using h0
  rw [frV_parts]
  have EV := Lib.hid (frV_parts (turned num den) den.natAbs)
  generalize frN (turned num den) den.natAbs = rn at *
  generalize frD (turned num den) den.natAbs = rd at *
  generalize frE (turned num den) den.natAbs = re at *
  clear hn hd h0
  go_enter Tryd.func5, Tryd.ntmps5
  go_wp2_with (first
    | (go_at_call 16; (with_reducible refine Calls.mono (C1.out _) ?_); rintro e _ ⟨oa, rfl, hoa, ⟨y1, rfl⟩⟩; have y1s := y1.size; (try simp at y1s); have y1a : w.heap.size < y1.val.heap.size := (by omega); have HA := Lib.hid hoa; clear hoa)
    | (go_at_call 16; (with_reducible refine Calls.mono (C2.out _) ?_); rintro e _ ⟨ob, rfl, hob, ⟨y2, rfl⟩⟩; have y2s := y2.size; have y2a : w.heap.size < y2.val.heap.size := (by omega); have HB := Lib.hid hob; clear hob)
    | (go_at_call 15; have G := Lib.hid (fun W hb => lowest_calls (!(decide (num < 0) == decide (den < 0))) oa.a oa.len oa.cap ob.a ob.len ob.cap _ _ W ((HA.out.later y2.below).later hb) (HB.out.later hb) (L1.out _ _ HA.out) (L2.out _ _ HB.out) HD.out); rw [E.out] at G; (with_reducible refine Calls.mono (G.out _ ?_) ?_); (focus (repeat first | with_reducible exact Below.refl _ _ | with_reducible refine Below.setCell ?_ (by first | omega | (simp; done) | (simp; omega)) _ | with_reducible refine Below.alloc ?_ (by first | omega | (simp; done) | (simp; omega)) _ | with_reducible refine Below.drew ?_ | with_reducible refine Ext.on _ ?_ (by first | omega | (simp; done) | (simp; omega)))); rintro e _ ⟨sn, st, rfl, hsn, hst, ⟨y3, rfl⟩⟩; have y3s := y3.size; have y3a : w.heap.size < y3.val.heap.size := (by omega); have HN := Lib.hid hsn; have HS := Lib.hid hst; clear hsn hst G)
    | (go_at_call 14; have G := Lib.hid (fun W hb => Fit_calls (turned num den) den.natAbs sn.a sn.len sn.cap st.a st.len st.cap W (HN.out.later hb) (HS.out.later hb)); rw [EV.out] at G; (with_reducible refine Calls.mono (G.out _ ?_) ?_); (focus (repeat first | with_reducible exact Below.refl _ _ | with_reducible refine Below.setCell ?_ (by first | omega | (simp; done) | (simp; omega)) _ | with_reducible refine Below.alloc ?_ (by first | omega | (simp; done) | (simp; omega)) _ | with_reducible refine Below.drew ?_ | with_reducible refine Ext.on _ ?_ (by first | omega | (simp; done) | (simp; omega)))); rintro e _ ⟨rfl, ⟨y4, rfl⟩⟩; have y4s := y4.size; have y4a : w.heap.size < y4.val.heap.size := (by omega); have T0 : y1.val.heap[w.heap.size]? = some (Obj.cells #[.int .i64 0, .int .i64 0] 23) := (y1.below.block w.heap.size (by simp)).trans (heap_alloc_new w _); have T1 := (y2.below.block w.heap.size (by omega)).trans T0; have T2 := (y3.below.block w.heap.size (by omega)).trans T1; have T3 := (y4.below.block w.heap.size (by omega)).trans T2; obtain ⟨k0, k1, k2, k3, k4⟩ := two_z T3; clear T0 T1 T2 T3 G))
  refine ret_ex rfl ?_
  simp [results, Tryd.results5, go_sem, k3, k4]
  refine Cls.of ?_
  repeat first | with_reducible exact Below.refl _ _ | with_reducible refine Below.setCell ?_ (by first | omega | (simp; done) | (simp; omega)) _ | with_reducible refine Below.alloc ?_ (by first | omega | (simp; done) | (simp; omega)) _ | with_reducible refine Below.drew ?_ | with_reducible refine Ext.on _ ?_ (by first | omega | (simp; done) | (simp; omega))
end Go.Proofs.YtogjollefllajaaDoor
