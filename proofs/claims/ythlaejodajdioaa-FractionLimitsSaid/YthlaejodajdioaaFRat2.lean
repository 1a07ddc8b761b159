/-
  The program's fractions: a numerator and a denominator that fit; sums.
-/
import Derived.Test.YthlaejodajdioaaFRat1
set_option linter.unusedVariables false
namespace Go.Proofs.Ythlaejodajdioaa
open Go Go.RowKit Go.Deep
theorem new_at2 (w : World) (o o' : Obj) (cs : Array Value) (t : TypeId) : (((w.alloc o).alloc o').alloc (.cells cs t)).heap[w.heap.size + 1 + 1]? = some (.cells cs t) := by
  have := heap_alloc_new ((w.alloc o).alloc o') (.cells cs t)
  simpa using this
theorem fitB_iff (v : Int) : fitB v = true ↔ v.natAbs ≤ 100000000000000000 := by
  unfold fitB; simp; omega
theorem fitB_no {v : Int} (h : fitB v = false) : ¬ v.natAbs ≤ 100000000000000000 := fun h' => by rw [(fitB_iff v).2 h'] at h; cases h
set_option maxHeartbeats 8000000 in
set_option maxRecDepth 20000 in
theorem fitting_calls (N : Int) (D : Nat) (w : World) (hv : In128 (frI N D)) (hd : In128 (frd N D : Int)) :
    Calls Try.prog 46 #[.agg #[.int .u64 (wHi (frI N D)), .int .u64 (wLo (frI N D))], .agg #[.int .u64 (wHi (frd N D : Int)), .int .u64 (wLo (frd N D : Int))]] w fun e w' => e = .returned (frV N D) ∧ Cls w w' := by
  have C1 := Lib.hid (fun W => wfits_calls (frI N D) W hv)
  have C2 := Lib.hid (fun W => wfits_calls (frd N D : Int) W hd)
  cases h1 : fitB (frI N D)
  · have HV : frV N D = .tuple #[.agg #[.int .i64 0, .int .i64 0], .int .i64 8] := frV_no (fun h => fitB_no h1 h.1)
    rw [HV]
    rw [h1] at C1
    clear hv hd HV h1
    generalize wHi (frI N D) = v1 at *
    generalize wLo (frI N D) = v2 at *
    generalize wHi (frd N D : Int) = d1 at *
    generalize wLo (frd N D : Int) = d2 at *
    go_enter Try.func46, Try.ntmps46
    go_wp2_with (go_at_call 60; (with_reducible refine (C1.out _).mono ?_); rintro e _ ⟨rfl, ⟨y1, rfl⟩⟩; have ys := y1.size; (try simp at ys); obtain ⟨c0, c1, c2, c3, c4⟩ := two_z ((y1.below.block (w.heap.size + 1 + 1) (by simp)).trans (new_at2 w _ _ _ _)))
    refine ret_ex rfl ?_
    simp [results, Try.results46, go_sem, c3, c4]
    refine Cls.of ?_
    repeat first | with_reducible exact Below.refl _ _ | with_reducible refine Below.setCell ?_ (by first | omega | (simp; done) | (simp; omega)) _ | with_reducible refine Below.alloc ?_ (by first | omega | (simp; done) | (simp; omega)) _ | with_reducible refine Below.drew ?_ | with_reducible refine Ext.on _ ?_ (by first | omega | (simp; done) | (simp; omega))
  · cases h2 : fitB (frd N D : Int)
    · have HV : frV N D = .tuple #[.agg #[.int .i64 0, .int .i64 0], .int .i64 8] := frV_no (fun h => fitB_no h2 (by omega))
      rw [HV]
      rw [h1] at C1
      rw [h2] at C2
      clear hv hd HV h1 h2
      generalize wHi (frI N D) = v1 at *
      generalize wLo (frI N D) = v2 at *
      generalize wHi (frd N D : Int) = d1 at *
      generalize wLo (frd N D : Int) = d2 at *
      go_enter Try.func46, Try.ntmps46
      go_wp2_with (first | (go_at_call 60; (with_reducible refine (C1.out _).mono ?_); rintro e _ ⟨rfl, ⟨y1, rfl⟩⟩; have ys := y1.size; (try simp at ys); have k1 : w.heap.size + 1 < y1.val.heap.size := (by omega)) | (go_at_call 60; (with_reducible refine (C2.out _).mono ?_); rintro e _ ⟨rfl, ⟨y2, rfl⟩⟩; have y2s := y2.size; obtain ⟨c0, c1, c2, c3, c4⟩ := two_z ((y2.below.block (w.heap.size + 1 + 1) (by omega)).trans ((y1.below.block (w.heap.size + 1 + 1) (by simp)).trans (new_at2 w _ _ _ _)))))
      refine ret_ex rfl ?_
      simp [results, Try.results46, go_sem, c3, c4]
      refine Cls.of ?_
      repeat first | with_reducible exact Below.refl _ _ | with_reducible refine Below.setCell ?_ (by first | omega | (simp; done) | (simp; omega)) _ | with_reducible refine Below.alloc ?_ (by first | omega | (simp; done) | (simp; omega)) _ | with_reducible refine Below.drew ?_ | with_reducible refine Ext.on _ ?_ (by first | omega | (simp; done) | (simp; omega))
    · have HV : frV N D = .tuple #[.agg #[.int .i64 (frI N D), .int .i64 ((frd N D : Nat) : Int)], .int .i64 0] := frV_ok ((fitB_iff _).1 h1) (by have := (fitB_iff _).1 h2; omega)
      rw [HV]
      have C3 := Lib.hid (fun W => wnumber_calls (frI N D) W h1)
      have C4 := Lib.hid (fun W => wnumber_calls (frd N D : Int) W h2)
      rw [h1] at C1
      rw [h2] at C2
      clear hv hd HV h1 h2
      generalize wHi (frI N D) = v1 at *
      generalize wLo (frI N D) = v2 at *
      generalize wHi (frd N D : Int) = d1 at *
      generalize wLo (frd N D : Int) = d2 at *
      generalize frI N D = rn at *
      generalize ((frd N D : Nat) : Int) = rd at *
      go_enter Try.func46, Try.ntmps46
      go_wp2_with (first | (go_at_call 60; (with_reducible refine (C1.out _).mono ?_); rintro e _ ⟨rfl, ⟨y1, rfl⟩⟩; have ys := y1.size; (try simp at ys); have k0 : w.heap.size < y1.val.heap.size := (by omega); have k1 : w.heap.size + 1 < y1.val.heap.size := (by omega)) | (go_at_call 60; (with_reducible refine (C2.out _).mono ?_); rintro e _ ⟨rfl, ⟨y2, rfl⟩⟩; have y2s := y2.size; have k2 : w.heap.size < y2.val.heap.size := (by omega); have k3 : w.heap.size + 1 < y2.val.heap.size := (by omega)))
      refine wp_region_ext_tail 5 (by kernel_rfl) (by kernel_rfl) ?_
      simp only [List.take_succ_cons, List.take_zero, List.drop_succ_cons, List.drop_zero]
      repeat (go_big_quiet_step (first | (go_at_call 61; with_reducible exact Cls.call (C3.out _)) | (go_at_call 61; with_reducible exact Cls.call (C4.out _))))
      refine wpQuiet_nil ?_
      rintro _ ⟨y3, rfl⟩
      have y3s := y3.size
      obtain ⟨c0, c1, c2, c3, c4⟩ := two_z ((y3.below.block (w.heap.size + 1 + 1) (by omega)).trans ((y2.below.block (w.heap.size + 1 + 1) (by omega)).trans ((y1.below.block (w.heap.size + 1 + 1) (by simp)).trans (new_at2 w _ _ _ _))))
      go_wp2_with fail
      refine ret_ex rfl ?_
      simp [results, Try.results46, go_sem, c3, c4]
      refine Cls.of ?_
      repeat first | with_reducible exact Below.refl _ _ | with_reducible refine Below.setCell ?_ (by first | omega | (simp; done) | (simp; omega)) _ | with_reducible refine Below.alloc ?_ (by first | omega | (simp; done) | (simp; omega)) _ | with_reducible refine Below.drew ?_ | with_reducible refine Ext.on _ ?_ (by first | omega | (simp; done) | (simp; omega))
end Go.Proofs.Ythlaejodajdioaa
