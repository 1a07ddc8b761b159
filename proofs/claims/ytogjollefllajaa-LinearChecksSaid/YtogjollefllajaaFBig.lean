/-
  The reference's fractions of any size: made of a fraction.
-/
import Derived.Test.YtogjollefllajaaFValid
import Derived.Test.YtogjollefllajaaFNew1
import Derived.Test.YtogjollefllajaaFOf
set_option linter.unusedVariables false
namespace Go.Proofs.Ytogjollefllajaa
open Go Go.RowKit Go.Deep
theorem three_b {W : World} {b : Nat} {a0 a1 a2 : Value} {t : TypeId} (h : W.heap[b]? = some (.cells #[a0, a1, a2] t)) :
    b < W.heap.size ∧ W.frozen? ⟨b, 0, none⟩ = false ∧ W.frozen? ⟨b, 1, none⟩ = false ∧ W.frozen? ⟨b, 2, none⟩ = false ∧ W.cell? ⟨b, 0, none⟩ = some a0 ∧ W.cell? ⟨b, 1, none⟩ = some a1 ∧ W.cell? ⟨b, 2, none⟩ = some a2 := by
  refine ⟨(Array.getElem?_eq_some_iff.1 h).1, by simp [World.frozen?, h], by simp [World.frozen?, h], by simp [World.frozen?, h], ?_, ?_, ?_⟩
  all_goals
    rw [cell_of_row _ _ _ _ _ (0, 0) h]
    rfl
/-- A number does not lie in a block that holds a sign and two slices. -/
theorem NumAt.store3 {W : World} {s : Sl} {m T : Nat} {x : Bool} {a a' : Option Addr} {n c n' c' : Nat} {t : TypeId} (h : NumAt W s m) (hT : W.heap[T]? = some (.cells #[.bool x, .slice a n c, .slice a' n' c'] t)) (v0 v1 v2 : Value) : NumAt (((W.setCell ⟨T, 0, none⟩ v0).setCell ⟨T, 1, none⟩ v1).setCell ⟨T, 2, none⟩ v2) s m := by
  obtain ⟨h1, h2, h3, h4⟩ := h
  refine ⟨h1, h2, h3, ?_⟩
  rcases h4 with h4 | ⟨b, off, ha, hb, hc⟩
  · exact .inl h4
  · by_cases h0 : s.len = 0
    · exact .inl h0
    · refine .inr ⟨b, off, ha, by simpa using hb, fun i hi => ?_⟩
      have hne : b ≠ T := by
        rintro rfl
        have h5 := hc 0 (by omega)
        rw [cell_of_row _ _ _ _ _ _ hT, Nat.add_zero] at h5
        rcases off with _ | _ | _ | off <;> simp at h5
      rw [← hc i hi]
      refine World.cell?_of_block ?_
      rw [Below.heap_setCell _ _ _ _ hne, Below.heap_setCell _ _ _ _ hne, Below.heap_setCell _ _ _ _ hne]
theorem below3 {B : Nat} {w0 W : World} {T : Nat} (h : Below B w0 W) (hT : B ≤ T) (v0 v1 v2 : Value) : Below B w0 (((W.setCell ⟨T, 0, none⟩ v0).setCell ⟨T, 1, none⟩ v1).setCell ⟨T, 2, none⟩ v2) := ((h.setCell hT v0).setCell hT v1).setCell hT v2
set_option maxHeartbeats 8000000 in
set_option maxRecDepth 20000 in
theorem Make_calls (n d : Int) (w : World) (h1 : In64 n) (h2 : In64 d) :
    Calls Try.prog 31 #[.agg #[.int .i64 n, .int .i64 d]] w fun e w' => ∃ s t : Sl, e = .returned (.agg #[.bool (decide (n < 0)), .slice s.a s.len s.cap, .slice t.a t.len t.cap]) ∧ NumAt w' s n.natAbs ∧ NumAt w' t d.natAbs ∧ Cls w w' := by
  have C1 := Lib.hid (fun W => of_calls n W h1.1 h1.2)
  have C2 := Lib.hid (fun W => of_calls d W h2.1 h2.2)
  clear h1 h2
  go_enter Try.func31, Try.ntmps31
  go_wp2_with fail
  go_region_held3 (fun w' => w'.cell? ⟨w.heap.size, 0, none⟩ = some (.int .i64 n) ∧ w'.cell? ⟨w.heap.size, 1, none⟩ = some (.int .i64 d))
    (first | go_keep | (refine ⟨?_, ?_⟩ <;> (rw [Ext.cell _ _ (by first | (simp; done) | (simp; omega) | omega)]; simp [*]; done)))
    (first
      | (go_at_call 55; (with_reducible refine (C1.out _).mono ?_); rintro e _ ⟨sn, rfl, hsn, ⟨yn, rfl⟩⟩; have YN := yn.size; (try simp at YN))
      | (go_at_call 55; (with_reducible refine (C2.out _).mono ?_); rintro e _ ⟨sd, rfl, hsd, ⟨yd, rfl⟩⟩; have YD := yd.size; (try simp at YD); have HT := Lib.hid ((yd.below.block (w.heap.size + 1) (by omega)).trans ((yn.below.block (w.heap.size + 1) (by simp)).trans (new_at1 w _ _ _ 0))); obtain ⟨k0, k1, k2, k3, k4, k5, k6⟩ := three_b HT.out))
  have HB : Below w.heap.size w yd.val := by repeat first | with_reducible exact Below.refl _ _ | with_reducible refine Below.setCell ?_ (by first | omega | (simp; done) | (simp; omega)) _ | with_reducible refine Below.alloc ?_ (by first | omega | (simp; done) | (simp; omega)) _ | with_reducible refine Below.drew ?_ | with_reducible refine Ext.on _ ?_ (by first | omega | (simp; done) | (simp; omega))
  go_wp2
  refine ret_ex rfl ?_
  simp [results, Try.results31, go_sem, k4, k5, k6]
  refine ⟨sn, sd, by simp, NumAt.store3 (hsn.later yd.below) HT.out _ _ _, NumAt.store3 hsd HT.out _ _ _, Cls.of (below3 HB (by omega) _ _ _)⟩
end Go.Proofs.Ytogjollefllajaa
