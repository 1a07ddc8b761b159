/-
  Which systems are valid: the program's rectangular and Valid; the reference's Valid.
-/
import Derived.Test.YtogjollefllajaaLVal
set_option linter.unusedVariables false
namespace Go.Proofs.Ytogjollefllajaa
open Go Go.RowKit Go.Deep
set_option maxHeartbeats 2000000 in
set_option maxRecDepth 20000 in
theorem rect1_calls (s u : Sl) (B : Nat) (w : World) (h : w.cell? ⟨B, 0, none⟩ = some (.slice u.a u.len u.cap)) :
    Calls Try.prog 45 #[.slice s.a s.len s.cap, .pointer (some ⟨B, 0, none⟩)] w fun e w' => e = .returned (.bool (((s.len : Nat) : Int) != ((u.len : Nat) : Int))) ∧ Cls w w' := by
  go_enter Try.func45, Try.ntmps45
  go_wp2_with fail
  go_ret
  exact ⟨rfl, Cls.of (Below.refl _ _)⟩
set_option maxHeartbeats 4000000 in
set_option maxRecDepth 20000 in
theorem rectangular_calls (y : Sy) (w : World) (h : SysA w y) :
    Calls Try.prog 21 #[y.v] w fun e w' => e = .returned (.bool (rectB y)) ∧ Cls w w' := by
  have C1 : Hid (Calls Try.prog 46 #[.slice y.R.a y.R.len y.R.cap, .func (.func 45) #[] #[.pointer (some ⟨w.heap.size, 0, none⟩)]] (w.alloc (.cells #[.slice y.U.a y.U.len y.U.cap, .slice y.R.a y.R.len y.R.cap, .slice y.B.a y.B.len y.B.cap] 25)) fun e w' => e = .returned (.bool (anyB (lenB y) y.R.len)) ∧ Cls (w.alloc (.cells #[.slice y.U.a y.U.len y.U.cap, .slice y.R.a y.R.len y.R.cap, .slice y.B.a y.B.len y.B.cap] 25)) w') := Lib.hid (by
    refine contains_row y.R.a y.R.len y.R.cap y.row y.co (lenB y) w.heap.size _ (h.R.later (by repeat first | with_reducible exact Below.refl _ _ | with_reducible refine Below.setCell ?_ (by first | omega | (simp; done) | (simp; omega)) _ | with_reducible refine Below.alloc ?_ (by first | omega | (simp; done) | (simp; omega)) _ | with_reducible refine Below.drew ?_ | with_reducible refine Ext.on _ ?_ (by first | omega | (simp; done) | (simp; omega)))) fun V hV j hj => rect1_calls (y.row j) y.U _ V ?_
    refine (hV.cell (p := ⟨w.heap.size, 0, none⟩) (by simp)).trans ?_
    rw [cell_of_row _ _ _ _ _ (0, 0) (heap_alloc_new w _)]; rfl)
  unfold rectB Sy.v
  clear h
  generalize anyB (lenB y) y.R.len = r at *
  obtain ⟨⟨ua, un, uc⟩, ⟨ra, rn, rc⟩, ⟨ba, bn, bc⟩, up, row, co, rt⟩ := y
  simp only at *
  cases hb : ((bn : Int) == (rn : Int))
  all_goals
    go_enter Try.func21, Try.ntmps21
    go_wp2_with (go_at_call 46; (with_reducible refine C1.out.mono ?_); rintro e _ ⟨rfl, ⟨x, rfl⟩⟩)
    go_ret
    refine ⟨ret_bool (by simp), Cls.of ?_⟩
    repeat first | with_reducible exact Below.refl _ _ | with_reducible refine Below.setCell ?_ (by first | omega | (simp; done) | (simp; omega)) _ | with_reducible refine Below.alloc ?_ (by first | omega | (simp; done) | (simp; omega)) _ | with_reducible refine Below.drew ?_ | with_reducible refine Ext.on _ ?_ (by first | omega | (simp; done) | (simp; omega))
set_option maxHeartbeats 4000000 in
set_option maxRecDepth 20000 in
theorem lValid_calls (y : Sy) (w : World) (h : SysA w y) :
    Calls Try.prog 7 #[y.v] w fun e w' => e = .returned (.int .i64 (vaS y)) ∧ Cls w w' := by
  have C1 := Lib.hid (fun (W : World) (hb : Below w.heap.size w W) => limited_calls y W (h.later hb))
  have C2 := Lib.hid (fun (W : World) (hb : Below w.heap.size w W) => rectangular_calls y W (h.later hb))
  unfold vaS
  clear h
  generalize limB y = l at *
  generalize rectB y = r at *
  unfold Sy.v at *
  generalize y.U.a = ua at *
  generalize y.U.len = un at *
  generalize y.U.cap = uc at *
  generalize y.R.a = ra at *
  generalize y.R.len = rn at *
  generalize y.R.cap = rc at *
  generalize y.B.a = ba at *
  generalize y.B.len = bn at *
  generalize y.B.cap = bc at *
  cases l <;> cases r
  all_goals
    go_enter Try.func7, Try.ntmps7
    go_wp2_with (first | (go_at_call 20; (with_reducible refine Calls.mono (C1.out _ ?_) ?_); (focus (repeat first | with_reducible exact Below.refl _ _ | with_reducible refine Below.setCell ?_ (by first | omega | (simp; done) | (simp; omega)) _ | with_reducible refine Below.alloc ?_ (by first | omega | (simp; done) | (simp; omega)) _ | with_reducible refine Below.drew ?_ | with_reducible refine Ext.on _ ?_ (by first | omega | (simp; done) | (simp; omega)))); rintro e _ ⟨rfl, ⟨x, rfl⟩⟩; have xs := x.size; (try simp at xs); have xa : w.heap.size < x.val.heap.size := (by omega)) | (go_at_call 21; (with_reducible refine Calls.mono (C2.out _ ?_) ?_); (focus (repeat first | with_reducible exact Below.refl _ _ | with_reducible refine Below.setCell ?_ (by first | omega | (simp; done) | (simp; omega)) _ | with_reducible refine Below.alloc ?_ (by first | omega | (simp; done) | (simp; omega)) _ | with_reducible refine Below.drew ?_ | with_reducible refine Ext.on _ ?_ (by first | omega | (simp; done) | (simp; omega)))); rintro e _ ⟨rfl, ⟨z, rfl⟩⟩))
    go_ret
    refine ⟨rfl, Cls.of ?_⟩
    repeat first | with_reducible exact Below.refl _ _ | with_reducible refine Below.setCell ?_ (by first | omega | (simp; done) | (simp; omega)) _ | with_reducible refine Below.alloc ?_ (by first | omega | (simp; done) | (simp; omega)) _ | with_reducible refine Below.drew ?_ | with_reducible refine Ext.on _ ?_ (by first | omega | (simp; done) | (simp; omega))
set_option maxHeartbeats 2000000 in
set_option maxRecDepth 20000 in
theorem rwithin_calls (n m : Int) (w : World) (h0 : 0 ≤ m) (h1 : m ≤ 1000000000) :
    Calls Try.prog 22 #[.int .i64 n, .int .i64 m] w fun e w' => e = .returned (.bool (!outB (-m) m n)) ∧ w = w' := by
  by_cases d1 : n < -m
  · have e : outB (-m) m n = true := by simp [outB, d1]
    have d2 : decide (-m ≤ n) = false := decide_eq_false (by omega)
    rw [e]
    clear e d1
    go_enter Try.func22, Try.ntmps22
    go_wp2_with fail
    go_ret
    exact ⟨rfl, rfl⟩
  · have d2 : decide (-m ≤ n) = true := decide_eq_true (by omega)
    have e : (!outB (-m) m n) = decide (n ≤ m) := by
      have d3 : decide (n < -m) = false := decide_eq_false d1
      rw [Bool.eq_iff_iff]; simp [outB, d3]
    rw [e]
    clear e d1
    go_enter Try.func22, Try.ntmps22
    go_wp2_with fail
    go_ret
    exact ⟨rfl, rfl⟩
end Go.Proofs.Ytogjollefllajaa
