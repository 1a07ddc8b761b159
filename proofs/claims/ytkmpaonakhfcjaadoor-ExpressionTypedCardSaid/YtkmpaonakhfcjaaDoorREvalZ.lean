/-
  What the reference's Eval gives for an operation that there is not, or with a wrong number of Kids.
-/
import Derived.Test.YtkmpaonakhfcjaaDoorREvalBase
set_option linter.unusedVariables false
namespace Go.Proofs.YtkmpaonakhfcjaaDoor
open Go Go.RowKit
set_option maxRecDepth 20000 in
set_option maxHeartbeats 4000000 in
theorem reval_unknown (e : Ex) (a : Option Addr) (len cap : Nat) (ra : Option Addr) (rlen rcap : Nat) (w : World) (ho : e.op < 1 ∨ 29 ≤ e.op) :
    Calls Tryd.prog 14 #[.agg #[.int .i64 e.op, .int .i64 e.ty, .int .i64 e.num, .string e.text, .int .i64 e.col, .slice a len cap], .slice ra rlen rcap] w fun r w' => r = .returned (.agg #[.int .i64 Vl.z.k, .int .i64 Vl.z.n, .string Vl.z.s]) ∧ Cls w w' := by
  by_cases h1 : e.op < 1
  · have d1 : decide (e.op < 1) = true := by simpa using h1
    go_enter Tryd.func14, Tryd.ntmps14
    go_wp2_with fail
    refine ret_ex rfl ?_
    simp [results, Tryd.results14, go_sem, Vl.z]
    refine Cls.of ?_
    repeat first | with_reducible exact Below.refl _ _ | with_reducible refine Below.setCell ?_ (by first | omega | (simp; done) | (simp; omega)) _ | with_reducible refine Below.alloc ?_ (by first | omega | (simp; done) | (simp; omega)) _ | with_reducible refine Below.drew ?_ | with_reducible refine Ext.on _ ?_ (by first | omega | (simp; done) | (simp; omega))
  · have h2 : 29 ≤ e.op := by omega
    have d1 : decide (e.op < 1) = false := by simpa using h1
    have d2 : decide (28 < e.op) = true := by simp; omega
    go_enter Tryd.func14, Tryd.ntmps14
    go_wp2_with fail
    refine ret_ex rfl ?_
    simp [results, Tryd.results14, go_sem, Vl.z]
    refine Cls.of ?_
    repeat first | with_reducible exact Below.refl _ _ | with_reducible refine Below.setCell ?_ (by first | omega | (simp; done) | (simp; omega)) _ | with_reducible refine Below.alloc ?_ (by first | omega | (simp; done) | (simp; omega)) _ | with_reducible refine Below.drew ?_ | with_reducible refine Ext.on _ ?_ (by first | omega | (simp; done) | (simp; omega))
set_option maxRecDepth 20000 in
set_option maxHeartbeats 4000000 in
theorem reval_arity (e : Ex) (a : Option Addr) (len cap : Nat) (ra : Option Addr) (rlen rcap : Nat) (w : World) (ho1 : 1 ≤ e.op) (ho2 : e.op < 29) (htk : takesO e.op len = false) (hle : len ≤ cap) (hmax : cap ≤ maxLen) :
    Calls Tryd.prog 14 #[.agg #[.int .i64 e.op, .int .i64 e.ty, .int .i64 e.num, .string e.text, .int .i64 e.col, .slice a len cap], .slice ra rlen rcap] w fun r w' => r = .returned (.agg #[.int .i64 Vl.z.k, .int .i64 Vl.z.n, .string Vl.z.s]) ∧ Cls w w' := by
  have CK : Hid (∀ W, Calls Tryd.prog 39 #[.int .i64 e.op, .int .i64 (len : Nat)] W fun r w' => r = .returned (.bool false) ∧ Cls W w') := Lib.hid (fun W => by
    have := rkids_calls e.op len W ho1 ho2
    rw [htk] at this
    exact this)
  have d1 : decide (e.op < 1) = false := by simp; omega
  have d2 : decide (28 < e.op) = false := by simp; omega
  unfold maxLen at hmax
  clear htk
  go_enter Tryd.func14, Tryd.ntmps14
  go_wp2_with (go_at_call 39; ((with_reducible refine (CK.out _).mono ?_); rintro r _ ⟨rfl, y, rfl⟩))
  have z0 : (y.val.cell? ⟨w.heap.size + 1, 0, none⟩).isSome = true := by rw [y.cell 0 (by simp)]; simp [go_sem]
  have z1 : (y.val.cell? ⟨w.heap.size + 1, 1, none⟩).isSome = true := by rw [y.cell 1 (by simp)]; simp [go_sem]
  have z2 : (y.val.cell? ⟨w.heap.size + 1, 2, none⟩).isSome = true := by rw [y.cell 2 (by simp)]; simp [go_sem]
  refine ret_ex rfl ?_
  simp [results, Tryd.results14, go_sem, Vl.z, z0, z1, z2]
  refine Cls.of ?_
  repeat first | with_reducible exact Below.refl _ _ | with_reducible refine Below.setCell ?_ (by first | omega | (simp; done) | (simp; omega)) _ | with_reducible refine Below.alloc ?_ (by first | omega | (simp; done) | (simp; omega)) _ | with_reducible refine Below.drew ?_ | with_reducible refine Ext.on _ ?_ (by first | omega | (simp; done) | (simp; omega))
end Go.Proofs.YtkmpaonakhfcjaaDoor
