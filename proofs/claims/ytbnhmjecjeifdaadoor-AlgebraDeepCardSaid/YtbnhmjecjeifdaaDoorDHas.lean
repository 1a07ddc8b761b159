/-
  hasOnly for a distinct and for a scan whose other fields are zero.
-/
import Derived.Test.YtbnhmjecjeifdaaDoorDZero
set_option linter.unusedVariables false
namespace Go.Proofs.YtbnhmjecjeifdaaDoor
open Go Go.RowKit Go.Deep
theorem isZero_z (W : World) : Calls Tryd.prog 149 #[.agg #[.int .i64 0, .int .i64 0, .int .i64 0, .string ⟨#[]⟩, .int .i64 0, .slice none 0 0]] W fun r w' => r = .returned (.bool true) ∧ Cls W w' := by
  have h := isZero_calls Ex.z none 0 0 W .none
  rw [sameE_self] at h
  exact h
set_option maxHeartbeats 8000000 in
set_option maxRecDepth 20000 in
theorem hasOnly_distinct (ks : Sl) (s : ByteArray) (k : Int) (w : World) :
    Calls Tryd.prog 104 #[.agg #[.int .i64 9, .string ⟨#[]⟩, .int .i64 0, .bool false, .int .i64 0, .int .i64 0, .int .i64 0, .string ⟨#[]⟩, .int .i64 0, .slice none 0 0, .slice none 0 0, .slice none 0 0, .slice none 0 0, .slice none 0 0, ks.v], .agg #[.string s, .int .i64 0, .int .i64 k]] w fun r w' => r = .returned (.bool true) ∧ Cls w w' := by
  have C1 : Hid (∀ W, Calls Tryd.prog 149 #[.agg #[.int .i64 0, .int .i64 0, .int .i64 0, .string ⟨#[]⟩, .int .i64 0, .slice none 0 0]] W fun r w' => r = .returned (.bool true) ∧ Cls W w') := Lib.hid isZero_z
  unfold Sl.v
  go_enter Tryd.func104, Tryd.ntmps104
  try simp only [List.append_eq, List.cons_append, List.nil_append]
  go_wp2_with (go_at_call 149; ((with_reducible refine (C1.out _).mono ?_); rintro r _ ⟨rfl, y, rfl⟩; have ys := y.size; simp at ys; obtain ⟨a0, _, _, _, _⟩ := y.lts (b := w.heap.size) (by simp; omega); obtain ⟨a1, _, _, _, _⟩ := y.lts (b := w.heap.size + 1) (by simp)))
  go_ret
  refine ⟨rfl, Cls.of ?_⟩
  repeat first | with_reducible exact Below.refl _ _ | with_reducible refine Below.setCell ?_ (by first | omega | (simp; done) | (simp; omega)) _ | with_reducible refine Below.alloc ?_ (by first | omega | (simp; done) | (simp; omega)) _ | with_reducible refine Below.drew ?_ | with_reducible refine Ext.on _ ?_ (by first | omega | (simp; done) | (simp; omega))
set_option maxHeartbeats 4000000 in
theorem uses_table (s : ByteArray) (kids : Int) (w : World) : Calls Tryd.prog 147 #[.agg #[.string s, .int .i64 1, .int .i64 kids], .int .i64 1] w fun r w' => r = .returned (.bool true) ∧ Cls w w' := by
  go_enter Tryd.func147, Tryd.ntmps147
  go_wp2_with fail
  go_ret
  refine ⟨ret_bool (by first | rfl | decide), Cls.of ?_⟩
  repeat first | with_reducible exact Below.refl _ _ | with_reducible refine Below.setCell ?_ (by first | omega | (simp; done) | (simp; omega)) _ | with_reducible refine Below.alloc ?_ (by first | omega | (simp; done) | (simp; omega)) _ | with_reducible refine Below.drew ?_ | with_reducible refine Ext.on _ ?_ (by first | omega | (simp; done) | (simp; omega))
set_option maxHeartbeats 8000000 in
set_option maxRecDepth 20000 in
theorem hasOnly_scan (ks : Sl) (s : ByteArray) (k : Int) (w : World) :
    Calls Tryd.prog 104 #[.agg #[.int .i64 1, .string ⟨#[116, 48]⟩, .int .i64 0, .bool false, .int .i64 0, .int .i64 0, .int .i64 0, .string ⟨#[]⟩, .int .i64 0, .slice none 0 0, .slice none 0 0, .slice none 0 0, .slice none 0 0, .slice none 0 0, ks.v], .agg #[.string s, .int .i64 1, .int .i64 k]] w fun r w' => r = .returned (.bool true) ∧ Cls w w' := by
  have C1 : Hid (∀ W, Calls Tryd.prog 149 #[.agg #[.int .i64 0, .int .i64 0, .int .i64 0, .string ⟨#[]⟩, .int .i64 0, .slice none 0 0]] W fun r w' => r = .returned (.bool true) ∧ Cls W w') := Lib.hid isZero_z
  have U1 : Hid (∀ W, Calls Tryd.prog 147 #[.agg #[.string s, .int .i64 1, .int .i64 k], .int .i64 1] W fun r w' => r = .returned (.bool true) ∧ Cls W w') := Lib.hid (uses_table s k)
  unfold Sl.v
  go_enter Tryd.func104, Tryd.ntmps104
  try simp only [List.append_eq, List.cons_append, List.nil_append]
  go_wp2_with (first | (go_at_call 147; ((with_reducible refine (U1.out _).mono ?_); rintro r _ ⟨rfl, z, rfl⟩; have zs := z.size; simp at zs; obtain ⟨c0, _, _, _, _⟩ := z.lts (b := w.heap.size) (by simp; omega); obtain ⟨c1, _, _, _, _⟩ := z.lts (b := w.heap.size + 1) (by simp))) | (go_at_call 149; ((with_reducible refine (C1.out _).mono ?_); rintro r _ ⟨rfl, y, rfl⟩; have ys := y.size; obtain ⟨a0, _, _, _, _⟩ := y.lts (b := w.heap.size) c0; obtain ⟨a1, _, _, _, _⟩ := y.lts (b := w.heap.size + 1) c1)))
  go_ret
  refine ⟨rfl, Cls.of ?_⟩
  repeat first | with_reducible exact Below.refl _ _ | with_reducible refine Below.setCell ?_ (by first | omega | (simp; done) | (simp; omega)) _ | with_reducible refine Below.alloc ?_ (by first | omega | (simp; done) | (simp; omega)) _ | with_reducible refine Below.drew ?_ | with_reducible refine Ext.on _ ?_ (by first | omega | (simp; done) | (simp; omega))
end Go.Proofs.YtbnhmjecjeifdaaDoor
