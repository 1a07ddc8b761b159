/-
  The law of the fraction of two numbers, walked.
-/
import Derived.Test.YtogjollefllajaaDoorGOf
import Derived.Test.YtogjollefllajaaDoorGText
import Derived.Test.YtogjollefllajaaDoorGFloor
import Derived.Laws.StructEq
import Derived.WalkKit
set_option linter.unusedVariables false
namespace Go.Proofs.YtogjollefllajaaDoor
open Go Go.RowKit Go.Deep
theorem eqIn_fr (n d n' d' : Int) (w : World) : (Op.equalIn 10000 23 (.agg #[.int .i64 n, .int .i64 d]) (.agg #[.int .i64 n', .int .i64 d'])).run Tryd.prog w = .ok (n == n' && d == d') w := by
  have hS : Tryd.prog.underlying 23 = some (.struct (Tryd.prog.fieldsOf 23)) := by kernel_rfl
  have hp : Tryd.prog.stoodInHeld 23 = false := by kernel_rfl
  have u2 := Tryd.underlying2
  have a2 := Tryd.isAgg2
  have z2 := Tryd.sizeOf2
  rw [show (10000 : Nat) = 9999 + 1 from rfl, run_equalIn_agg w 9999 _ _ _ hS hp]
  simp only [Program.fieldsOf, Tryd.underlying23]
  go_simp
  by_cases h1 : n = n' <;> by_cases h2 : d = d' <;> simp [h1, h2]
theorem fr_in (N : Int) (D : Nat) : In64 (frN N D) ∧ In64 (frD N D) := by
  unfold frN frD
  cases h : frOk N D with
  | false => simp [In64]
  | true =>
    simp only [frOk, Bool.and_eq_true, decide_eq_true_eq] at h
    simp only [if_true]
    unfold In64
    omega
theorem of_both (num den : Int) (hn : In64 num) (hd : In64 den) : ∃ rn rd re : Int, In64 rn ∧ In64 rd ∧ (∀ W, Calls Tryd.prog 4 #[.int .i64 num, .int .i64 den] W fun e w' => e = .returned (.tuple #[.agg #[.int .i64 rn, .int .i64 rd], .int .i64 re]) ∧ Cls W w') ∧
    (∀ W, Calls Tryd.prog 5 #[.int .i64 num, .int .i64 den] W fun e w' => e = .returned (.tuple #[.agg #[.int .i64 rn, .int .i64 rd], .int .i64 re]) ∧ Cls W w') := by
  by_cases h0 : den = 0
  · subst h0
    exact ⟨0, 0, 1, by simp [In64], by simp [In64], fun W => Of_zero num W, fun W => rOf_zero num W⟩
  · exact ⟨frN (turned num den) den.natAbs, frD (turned num den) den.natAbs, frE (turned num den) den.natAbs, (fr_in _ _).1, (fr_in _ _).2, fun W => Of_calls num den W hn hd h0, fun W => rOf_calls num den W hn hd h0⟩
theorem In64.ofw {n : Int} (h : (Lit.int .i64 n).wf = true) : In64 n := by
  simp [Lit.wf, IntKind.min, IntKind.max, IntKind.bits, IntKind.signed] at h
  unfold In64; omega
set_option maxHeartbeats 16000000 in
set_option maxRecDepth 20000 in
theorem fractionOf_walk (num den bn bd : Int) (w : World) (w1 : (Lit.int .i64 num).wf = true) (w2 : (Lit.int .i64 den).wf = true) (w3 : (Lit.int .i64 bn).wf = true) (w4 : (Lit.int .i64 bd).wf = true) (ht : Tab w) :
    Calls Tryd.prog 3 #[.int .i64 num, .int .i64 den, .agg #[.int .i64 bn, .int .i64 bd]] w fun e w' => e = .returned (.bool true) ∧ Below w.heap.size w w' := by
  have i1 := In64.ofw w1
  have i2 := In64.ofw w2
  have i3 := In64.ofw w3
  have i4 := In64.ofw w4
  obtain ⟨rn, rd, re, j1, j2, o1, o2⟩ := of_both num den i1 i2
  have O1 := Lib.hid o1
  have O2 := Lib.hid o2
  have K1 := Lib.hid (fun W => Compare_calls rn rd bn bd W j1.1 j1.2 j2.1 j2.2 i3.1 i3.2 i4.1 i4.2)
  have K2 := Lib.hid (fun W => rCompare_calls rn rd bn bd W j1 j2 i3 i4)
  have F1 := Lib.hid (fun W => Floor_calls rn rd W j1.1 j1.2 j2.1 j2.2)
  have F2 := Lib.hid (fun W => rFloor_calls rn rd W j1.1 j1.2 j2.1 j2.2)
  have F3 := Lib.hid (fun W => Floor_calls bn bd W i3.1 i3.2 i4.1 i4.2)
  have F4 := Lib.hid (fun W => rFloor_calls bn bd W i3.1 i3.2 i4.1 i4.2)
  have T1 := Lib.hid (fun (W : World) (hb : Below w.heap.size w W) => Text_calls rn rd W j1 j2 (ht.later hb))
  have T2 := Lib.hid (fun (W : World) (hb : Below w.heap.size w W) => rText_calls rn rd W j1 j2 (ht.later hb))
  have T3 := Lib.hid (fun (W : World) (hb : Below w.heap.size w W) => Text_calls bn bd W i3 i4 (ht.later hb))
  have T4 := Lib.hid (fun (W : World) (hb : Below w.heap.size w W) => rText_calls bn bd W i3 i4 (ht.later hb))
  have Q1 : ∀ W, _ := eqIn_fr rn rd rn rd
  simp only [beq_self_eq_true, Bool.and_self] at Q1
  clear w1 w2 w3 w4 i1 i2 i3 i4 j1 j2 o1 o2 ht
  generalize cpF rn rd bn bd = c1 at *
  generalize flF rn rd = f1 at *
  generalize flF bn bd = f2 at *
  generalize (⟨(txF rn rd).toArray⟩ : ByteArray) = s1 at *
  generalize (⟨(txF bn bd).toArray⟩ : ByteArray) = s2 at *
  go_enter Tryd.func3, Tryd.ntmps3
  go_wp2_with (first | (go_at_call 4; (with_reducible refine (O1.out _).mono ?_); rintro e _ ⟨rfl, ⟨y1, rfl⟩⟩; have y1s := y1.size; (try simp at y1s); have y1a : w.heap.size < y1.val.heap.size := (by omega)) | (go_at_call 5; (with_reducible refine (O2.out _).mono ?_); rintro e _ ⟨rfl, ⟨y2, rfl⟩⟩; have y2s := y2.size; (try simp at y2s); have y2a : w.heap.size < y2.val.heap.size := (by omega); have y2c : y1.val.heap.size < y2.val.heap.size := (by omega)))
  refine wp_region_ext (by kernel_rfl) (by kernel_rfl) ?_
  repeat (go_big_quiet_step (first | (go_at_call 6; with_reducible exact Cls.call (K1.out _)) | (go_at_call 7; with_reducible exact Cls.call (K2.out _)) | (go_at_call 8; with_reducible exact Cls.call (F1.out _)) | (go_at_call 9; with_reducible exact Cls.call (F2.out _)) | (go_at_call 8; with_reducible exact Cls.call (F3.out _)) | (go_at_call 9; with_reducible exact Cls.call (F4.out _)) | (go_at_call 10; ((with_reducible refine Cls.call (T1.out _ ?_)); repeat first | with_reducible exact Below.refl _ _ | with_reducible refine Below.setCell ?_ (by first | omega | (simp; done) | (simp; omega)) _ | with_reducible refine Below.alloc ?_ (by first | omega | (simp; done) | (simp; omega)) _ | with_reducible refine Below.drew ?_ | with_reducible refine Ext.on _ ?_ (by first | omega | (simp; done) | (simp; omega)))) | (go_at_call 11; ((with_reducible refine Cls.call (T2.out _ ?_)); repeat first | with_reducible exact Below.refl _ _ | with_reducible refine Below.setCell ?_ (by first | omega | (simp; done) | (simp; omega)) _ | with_reducible refine Below.alloc ?_ (by first | omega | (simp; done) | (simp; omega)) _ | with_reducible refine Below.drew ?_ | with_reducible refine Ext.on _ ?_ (by first | omega | (simp; done) | (simp; omega)))) | (go_at_call 10; ((with_reducible refine Cls.call (T3.out _ ?_)); repeat first | with_reducible exact Below.refl _ _ | with_reducible refine Below.setCell ?_ (by first | omega | (simp; done) | (simp; omega)) _ | with_reducible refine Below.alloc ?_ (by first | omega | (simp; done) | (simp; omega)) _ | with_reducible refine Below.drew ?_ | with_reducible refine Ext.on _ ?_ (by first | omega | (simp; done) | (simp; omega)))) | (go_at_call 11; ((with_reducible refine Cls.call (T4.out _ ?_)); repeat first | with_reducible exact Below.refl _ _ | with_reducible refine Below.setCell ?_ (by first | omega | (simp; done) | (simp; omega)) _ | with_reducible refine Below.alloc ?_ (by first | omega | (simp; done) | (simp; omega)) _ | with_reducible refine Below.drew ?_ | with_reducible refine Ext.on _ ?_ (by first | omega | (simp; done) | (simp; omega))))))
  refine wpQuiet_nil ?_
  rintro _ ⟨y3, rfl⟩
  go_wp2_with fail
  go_ret
  refine ⟨rfl, ?_⟩
  repeat first | with_reducible exact Below.refl _ _ | with_reducible refine Below.setCell ?_ (by first | omega | (simp; done) | (simp; omega)) _ | with_reducible refine Below.alloc ?_ (by first | omega | (simp; done) | (simp; omega)) _ | with_reducible refine Below.drew ?_ | with_reducible refine Ext.on _ ?_ (by first | omega | (simp; done) | (simp; omega))
end Go.Proofs.YtogjollefllajaaDoor
