/-
  What the operations of expressions give on values: the program's unary, binary and what they call, for all values.
-/
import Derived.Test.YtkmpaonakhfcjaaDoorOrder
import Derived.Test.YtkmpaonakhfcjaaDoorArith3
import Derived.Lib.Hide
set_option linter.unusedVariables false
namespace Go.Proofs.YtkmpaonakhfcjaaDoor
open Go Go.RowKit
/-- Kind, number and text of a value. -/
structure Vl where
  k : Int
  n : Int
  s : ByteArray
def Vl.z : Vl := ⟨0, 0, ⟨#[]⟩⟩
instance : Inhabited Vl := ⟨Vl.z⟩
def tvV (t : Int) : Vl := ⟨tvK t, tvN t, ⟨#[]⟩⟩
def arV3 (op : Int) (a b : Vl) : Vl := ⟨arK op a.k a.n a.s b.k b.n b.s, arN op a.k a.n a.s b.k b.n b.s, arS op a.k a.n a.s b.k b.n b.s⟩
def eqV (a b : Vl) : Int := eqT a.k a.n a.s b.k b.n b.s
def ltV (a b : Vl) : Int := lessT a.k a.n a.s b.k b.n b.s
def trV (a : Vl) : Int := truT a.k a.n
/-- What an operation with one operand gives. -/
def unV (op : Int) (a : Vl) : Vl :=
  if op = 11 then arV3 7 ⟨1, 0, ⟨#[]⟩⟩ a else if op = 13 then (if a.k = 3 then ⟨1, a.s.size, ⟨#[]⟩⟩ else Vl.z) else if op = 21 then ⟨2, b2i (a.k == 0), ⟨#[]⟩⟩
  else if op = 24 then tvV (notT (trV a)) else ⟨2, b2i (trV a == 1), ⟨#[]⟩⟩
/-- What an operation with two operands gives. -/
def biV (op : Int) (a b : Vl) : Vl :=
  if op = 14 then tvV (eqV a b) else if op = 15 then tvV (notT (truT (tvK (eqV a b)) (tvN (eqV a b)))) else if op = 16 then tvV (ltV a b)
  else if op = 17 then tvV (notT (truT (tvK (ltV b a)) (tvN (ltV b a)))) else if op = 18 then tvV (ltV b a) else if op = 19 then tvV (notT (truT (tvK (ltV a b)) (tvN (ltV a b))))
  else if op = 20 then ⟨2, b2i (sameB a.k a.n a.s b.k b.n b.s), ⟨#[]⟩⟩ else if op = 22 then tvV (andT (trV a) (trV b)) else if op = 23 then tvV (orT (trV a) (trV b))
  else if op = 27 then (if a.k = 0 then b else a) else arV3 op a b

theorem truth_calls (c : Bool) (w : World) :
    Calls Tryd.prog 78 #[.bool c] w fun r w' => r = .returned (.agg #[.int .i64 2, .int .i64 (b2i c), .string ⟨#[]⟩]) ∧ Cls w w' := by
  have B1 : Hid (∀ W, Calls Tryd.prog 73 #[.int .i64 1] W fun r w' => r = .returned (.agg #[.int .i64 2, .int .i64 1, .string ⟨#[]⟩]) ∧ Cls W w') := Lib.hid (fun W => Bool_calls 1 W)
  have B0 : Hid (∀ W, Calls Tryd.prog 73 #[.int .i64 0] W fun r w' => r = .returned (.agg #[.int .i64 2, .int .i64 0, .string ⟨#[]⟩]) ∧ Cls W w') := Lib.hid (fun W => Bool_calls 0 W)
  cases c
  all_goals
    go_enter Tryd.func78, Tryd.ntmps78
    go_wp2_with (first | (go_at_call 73; ((with_reducible refine (B1.out _).mono ?_); rintro r _ ⟨rfl, y, rfl⟩)) | (go_at_call 73; ((with_reducible refine (B0.out _).mono ?_); rintro r _ ⟨rfl, y, rfl⟩)))
    refine ret_ex rfl ?_
    simp [results, Tryd.results78, go_sem]
    refine ⟨rfl, Cls.of ?_⟩
    repeat first | with_reducible exact Below.refl _ _ | with_reducible refine Below.setCell ?_ (by first | omega | (simp; done) | (simp; omega)) _ | with_reducible refine Below.alloc ?_ (by first | omega | (simp; done) | (simp; omega)) _ | with_reducible refine Below.drew ?_ | with_reducible refine Ext.on _ ?_ (by first | omega | (simp; done) | (simp; omega))
theorem isTrue_calls (a : Vl) (w : World) :
    Calls Tryd.prog 72 #[.agg #[.int .i64 a.k, .int .i64 a.n, .string a.s]] w fun r w' => r = .returned (.bool (trV a == 1)) ∧ Cls w w' := by
  go_enter Tryd.func72, Tryd.ntmps72
  go_wp2_with (go_at_call 109; ((with_reducible refine (Truth_calls _ _ _ _).mono ?_); rintro r _ ⟨rfl, y, rfl⟩))
  go_ret
  refine ⟨ret_bool rfl, Cls.of ?_⟩
  repeat first | with_reducible exact Below.refl _ _ | with_reducible refine Below.setCell ?_ (by first | omega | (simp; done) | (simp; omega)) _ | with_reducible refine Below.alloc ?_ (by first | omega | (simp; done) | (simp; omega)) _ | with_reducible refine Below.drew ?_ | with_reducible refine Ext.on _ ?_ (by first | omega | (simp; done) | (simp; omega))
theorem eIsNull_calls (a : Vl) (w : World) :
    Calls Tryd.prog 79 #[.agg #[.int .i64 a.k, .int .i64 a.n, .string a.s]] w fun r w' => r = .returned (.bool (a.k == 0)) ∧ Cls w w' := by
  go_enter Tryd.func79, Tryd.ntmps79
  go_wp2_with fail
  all_goals
    go_ret
    refine ⟨ret_bool rfl, Cls.of ?_⟩
    repeat first | with_reducible exact Below.refl _ _ | with_reducible refine Below.setCell ?_ (by first | omega | (simp; done) | (simp; omega)) _ | with_reducible refine Below.alloc ?_ (by first | omega | (simp; done) | (simp; omega)) _ | with_reducible refine Below.drew ?_ | with_reducible refine Ext.on _ ?_ (by first | omega | (simp; done) | (simp; omega))
theorem length_calls (a : Vl) (w : World) (hs : a.s.size ≤ maxLen) :
    Calls Tryd.prog 77 #[.agg #[.int .i64 a.k, .int .i64 a.n, .string a.s]] w fun r w' => r = .returned (.agg #[.int .i64 (unV 13 a).k, .int .i64 (unV 13 a).n, .string (unV 13 a).s]) ∧ Cls w w' := by
  unfold maxLen at hs
  by_cases h : a.k = 3
  · have HU : Hid (unV 13 a = ⟨1, a.s.size, ⟨#[]⟩⟩) := Lib.hid (by simp [unV, h])
    have b0 : (a.k != 3) = false := by simpa using h
    clear h
    rw [HU.out]
    go_enter Tryd.func77, Tryd.ntmps77
    go_wp2_with fail
    refine ret_ex rfl ?_
    simp [results, Tryd.results77, go_sem]
    refine Cls.of ?_
    repeat first | with_reducible exact Below.refl _ _ | with_reducible refine Below.setCell ?_ (by first | omega | (simp; done) | (simp; omega)) _ | with_reducible refine Below.alloc ?_ (by first | omega | (simp; done) | (simp; omega)) _ | with_reducible refine Below.drew ?_ | with_reducible refine Ext.on _ ?_ (by first | omega | (simp; done) | (simp; omega))
  · have HU : Hid (unV 13 a = Vl.z) := Lib.hid (by simp [unV, h])
    have b0 : (a.k != 3) = true := by simpa using h
    clear h
    rw [HU.out]
    go_enter Tryd.func77, Tryd.ntmps77
    go_wp2_with fail
    refine ret_ex rfl ?_
    simp [results, Tryd.results77, go_sem, Vl.z]
    refine Cls.of ?_
    repeat first | with_reducible exact Below.refl _ _ | with_reducible refine Below.setCell ?_ (by first | omega | (simp; done) | (simp; omega)) _ | with_reducible refine Below.alloc ?_ (by first | omega | (simp; done) | (simp; omega)) _ | with_reducible refine Below.drew ?_ | with_reducible refine Ext.on _ ?_ (by first | omega | (simp; done) | (simp; omega))
set_option maxHeartbeats 1000000 in
theorem unary_calls (op : Int) (a : Vl) (w : World) (hs : a.s.size ≤ maxLen) (hop : op = 11 ∨ op = 13 ∨ op = 21 ∨ op = 24 ∨ op = 25) :
    Calls Tryd.prog 37 #[.int .i64 op, .agg #[.int .i64 a.k, .int .i64 a.n, .string a.s]] w fun r w' => r = .returned (.agg #[.int .i64 (unV op a).k, .int .i64 (unV op a).n, .string (unV op a).s]) ∧ Cls w w' := by
  have h0 : (⟨#[]⟩ : ByteArray).size ≤ maxLen := by unfold maxLen; show (0 : Nat) ≤ _; omega
  rcases hop with rfl | rfl | rfl | rfl | rfl
  all_goals
    go_enter Tryd.func37, Tryd.ntmps37
    go_wp2_with (first | (go_at_call 76; first | ((with_reducible refine (Cls.call (Arith_calls _ _ _ _ _ _ _ _ (by assumption) (by assumption))).mono ?_); rintro r _ ⟨rfl, y1, rfl⟩) | ((with_reducible refine (Arith_calls _ _ _ _ _ _ _ _ (by assumption) (by assumption)).mono ?_); rintro r _ ⟨rfl, y1, rfl⟩)) | (go_at_call 77; first | ((with_reducible refine (Cls.call (length_calls a _ hs)).mono ?_); rintro r _ ⟨rfl, y2, rfl⟩) | ((with_reducible refine (length_calls a _ hs).mono ?_); rintro r _ ⟨rfl, y2, rfl⟩)) | (go_at_call 79; first | ((with_reducible refine (Cls.call (eIsNull_calls a _)).mono ?_); rintro r _ ⟨rfl, y3, rfl⟩) | ((with_reducible refine (eIsNull_calls a _).mono ?_); rintro r _ ⟨rfl, y3, rfl⟩)) | (go_at_call 72; first | ((with_reducible refine (Cls.call (isTrue_calls a _)).mono ?_); rintro r _ ⟨rfl, y4, rfl⟩) | ((with_reducible refine (isTrue_calls a _).mono ?_); rintro r _ ⟨rfl, y4, rfl⟩)) | (go_at_call 78; first | ((with_reducible refine (Cls.call (truth_calls _ _)).mono ?_); rintro r _ ⟨rfl, y5, rfl⟩) | ((with_reducible refine (truth_calls _ _).mono ?_); rintro r _ ⟨rfl, y5, rfl⟩)) | (go_at_call 80; first | ((with_reducible refine (Cls.call (Not_calls _ _ _ _)).mono ?_); rintro r _ ⟨rfl, y6, rfl⟩) | ((with_reducible refine (Not_calls _ _ _ _).mono ?_); rintro r _ ⟨rfl, y6, rfl⟩)))
    refine ret_ex rfl ?_
    simp [results, Tryd.results37, go_sem]
    first | (refine ⟨⟨rfl, rfl, rfl⟩, Cls.of ?_⟩) | (refine ⟨⟨rfl, rfl⟩, Cls.of ?_⟩) | (refine ⟨rfl, Cls.of ?_⟩) | (refine Cls.of ?_)
    repeat first | with_reducible exact Below.refl _ _ | with_reducible refine Below.setCell ?_ (by first | omega | (simp; done) | (simp; omega)) _ | with_reducible refine Below.alloc ?_ (by first | omega | (simp; done) | (simp; omega)) _ | with_reducible refine Below.drew ?_ | with_reducible refine Ext.on _ ?_ (by first | omega | (simp; done) | (simp; omega))
set_option maxHeartbeats 4000000 in
theorem binary_calls (op : Int) (a b : Vl) (w : World) (hs : a.s.size ≤ maxLen) (hs' : b.s.size ≤ maxLen) (hop : op = 6 ∨ op = 7 ∨ op = 8 ∨ op = 9 ∨ op = 10 ∨ op = 12 ∨ op = 14 ∨ op = 15 ∨ op = 16 ∨ op = 17 ∨ op = 18 ∨ op = 19 ∨ op = 20 ∨ op = 22 ∨ op = 23) :
    Calls Tryd.prog 38 #[.int .i64 op, .agg #[.int .i64 a.k, .int .i64 a.n, .string a.s], .agg #[.int .i64 b.k, .int .i64 b.n, .string b.s]] w fun r w' => r = .returned (.agg #[.int .i64 (biV op a b).k, .int .i64 (biV op a b).n, .string (biV op a b).s]) ∧ Cls w w' := by
  rcases hop with rfl | rfl | rfl | rfl | rfl | rfl | rfl | rfl | rfl | rfl | rfl | rfl | rfl | rfl | rfl
  all_goals
    go_enter Tryd.func38, Tryd.ntmps38
    go_wp2_with (first | (go_at_call 76; first | ((with_reducible refine (Cls.call (Arith_calls _ _ _ _ _ _ _ _ hs hs')).mono ?_); rintro r _ ⟨rfl, y1, rfl⟩) | ((with_reducible refine (Arith_calls _ _ _ _ _ _ _ _ hs hs').mono ?_); rintro r _ ⟨rfl, y1, rfl⟩)) | (go_at_call 75; first | ((with_reducible refine (Cls.call (Equal_calls _ _ _ _ _ _ _)).mono ?_); rintro r _ ⟨rfl, y2, rfl⟩) | ((with_reducible refine (Equal_calls _ _ _ _ _ _ _).mono ?_); rintro r _ ⟨rfl, y2, rfl⟩)) | (go_at_call 81; first | ((with_reducible refine (Cls.call (Less_calls _ _ _ _ _ _ _)).mono ?_); rintro r _ ⟨rfl, y3, rfl⟩) | ((with_reducible refine (Less_calls _ _ _ _ _ _ _).mono ?_); rintro r _ ⟨rfl, y3, rfl⟩)) | (go_at_call 82; first | ((with_reducible refine (Cls.call (Same_calls _ _ _ _ _ _ _)).mono ?_); rintro r _ ⟨rfl, y4, rfl⟩) | ((with_reducible refine (Same_calls _ _ _ _ _ _ _).mono ?_); rintro r _ ⟨rfl, y4, rfl⟩)) | (go_at_call 78; first | ((with_reducible refine (Cls.call (truth_calls _ _)).mono ?_); rintro r _ ⟨rfl, y5, rfl⟩) | ((with_reducible refine (truth_calls _ _).mono ?_); rintro r _ ⟨rfl, y5, rfl⟩)) | (go_at_call 80; first | ((with_reducible refine (Cls.call (Not_calls _ _ _ _)).mono ?_); rintro r _ ⟨rfl, y6, rfl⟩) | ((with_reducible refine (Not_calls _ _ _ _).mono ?_); rintro r _ ⟨rfl, y6, rfl⟩)) | (go_at_call 83; first | ((with_reducible refine (Cls.call (And_calls _ _ _ _ _ _ _)).mono ?_); rintro r _ ⟨rfl, y7, rfl⟩) | ((with_reducible refine (And_calls _ _ _ _ _ _ _).mono ?_); rintro r _ ⟨rfl, y7, rfl⟩)) | (go_at_call 74; first | ((with_reducible refine (Cls.call (Or_calls _ _ _ _ _ _ _)).mono ?_); rintro r _ ⟨rfl, y8, rfl⟩) | ((with_reducible refine (Or_calls _ _ _ _ _ _ _).mono ?_); rintro r _ ⟨rfl, y8, rfl⟩)))
    refine ret_ex rfl ?_
    simp [results, Tryd.results38, go_sem]
    first | (refine ⟨⟨rfl, rfl, rfl⟩, Cls.of ?_⟩) | (refine ⟨⟨rfl, rfl⟩, Cls.of ?_⟩) | (refine ⟨rfl, Cls.of ?_⟩) | (refine Cls.of ?_)
    repeat first | with_reducible exact Below.refl _ _ | with_reducible refine Below.setCell ?_ (by first | omega | (simp; done) | (simp; omega)) _ | with_reducible refine Below.alloc ?_ (by first | omega | (simp; done) | (simp; omega)) _ | with_reducible refine Below.drew ?_ | with_reducible refine Ext.on _ ?_ (by first | omega | (simp; done) | (simp; omega))
theorem coalesce_calls (a b : Vl) (w : World) :
    Calls Tryd.prog 38 #[.int .i64 27, .agg #[.int .i64 a.k, .int .i64 a.n, .string a.s], .agg #[.int .i64 b.k, .int .i64 b.n, .string b.s]] w fun r w' => r = .returned (.agg #[.int .i64 (biV 27 a b).k, .int .i64 (biV 27 a b).n, .string (biV 27 a b).s]) ∧ Cls w w' := by
  by_cases h : a.k = 0
  · have HU : Hid (biV 27 a b = b) := Lib.hid (by simp [biV, h])
    have N1 : Hid (∀ W, Calls Tryd.prog 79 #[.agg #[.int .i64 a.k, .int .i64 a.n, .string a.s]] W fun r w' => r = .returned (.bool true) ∧ Cls W w') := Lib.hid (fun W => by have := eIsNull_calls a W; rw [h] at this ⊢; exact this)
    clear h
    rw [HU.out]
    go_enter Tryd.func38, Tryd.ntmps38
    go_wp2_with (go_at_call 79; ((with_reducible refine (N1.out _).mono ?_); rintro r _ ⟨rfl, y, rfl⟩))
    refine ret_ex rfl ?_
    simp [results, Tryd.results38, go_sem]
    refine Cls.of ?_
    repeat first | with_reducible exact Below.refl _ _ | with_reducible refine Below.setCell ?_ (by first | omega | (simp; done) | (simp; omega)) _ | with_reducible refine Below.alloc ?_ (by first | omega | (simp; done) | (simp; omega)) _ | with_reducible refine Below.drew ?_ | with_reducible refine Ext.on _ ?_ (by first | omega | (simp; done) | (simp; omega))
  · have HU : Hid (biV 27 a b = a) := Lib.hid (by simp [biV, h])
    have N1 : Hid (∀ W, Calls Tryd.prog 79 #[.agg #[.int .i64 a.k, .int .i64 a.n, .string a.s]] W fun r w' => r = .returned (.bool false) ∧ Cls W w') := Lib.hid (fun W => by have := eIsNull_calls a W; rw [show (a.k == 0) = false by simpa using h] at this; exact this)
    clear h
    rw [HU.out]
    go_enter Tryd.func38, Tryd.ntmps38
    go_wp2_with (go_at_call 79; ((with_reducible refine (N1.out _).mono ?_); rintro r _ ⟨rfl, y, rfl⟩))
    refine ret_ex rfl ?_
    simp [results, Tryd.results38, go_sem]
    refine Cls.of ?_
    repeat first | with_reducible exact Below.refl _ _ | with_reducible refine Below.setCell ?_ (by first | omega | (simp; done) | (simp; omega)) _ | with_reducible refine Below.alloc ?_ (by first | omega | (simp; done) | (simp; omega)) _ | with_reducible refine Below.drew ?_ | with_reducible refine Ext.on _ ?_ (by first | omega | (simp; done) | (simp; omega))
end Go.Proofs.YtkmpaonakhfcjaaDoor
