/-
  What Arith gives, of the program and of the reference, for all operations and va.
-/
import Derived.Test.YtdmhmlnfoocnjaaGreatDoorK05
import Derived.Test.YtdmhmlnfoocnjaaGreatDoorK03
import Derived.Lib.Hide
import Derived.Test.YtdmhmlnfoocnjaaGreatDoorK01
import Derived.Laws.Entries
set_option linter.unusedVariables false
namespace Go.Proofs.YtdmhmlnfoocnjaaGreatDoor
open Go Go.RowKit

theorem vB_three (s : ByteArray) : vB 3 0 s = textB s := by simp [vB]
theorem arOk_bad {op k n : Int} {s : ByteArray} {k' n' : Int} {s' : ByteArray} (h : vB k n s = false ∨ vB k' n' s' = false) : arOk op k n s k' n' s' = false := by
  rcases h with h | h <;> simp [arOk, h]
theorem arOk_kinds {op k n : Int} {s : ByteArray} {k' n' : Int} {s' : ByteArray} (h : if op = 12 then ¬ (k = 3 ∧ k' = 3) else ¬ (k = 1 ∧ k' = 1)) : arOk op k n s k' n' s' = false := by
  by_cases ho : op = 12
  · simp only [ho, if_true] at h
    have : (k == 3 && k' == 3) = false := by
      cases h1 : k == 3 <;> cases h2 : k' == 3 <;> simp_all
    simp [arOk, ho, this]
  · rw [if_neg ho] at h
    have : (k == 1 && k' == 1) = false := by
      cases h1 : k == 1 <;> cases h2 : k' == 1 <;> simp_all
    simp [arOk, ho, this]
theorem arOk_text {n : Int} {s : ByteArray} {n' : Int} {s' : ByteArray} (hv : vB 3 n s = true) (hv' : vB 3 n' s' = true) : arOk 12 3 n s 3 n' s' = vB 3 0 (s ++ s') := by simp [arOk, hv, hv', vB_three]
theorem arOk_num {op n : Int} {s : ByteArray} {n' : Int} {s' : ByteArray} (hv : vB 1 n s = true) (hv' : vB 1 n' s' = true) (ho : ¬ op = 12) : arOk op 1 n s 1 n' s' = numOk op n n' := by simp [arOk, hv, hv', ho]
theorem arV_num' {op n : Int} {s : ByteArray} {n' : Int} {s' : ByteArray} (hv : vB 1 n s = true) (hv' : vB 1 n' s' = true) (ho : ¬ op = 12) (h : numOk op n n' = true) :
    arV op 1 n s 1 n' s' = .agg #[.int .i64 1, .int .i64 (numV op n n'), .string ⟨#[]⟩] := arV_num (by rw [arOk_num hv hv' ho]; exact h) ho
theorem arV_none {op n : Int} {s : ByteArray} {n' : Int} {s' : ByteArray} (hv : vB 1 n s = true) (hv' : vB 1 n' s' = true) (ho : ¬ op = 12) (h : numOk op n n' = false) :
    arV op 1 n s 1 n' s' = nullV := arV_no (by rw [arOk_num hv hv' ho]; exact h)

theorem Arith_calls (op k n : Int) (s : ByteArray) (k' n' : Int) (s' : ByteArray) (w : World) (hs : s.size ≤ maxLen) (hs' : s'.size ≤ maxLen) :
    Calls Tryz.prog 141 #[.int .i64 op, .agg #[.int .i64 k, .int .i64 n, .string s], .agg #[.int .i64 k', .int .i64 n', .string s']] w fun e w' =>
      e = .returned (.agg #[.int .i64 (arK op k n s k' n' s'), .int .i64 (arN op k n s k' n' s'), .string (arS op k n s k' n' s')]) ∧ Cls w w' := by
  show Calls _ _ _ w fun e w' => e = .returned (arV op k n s k' n' s') ∧ Cls w w'
  by_cases hv : vB k n s = true ∧ vB k' n' s' = true
  · obtain ⟨hv, hv'⟩ := hv
    by_cases hk : if op = 12 then ¬ (k = 3 ∧ k' = 3) else ¬ (k = 1 ∧ k' = 1)
    · rw [arV_no (arOk_kinds hk)]; exact Arith_kinds op k n s k' n' s' w hs hs' hv hv' hk
    · by_cases ho : op = 12
      · subst ho
        simp only [if_true, Classical.not_not] at hk
        obtain ⟨rfl, rfl⟩ := hk
        cases hc : vB 3 0 (s ++ s')
        · rw [arV_no (by rw [arOk_text hv hv']; exact hc)]; exact Arith_text_false n s n' s' w hs hs' hv hv' hc
        · rw [arV_text (by rw [arOk_text hv hv']; exact hc)]; exact Arith_text_true n s n' s' w hs hs' hv hv' hc
      · rw [if_neg ho, Classical.not_not] at hk
        obtain ⟨rfl, rfl⟩ := hk
        have he := numOk_eq op n n' (vB_num hv)
        cases hc : compOk op n n'
        · rw [arV_none hv hv' ho (by rw [he, hc]; rfl)]; exact Arith_num_none op n s n' s' w hs hs' hv hv' ho hc
        · have hcv : compV op n n' = numV op n n' := by simp [compV, hc]
          cases hf : fitB (compV op n n')
          · rw [arV_none hv hv' ho (by rw [he, ← hcv, hf, hc]; rfl)]; exact Arith_num_far op n s n' s' w hs hs' hv hv' ho hc hf
          · rw [arV_num' hv hv' ho (by rw [he, ← hcv, hf, hc]; rfl), ← hcv]; exact Arith_num_fits op n s n' s' w hs hs' hv hv' ho hc hf
  · have h : vB k n s = false ∨ vB k' n' s' = false := by
      cases h1 : vB k n s <;> cases h2 : vB k' n' s' <;> simp_all
    rw [arV_no (arOk_bad h)]; exact Arith_invalid op k n s k' n' s' w hs hs' h

theorem ar_valid (op k n : Int) (s : ByteArray) (k' n' : Int) (s' : ByteArray) : vB (arK op k n s k' n' s') (arN op k n s k' n' s') (arS op k n s k' n' s') = true := by
  cases h : arOk op k n s k' n' s'
  · simp [arK, arN, arS, h, vB]
  · by_cases ho : op = 12
    · subst ho
      have h2 := h
      simp [arOk] at h2
      obtain ⟨_, ⟨rfl, rfl⟩, ht⟩ := h2
      simp only [arK, arN, arS, h, if_true]
      rw [vB_three]
      exact ht
    · have h2 := h
      simp only [arOk, ho, if_false, Bool.and_eq_true, beq_iff_eq] at h2
      obtain ⟨⟨h3, _⟩, ⟨rfl, rfl⟩, h4⟩ := h2
      rw [numOk_eq op n n' (vB_num h3), Bool.and_eq_true] at h4
      have h5 := h4.2
      simp only [arK, arN, arS, h, ho, if_true, if_false]
      rw [vB_one]
      exact h5
end Go.Proofs.YtdmhmlnfoocnjaaGreatDoor
set_option linter.unusedVariables false
namespace Go.Proofs.YtdmhmlnfoocnjaaGreatDoor
open Go Go.RowKit
structure Vl where
  k : Int
  n : Int
  s : ByteArray
def Vl.z : Vl := ⟨0, 0, ⟨#[]⟩⟩
instance : Inhabited Vl := ⟨Vl.z⟩
def tvV (t : Int) : Vl := ⟨tvK t, tvN t, ⟨#[]⟩⟩
def arV3 (op : Int) (a b : Vl) : Vl := ⟨arK op a.k a.n a.s b.k b.n b.s, arN op a.k a.n a.s b.k b.n b.s, arS op a.k a.n a.s b.k b.n b.s⟩
def eqV (a b : Vl) : Int := eqT a.k a.n a.s b.k b.n b.s
def ltV (a b : Vl) : Int := lessT a.k a.n a.s b.k b.n b.s
def trV (a : Vl) : Int := truT a.k a.n
def unV (op : Int) (a : Vl) : Vl :=
  if op = 11 then arV3 7 ⟨1, 0, ⟨#[]⟩⟩ a else if op = 13 then (if a.k = 3 then ⟨1, a.s.size, ⟨#[]⟩⟩ else Vl.z) else if op = 21 then ⟨2, b2i (a.k == 0), ⟨#[]⟩⟩
  else if op = 24 then tvV (notT (trV a)) else ⟨2, b2i (trV a == 1), ⟨#[]⟩⟩
def biV (op : Int) (a b : Vl) : Vl :=
  if op = 14 then tvV (eqV a b) else if op = 15 then tvV (notT (truT (tvK (eqV a b)) (tvN (eqV a b)))) else if op = 16 then tvV (ltV a b)
  else if op = 17 then tvV (notT (truT (tvK (ltV b a)) (tvN (ltV b a)))) else if op = 18 then tvV (ltV b a) else if op = 19 then tvV (notT (truT (tvK (ltV a b)) (tvN (ltV a b))))
  else if op = 20 then ⟨2, b2i (sameB a.k a.n a.s b.k b.n b.s), ⟨#[]⟩⟩ else if op = 22 then tvV (andT (trV a) (trV b)) else if op = 23 then tvV (orT (trV a) (trV b))
  else if op = 27 then (if a.k = 0 then b else a) else arV3 op a b

theorem truth_calls (c : Bool) (w : World) :
    Calls Tryz.prog 143 #[.bool c] w fun r w' => r = .returned (.agg #[.int .i64 2, .int .i64 (b2i c), .string ⟨#[]⟩]) ∧ Cls w w' := by
  have B1 : Hid (∀ W, Calls Tryz.prog 138 #[.int .i64 1] W fun r w' => r = .returned (.agg #[.int .i64 2, .int .i64 1, .string ⟨#[]⟩]) ∧ Cls W w') := Lib.hid (fun W => Bool_calls 1 W)
  have B0 : Hid (∀ W, Calls Tryz.prog 138 #[.int .i64 0] W fun r w' => r = .returned (.agg #[.int .i64 2, .int .i64 0, .string ⟨#[]⟩]) ∧ Cls W w') := Lib.hid (fun W => Bool_calls 0 W)
  cases c
  all_goals
    go_enter Tryz.func143, Tryz.ntmps143
    go_wp2_with (first | (go_at_call 138; ((with_reducible refine (B1.out _).mono ?_); rintro r _ ⟨rfl, y, rfl⟩)) | (go_at_call 138; ((with_reducible refine (B0.out _).mono ?_); rintro r _ ⟨rfl, y, rfl⟩)))
    refine ret_ex rfl ?_
    simp [results, Tryz.results143, go_sem]
    refine ⟨rfl, Cls.of ?_⟩
    repeat first|with_reducible exact Below.refl _ _|with_reducible refine Below.setCell ?_ (by first|omega|(simp;done)|(simp;omega)) _|with_reducible refine Below.alloc ?_ (by first|omega|(simp;done)|(simp;omega)) _|with_reducible refine Below.drew ?_|with_reducible refine Ext.on _ ?_ (by first|omega|(simp;done)|(simp;omega))
theorem isTrue_calls (a : Vl) (w : World) :
    Calls Tryz.prog 137 #[.agg #[.int .i64 a.k, .int .i64 a.n, .string a.s]] w fun r w' => r = .returned (.bool (trV a == 1)) ∧ Cls w w' := by
  go_enter Tryz.func137, Tryz.ntmps137
  go_wp2_with (go_at_call 87; ((with_reducible refine (Truth_calls _ _ _ _).mono ?_); rintro r _ ⟨rfl, y, rfl⟩))
  go_ret
  refine ⟨ret_bool rfl, Cls.of ?_⟩
  repeat first|with_reducible exact Below.refl _ _|with_reducible refine Below.setCell ?_ (by first|omega|(simp;done)|(simp;omega)) _|with_reducible refine Below.alloc ?_ (by first|omega|(simp;done)|(simp;omega)) _|with_reducible refine Below.drew ?_|with_reducible refine Ext.on _ ?_ (by first|omega|(simp;done)|(simp;omega))
theorem eIsNull_calls (a : Vl) (w : World) :
    Calls Tryz.prog 144 #[.agg #[.int .i64 a.k, .int .i64 a.n, .string a.s]] w fun r w' => r = .returned (.bool (a.k == 0)) ∧ Cls w w' := by
  go_enter Tryz.func144, Tryz.ntmps144
  go_wp2_with fail
  all_goals
    go_ret
    refine ⟨ret_bool rfl, Cls.of ?_⟩
    repeat first|with_reducible exact Below.refl _ _|with_reducible refine Below.setCell ?_ (by first|omega|(simp;done)|(simp;omega)) _|with_reducible refine Below.alloc ?_ (by first|omega|(simp;done)|(simp;omega)) _|with_reducible refine Below.drew ?_|with_reducible refine Ext.on _ ?_ (by first|omega|(simp;done)|(simp;omega))
theorem length_calls (a : Vl) (w : World) (hs : a.s.size ≤ maxLen) :
    Calls Tryz.prog 142 #[.agg #[.int .i64 a.k, .int .i64 a.n, .string a.s]] w fun r w' => r = .returned (.agg #[.int .i64 (unV 13 a).k, .int .i64 (unV 13 a).n, .string (unV 13 a).s]) ∧ Cls w w' := by
  unfold maxLen at hs
  by_cases h : a.k = 3
  · have HU : Hid (unV 13 a = ⟨1, a.s.size, ⟨#[]⟩⟩) := Lib.hid (by simp [unV, h])
    have b0 : (a.k != 3) = false := by simpa using h
    clear h
    rw [HU.out]
    go_enter Tryz.func142, Tryz.ntmps142
    go_wp2_with fail
    refine ret_ex rfl ?_
    simp [results, Tryz.results142, go_sem]
    refine Cls.of ?_
    repeat first|with_reducible exact Below.refl _ _|with_reducible refine Below.setCell ?_ (by first|omega|(simp;done)|(simp;omega)) _|with_reducible refine Below.alloc ?_ (by first|omega|(simp;done)|(simp;omega)) _|with_reducible refine Below.drew ?_|with_reducible refine Ext.on _ ?_ (by first|omega|(simp;done)|(simp;omega))
  · have HU : Hid (unV 13 a = Vl.z) := Lib.hid (by simp [unV, h])
    have b0 : (a.k != 3) = true := by simpa using h
    clear h
    rw [HU.out]
    go_enter Tryz.func142, Tryz.ntmps142
    go_wp2_with fail
    refine ret_ex rfl ?_
    simp [results, Tryz.results142, go_sem, Vl.z]
    refine Cls.of ?_
    repeat first|with_reducible exact Below.refl _ _|with_reducible refine Below.setCell ?_ (by first|omega|(simp;done)|(simp;omega)) _|with_reducible refine Below.alloc ?_ (by first|omega|(simp;done)|(simp;omega)) _|with_reducible refine Below.drew ?_|with_reducible refine Ext.on _ ?_ (by first|omega|(simp;done)|(simp;omega))
set_option maxHeartbeats 1000000 in
theorem unary_calls (op : Int) (a : Vl) (w : World) (hs : a.s.size ≤ maxLen) (hop : op = 11 ∨ op = 13 ∨ op = 21 ∨ op = 24 ∨ op = 25) :
    Calls Tryz.prog 123 #[.int .i64 op, .agg #[.int .i64 a.k, .int .i64 a.n, .string a.s]] w fun r w' => r = .returned (.agg #[.int .i64 (unV op a).k, .int .i64 (unV op a).n, .string (unV op a).s]) ∧ Cls w w' := by
  have h0 : (⟨#[]⟩ : ByteArray).size ≤ maxLen := by unfold maxLen; show (0 : Nat) ≤ _; omega
  rcases hop with rfl | rfl | rfl | rfl | rfl
  all_goals
    go_enter Tryz.func123, Tryz.ntmps123
    go_wp2_with (first | (go_at_call 141; first | ((with_reducible refine (Cls.call (Arith_calls _ _ _ _ _ _ _ _ (by assumption) (by assumption))).mono ?_); rintro r _ ⟨rfl, y1, rfl⟩) | ((with_reducible refine (Arith_calls _ _ _ _ _ _ _ _ (by assumption) (by assumption)).mono ?_); rintro r _ ⟨rfl, y1, rfl⟩)) | (go_at_call 142; first | ((with_reducible refine (Cls.call (length_calls a _ hs)).mono ?_); rintro r _ ⟨rfl, y2, rfl⟩) | ((with_reducible refine (length_calls a _ hs).mono ?_); rintro r _ ⟨rfl, y2, rfl⟩)) | (go_at_call 144; first | ((with_reducible refine (Cls.call (eIsNull_calls a _)).mono ?_); rintro r _ ⟨rfl, y3, rfl⟩) | ((with_reducible refine (eIsNull_calls a _).mono ?_); rintro r _ ⟨rfl, y3, rfl⟩)) | (go_at_call 137; first | ((with_reducible refine (Cls.call (isTrue_calls a _)).mono ?_); rintro r _ ⟨rfl, y4, rfl⟩) | ((with_reducible refine (isTrue_calls a _).mono ?_); rintro r _ ⟨rfl, y4, rfl⟩)) | (go_at_call 143; first | ((with_reducible refine (Cls.call (truth_calls _ _)).mono ?_); rintro r _ ⟨rfl, y5, rfl⟩) | ((with_reducible refine (truth_calls _ _).mono ?_); rintro r _ ⟨rfl, y5, rfl⟩)) | (go_at_call 145; first | ((with_reducible refine (Cls.call (Not_calls _ _ _ _)).mono ?_); rintro r _ ⟨rfl, y6, rfl⟩) | ((with_reducible refine (Not_calls _ _ _ _).mono ?_); rintro r _ ⟨rfl, y6, rfl⟩)))
    refine ret_ex rfl ?_
    simp [results, Tryz.results123, go_sem]
    first | (refine ⟨⟨rfl, rfl, rfl⟩, Cls.of ?_⟩) | (refine ⟨⟨rfl, rfl⟩, Cls.of ?_⟩) | (refine ⟨rfl, Cls.of ?_⟩) | (refine Cls.of ?_)
    repeat first|with_reducible exact Below.refl _ _|with_reducible refine Below.setCell ?_ (by first|omega|(simp;done)|(simp;omega)) _|with_reducible refine Below.alloc ?_ (by first|omega|(simp;done)|(simp;omega)) _|with_reducible refine Below.drew ?_|with_reducible refine Ext.on _ ?_ (by first|omega|(simp;done)|(simp;omega))
set_option maxHeartbeats 4000000 in
theorem binary_calls (op : Int) (a b : Vl) (w : World) (hs : a.s.size ≤ maxLen) (hs' : b.s.size ≤ maxLen) (hop : op = 6 ∨ op = 7 ∨ op = 8 ∨ op = 9 ∨ op = 10 ∨ op = 12 ∨ op = 14 ∨ op = 15 ∨ op = 16 ∨ op = 17 ∨ op = 18 ∨ op = 19 ∨ op = 20 ∨ op = 22 ∨ op = 23) :
    Calls Tryz.prog 124 #[.int .i64 op, .agg #[.int .i64 a.k, .int .i64 a.n, .string a.s], .agg #[.int .i64 b.k, .int .i64 b.n, .string b.s]] w fun r w' => r = .returned (.agg #[.int .i64 (biV op a b).k, .int .i64 (biV op a b).n, .string (biV op a b).s]) ∧ Cls w w' := by
  rcases hop with rfl | rfl | rfl | rfl | rfl | rfl | rfl | rfl | rfl | rfl | rfl | rfl | rfl | rfl | rfl
  all_goals
    go_enter Tryz.func124, Tryz.ntmps124
    go_wp2_with (first | (go_at_call 141; first | ((with_reducible refine (Cls.call (Arith_calls _ _ _ _ _ _ _ _ hs hs')).mono ?_); rintro r _ ⟨rfl, y1, rfl⟩) | ((with_reducible refine (Arith_calls _ _ _ _ _ _ _ _ hs hs').mono ?_); rintro r _ ⟨rfl, y1, rfl⟩)) | (go_at_call 140; first | ((with_reducible refine (Cls.call (Equal_calls _ _ _ _ _ _ _)).mono ?_); rintro r _ ⟨rfl, y2, rfl⟩) | ((with_reducible refine (Equal_calls _ _ _ _ _ _ _).mono ?_); rintro r _ ⟨rfl, y2, rfl⟩)) | (go_at_call 146; first | ((with_reducible refine (Cls.call (Less_calls _ _ _ _ _ _ _)).mono ?_); rintro r _ ⟨rfl, y3, rfl⟩) | ((with_reducible refine (Less_calls _ _ _ _ _ _ _).mono ?_); rintro r _ ⟨rfl, y3, rfl⟩)) | (go_at_call 147; first | ((with_reducible refine (Cls.call (Same_calls _ _ _ _ _ _ _)).mono ?_); rintro r _ ⟨rfl, y4, rfl⟩) | ((with_reducible refine (Same_calls _ _ _ _ _ _ _).mono ?_); rintro r _ ⟨rfl, y4, rfl⟩)) | (go_at_call 143; first | ((with_reducible refine (Cls.call (truth_calls _ _)).mono ?_); rintro r _ ⟨rfl, y5, rfl⟩) | ((with_reducible refine (truth_calls _ _).mono ?_); rintro r _ ⟨rfl, y5, rfl⟩)) | (go_at_call 145; first | ((with_reducible refine (Cls.call (Not_calls _ _ _ _)).mono ?_); rintro r _ ⟨rfl, y6, rfl⟩) | ((with_reducible refine (Not_calls _ _ _ _).mono ?_); rintro r _ ⟨rfl, y6, rfl⟩)) | (go_at_call 148; first | ((with_reducible refine (Cls.call (And_calls _ _ _ _ _ _ _)).mono ?_); rintro r _ ⟨rfl, y7, rfl⟩) | ((with_reducible refine (And_calls _ _ _ _ _ _ _).mono ?_); rintro r _ ⟨rfl, y7, rfl⟩)) | (go_at_call 139; first | ((with_reducible refine (Cls.call (Or_calls _ _ _ _ _ _ _)).mono ?_); rintro r _ ⟨rfl, y8, rfl⟩) | ((with_reducible refine (Or_calls _ _ _ _ _ _ _).mono ?_); rintro r _ ⟨rfl, y8, rfl⟩)))
    refine ret_ex rfl ?_
    simp [results, Tryz.results124, go_sem]
    first | (refine ⟨⟨rfl, rfl, rfl⟩, Cls.of ?_⟩) | (refine ⟨⟨rfl, rfl⟩, Cls.of ?_⟩) | (refine ⟨rfl, Cls.of ?_⟩) | (refine Cls.of ?_)
    repeat first|with_reducible exact Below.refl _ _|with_reducible refine Below.setCell ?_ (by first|omega|(simp;done)|(simp;omega)) _|with_reducible refine Below.alloc ?_ (by first|omega|(simp;done)|(simp;omega)) _|with_reducible refine Below.drew ?_|with_reducible refine Ext.on _ ?_ (by first|omega|(simp;done)|(simp;omega))
theorem coalesce_calls (a b : Vl) (w : World) :
    Calls Tryz.prog 124 #[.int .i64 27, .agg #[.int .i64 a.k, .int .i64 a.n, .string a.s], .agg #[.int .i64 b.k, .int .i64 b.n, .string b.s]] w fun r w' => r = .returned (.agg #[.int .i64 (biV 27 a b).k, .int .i64 (biV 27 a b).n, .string (biV 27 a b).s]) ∧ Cls w w' := by
  by_cases h : a.k = 0
  · have HU : Hid (biV 27 a b = b) := Lib.hid (by simp [biV, h])
    have N1 : Hid (∀ W, Calls Tryz.prog 144 #[.agg #[.int .i64 a.k, .int .i64 a.n, .string a.s]] W fun r w' => r = .returned (.bool true) ∧ Cls W w') := Lib.hid (fun W => by have := eIsNull_calls a W; rw [h] at this ⊢; exact this)
    clear h
    rw [HU.out]
    go_enter Tryz.func124, Tryz.ntmps124
    go_wp2_with (go_at_call 144; ((with_reducible refine (N1.out _).mono ?_); rintro r _ ⟨rfl, y, rfl⟩))
    refine ret_ex rfl ?_
    simp [results, Tryz.results124, go_sem]
    refine Cls.of ?_
    repeat first|with_reducible exact Below.refl _ _|with_reducible refine Below.setCell ?_ (by first|omega|(simp;done)|(simp;omega)) _|with_reducible refine Below.alloc ?_ (by first|omega|(simp;done)|(simp;omega)) _|with_reducible refine Below.drew ?_|with_reducible refine Ext.on _ ?_ (by first|omega|(simp;done)|(simp;omega))
  · have HU : Hid (biV 27 a b = a) := Lib.hid (by simp [biV, h])
    have N1 : Hid (∀ W, Calls Tryz.prog 144 #[.agg #[.int .i64 a.k, .int .i64 a.n, .string a.s]] W fun r w' => r = .returned (.bool false) ∧ Cls W w') := Lib.hid (fun W => by have := eIsNull_calls a W; rw [show (a.k == 0) = false by simpa using h] at this; exact this)
    clear h
    rw [HU.out]
    go_enter Tryz.func124, Tryz.ntmps124
    go_wp2_with (go_at_call 144; ((with_reducible refine (N1.out _).mono ?_); rintro r _ ⟨rfl, y, rfl⟩))
    refine ret_ex rfl ?_
    simp [results, Tryz.results124, go_sem]
    refine Cls.of ?_
    repeat first|with_reducible exact Below.refl _ _|with_reducible refine Below.setCell ?_ (by first|omega|(simp;done)|(simp;omega)) _|with_reducible refine Below.alloc ?_ (by first|omega|(simp;done)|(simp;omega)) _|with_reducible refine Below.drew ?_|with_reducible refine Ext.on _ ?_ (by first|omega|(simp;done)|(simp;omega))
end Go.Proofs.YtdmhmlnfoocnjaaGreatDoor
set_option linter.unusedVariables false
namespace Go.Proofs.YtdmhmlnfoocnjaaGreatDoor
open Go Go.RowKit
structure ORow where
  word : List UInt8
  has : Int
  first : Int
  others : Int
  gives : Int
def ORow.z : ORow := ⟨[], 0, 0, 0, 0⟩
def opsRows : List ORow := [⟨[], 0, 0, 0, 0⟩, ⟨[], 0, 0, 0, 0⟩, ⟨[], 1, 0, 0, 1⟩, ⟨[], 1, 0, 0, 2⟩, ⟨[], 2, 0, 0, 3⟩, ⟨[], 3, 0, 0, 0⟩, ⟨[97, 100, 100], 5, 1, 1, 1⟩, ⟨[115, 117, 98], 5, 1, 1, 1⟩, ⟨[109, 117, 108], 5, 1, 1, 1⟩, ⟨[100, 105, 118], 5, 1, 1, 1⟩, ⟨[109, 111, 100], 5, 1, 1, 1⟩, ⟨[110, 101, 103], 4, 1, 0, 1⟩, ⟨[99, 111, 110, 99, 97, 116], 5, 3, 3, 3⟩, ⟨[108, 101, 110, 103, 116, 104], 4, 3, 0, 1⟩, ⟨[101, 113], 5, (-1), (-1), 2⟩, ⟨[110, 101], 5, (-1), (-1), 2⟩, ⟨[108, 116], 5, (-1), (-1), 2⟩, ⟨[108, 101], 5, (-1), (-1), 2⟩, ⟨[103, 116], 5, (-1), (-1), 2⟩, ⟨[103, 101], 5, (-1), (-1), 2⟩, ⟨[115, 97, 109, 101], 5, (-1), (-1), 2⟩, ⟨[105, 115, 110, 117, 108, 108], 4, (-1), 0, 2⟩, ⟨[97, 110, 100], 5, 2, 2, 2⟩, ⟨[111, 114], 5, 2, 2, 2⟩, ⟨[110, 111, 116], 4, 2, 0, 2⟩, ⟨[105, 115, 116, 114, 117, 101], 4, 2, 0, 2⟩, ⟨[99, 97, 115, 101], 6, 2, (-1), (-1)⟩, ⟨[99, 111, 97, 108, 101, 115, 99, 101], 5, (-1), (-1), (-1)⟩, ⟨[105, 110], 7, (-1), (-1), 2⟩]
def oRow (n : Nat) : ORow := opsRows.getD n ORow.z
def OpsTab (w : World) : Prop := 0 < w.heap.size ∧ ∀ i, i < 29 → w.cell? ⟨0, i * 5, none⟩ = some (.string ⟨(oRow i).word.toArray⟩) ∧ w.cell? ⟨0, i * 5 + 1, none⟩ = some (.int .i64 (oRow i).has) ∧ w.cell? ⟨0, i * 5 + 2, none⟩ = some (.int .i64 (oRow i).first) ∧
  w.cell? ⟨0, i * 5 + 3, none⟩ = some (.int .i64 (oRow i).others) ∧ w.cell? ⟨0, i * 5 + 4, none⟩ = some (.int .i64 (oRow i).gives)
theorem OpsTab.later {w w' : World} (h : OpsTab w) (hb : Below w.heap.size w w') : OpsTab w' := by
  refine ⟨Nat.lt_of_lt_of_le h.1 hb.size, fun i hi => ?_⟩
  obtain ⟨h0, h1, h2, h3, h4⟩ := h.2 i hi
  have key : ∀ o, w'.cell? ⟨0, o, none⟩ = w.cell? ⟨0, o, none⟩ := fun o => hb.cell (p := ⟨0, o, none⟩) h.1
  exact ⟨by rw [key]; exact h0, by rw [key]; exact h1, by rw [key]; exact h2, by rw [key]; exact h3, by rw [key]; exact h4⟩
set_option maxHeartbeats 1000000 in
theorem find_yes (n : Nat) (w : World) (h1 : 1 ≤ n) (h2 : n < 29) (ht : OpsTab w) :
    Calls Tryz.prog 117 #[.int .i64 (n : Nat)] w fun r w' => r = .returned (.tuple #[.agg #[.string ⟨(oRow n).word.toArray⟩, .int .i64 (oRow n).has, .int .i64 (oRow n).first, .int .i64 (oRow n).others, .int .i64 (oRow n).gives], .bool true]) ∧ Cls w w' := by
  obtain ⟨hg, hc⟩ := ht
  obtain ⟨q0, q1, q2, q3, q4⟩ := hc n h2
  have b1 : decide ((n : Int) < 1) = false := by simp; omega
  have b2 : decide (29 ≤ (n : Int)) = false := by simp; omega
  clear hc
  go_enter Tryz.func117, Tryz.ntmps117
  go_wp2_with fail
  refine ret_ex rfl ?_
  simp [results, Tryz.results117, go_sem]
  refine Cls.of ?_
  repeat first | with_reducible exact Below.refl _ _ | with_reducible assumption | with_reducible refine Below.setCell ?_ (by first | omega | (simp; done) | (simp; omega)) _ | with_reducible refine Below.alloc ?_ (by first | omega | (simp; done) | (simp; omega)) _ | with_reducible refine Below.drew ?_ | with_reducible refine Ext.on _ ?_ (by first | omega | (simp; done) | (simp; omega))
set_option maxHeartbeats 1000000 in
theorem find_no (n : Int) (w : World) (h : n < 1 ∨ 29 ≤ n) :
    Calls Tryz.prog 117 #[.int .i64 n] w fun r w' => r = .returned (.tuple #[.agg #[.string ⟨#[]⟩, .int .i64 0, .int .i64 0, .int .i64 0, .int .i64 0], .bool false]) ∧ Cls w w' := by
  rcases h with h | h
  · have b1 : decide (n < 1) = true := by simp; omega
    clear h
    go_enter Tryz.func117, Tryz.ntmps117
    go_wp2_with fail
    refine ret_ex rfl ?_
    simp [results, Tryz.results117, go_sem]
    refine Cls.of ?_
    repeat first | with_reducible exact Below.refl _ _ | with_reducible assumption | with_reducible refine Below.setCell ?_ (by first | omega | (simp; done) | (simp; omega)) _ | with_reducible refine Below.alloc ?_ (by first | omega | (simp; done) | (simp; omega)) _ | with_reducible refine Below.drew ?_ | with_reducible refine Ext.on _ ?_ (by first | omega | (simp; done) | (simp; omega))
  · have b1 : decide (n < 1) = false := by simp; omega
    have b2 : decide (29 ≤ n) = true := by simp; omega
    clear h
    go_enter Tryz.func117, Tryz.ntmps117
    go_wp2_with fail
    refine ret_ex rfl ?_
    simp [results, Tryz.results117, go_sem]
    refine Cls.of ?_
    repeat first | with_reducible exact Below.refl _ _ | with_reducible assumption | with_reducible refine Below.setCell ?_ (by first | omega | (simp; done) | (simp; omega)) _ | with_reducible refine Below.alloc ?_ (by first | omega | (simp; done) | (simp; omega)) _ | with_reducible refine Below.drew ?_ | with_reducible refine Ext.on _ ?_ (by first | omega | (simp; done) | (simp; omega))
def takesH (has : Int) (m : Nat) : Bool := if has = 4 then decide (m = 1) else if has = 5 then decide (m = 2) else if has = 6 then decide (m = 3) else if has = 7 then decide (2 ≤ m) else decide (m = 0)
set_option maxHeartbeats 1000000 in
theorem takes_calls (r : ORow) (m : Nat) (w : World) (hr : r.has = 0 ∨ r.has = 1 ∨ r.has = 2 ∨ r.has = 3 ∨ r.has = 4 ∨ r.has = 5 ∨ r.has = 6 ∨ r.has = 7) :
    Calls Tryz.prog 118 #[.agg #[.string ⟨r.word.toArray⟩, .int .i64 r.has, .int .i64 r.first, .int .i64 r.others, .int .i64 r.gives], .int .i64 (m : Nat)] w fun e w' => e = .returned (.bool (takesH r.has m)) ∧ Cls w w' := by
  obtain ⟨word, has, first, others, gives⟩ := r
  simp only at hr ⊢
  rcases hr with rfl | rfl | rfl | rfl | rfl | rfl | rfl | rfl
  all_goals
    go_enter Tryz.func118, Tryz.ntmps118
    go_wp2_with fail
    go_ret
    refine ⟨ret_bool ?_, Cls.of ?_⟩
    · simp [takesH]; first | done | omega | (rw [Bool.eq_iff_iff]; simp; done) | (rw [Bool.eq_iff_iff]; simp; omega)
    · repeat first | with_reducible exact Below.refl _ _ | with_reducible assumption | with_reducible refine Below.setCell ?_ (by first | omega | (simp; done) | (simp; omega)) _ | with_reducible refine Below.alloc ?_ (by first | omega | (simp; done) | (simp; omega)) _ | with_reducible refine Below.drew ?_ | with_reducible refine Ext.on _ ?_ (by first | omega | (simp; done) | (simp; omega))
end Go.Proofs.YtdmhmlnfoocnjaaGreatDoor
