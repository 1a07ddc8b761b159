/-
  What Arith gives, of the program and of the reference, for all operations and values: the same value, which is valid. What the operations of expressions give on values: the program's unary, binary and what they call, for all values. The table of operations, and what find, takes, column and literal give. What an expression's value is, and what the program's column and literal give.
-/
import Derived.Test.YtpddkljedhghkaaDoorK05
import Derived.Test.YtpddkljedhghkaaDoorK03
import Derived.Lib.Hide
import Derived.Test.YtpddkljedhghkaaDoorK01
import Derived.Laws.Entries
set_option linter.unusedVariables false
namespace Go.Proofs.YtpddkljedhghkaaDoor
open Go Go.RowKit

theorem vB_three (s : ByteArray) : vB 3 0 s = textB s := by simp [vB]
theorem arOk_bad {op k n : Int} {s : ByteArray} {k' n' : Int} {s' : ByteArray} (h : vB k n s = false ∨ vB k' n' s' = false) : arOk op k n s k' n' s' = false := by
  rcases h with h | h <;> simp [arOk, h]
theorem arOk_kinds {op k n : Int} {s : ByteArray} {k' n' : Int} {s' : ByteArray} (h : if op = 12 then ¬ (k = 3 ∧ k' = 3) else ¬ (k = 1 ∧ k' = 1)) : arOk op k n s k' n' s' = false := by
  by_cases ho : op = 12
  · simp only [ho, if_true] at h
    have : (k == 3 && k' == 3) = false := by
      cases h1 : k == 3 <;> cases h2 : k' == 3 <;> simp_all
    simp [arOk, ho, this]
  · rw [if_neg ho] at h
    have : (k == 1 && k' == 1) = false := by
      cases h1 : k == 1 <;> cases h2 : k' == 1 <;> simp_all
    simp [arOk, ho, this]
theorem arOk_text {n : Int} {s : ByteArray} {n' : Int} {s' : ByteArray} (hv : vB 3 n s = true) (hv' : vB 3 n' s' = true) : arOk 12 3 n s 3 n' s' = vB 3 0 (s ++ s') := by simp [arOk, hv, hv', vB_three]
theorem arOk_num {op n : Int} {s : ByteArray} {n' : Int} {s' : ByteArray} (hv : vB 1 n s = true) (hv' : vB 1 n' s' = true) (ho : ¬ op = 12) : arOk op 1 n s 1 n' s' = numOk op n n' := by simp [arOk, hv, hv', ho]
theorem arV_num' {op n : Int} {s : ByteArray} {n' : Int} {s' : ByteArray} (hv : vB 1 n s = true) (hv' : vB 1 n' s' = true) (ho : ¬ op = 12) (h : numOk op n n' = true) :
    arV op 1 n s 1 n' s' = .agg #[.int .i64 1, .int .i64 (numV op n n'), .string ⟨#[]⟩] := arV_num (by rw [arOk_num hv hv' ho]; exact h) ho
theorem arV_none {op n : Int} {s : ByteArray} {n' : Int} {s' : ByteArray} (hv : vB 1 n s = true) (hv' : vB 1 n' s' = true) (ho : ¬ op = 12) (h : numOk op n n' = false) :
    arV op 1 n s 1 n' s' = nullV := arV_no (by rw [arOk_num hv hv' ho]; exact h)

theorem Arith_calls (op k n : Int) (s : ByteArray) (k' n' : Int) (s' : ByteArray) (w : World) (hs : s.size ≤ maxLen) (hs' : s'.size ≤ maxLen) :
    Calls Tryd.prog 83 #[.int .i64 op, .agg #[.int .i64 k, .int .i64 n, .string s], .agg #[.int .i64 k', .int .i64 n', .string s']] w fun e w' =>
      e = .returned (.agg #[.int .i64 (arK op k n s k' n' s'), .int .i64 (arN op k n s k' n' s'), .string (arS op k n s k' n' s')]) ∧ Cls w w' := by
  show Calls _ _ _ w fun e w' => e = .returned (arV op k n s k' n' s') ∧ Cls w w'
  by_cases hv : vB k n s = true ∧ vB k' n' s' = true
  · obtain ⟨hv, hv'⟩ := hv
    by_cases hk : if op = 12 then ¬ (k = 3 ∧ k' = 3) else ¬ (k = 1 ∧ k' = 1)
    · rw [arV_no (arOk_kinds hk)]; exact Arith_kinds op k n s k' n' s' w hs hs' hv hv' hk
    · by_cases ho : op = 12
      · subst ho
        simp only [if_true, Classical.not_not] at hk
        obtain ⟨rfl, rfl⟩ := hk
        cases hc : vB 3 0 (s ++ s')
        · rw [arV_no (by rw [arOk_text hv hv']; exact hc)]; exact Arith_text_false n s n' s' w hs hs' hv hv' hc
        · rw [arV_text (by rw [arOk_text hv hv']; exact hc)]; exact Arith_text_true n s n' s' w hs hs' hv hv' hc
      · rw [if_neg ho, Classical.not_not] at hk
        obtain ⟨rfl, rfl⟩ := hk
        have he := numOk_eq op n n' (vB_num hv)
        cases hc : compOk op n n'
        · rw [arV_none hv hv' ho (by rw [he, hc]; rfl)]; exact Arith_num_none op n s n' s' w hs hs' hv hv' ho hc
        · have hcv : compV op n n' = numV op n n' := by simp [compV, hc]
          cases hf : fitB (compV op n n')
          · rw [arV_none hv hv' ho (by rw [he, ← hcv, hf, hc]; rfl)]; exact Arith_num_far op n s n' s' w hs hs' hv hv' ho hc hf
          · rw [arV_num' hv hv' ho (by rw [he, ← hcv, hf, hc]; rfl), ← hcv]; exact Arith_num_fits op n s n' s' w hs hs' hv hv' ho hc hf
  · have h : vB k n s = false ∨ vB k' n' s' = false := by
      cases h1 : vB k n s <;> cases h2 : vB k' n' s' <;> simp_all
    rw [arV_no (arOk_bad h)]; exact Arith_invalid op k n s k' n' s' w hs hs' h

theorem rArith_calls (op k n : Int) (s : ByteArray) (k' n' : Int) (s' : ByteArray) (w : World) (hs : s.size ≤ maxLen) (hs' : s'.size ≤ maxLen) :
    Calls Tryd.prog 42 #[.int .i64 op, .agg #[.int .i64 k, .int .i64 n, .string s], .agg #[.int .i64 k', .int .i64 n', .string s']] w fun e w' =>
      e = .returned (.agg #[.int .i64 (arK op k n s k' n' s'), .int .i64 (arN op k n s k' n' s'), .string (arS op k n s k' n' s')]) ∧ Cls w w' := by
  show Calls _ _ _ w fun e w' => e = .returned (arV op k n s k' n' s') ∧ Cls w w'
  by_cases hv : vB k n s = true ∧ vB k' n' s' = true
  · obtain ⟨hv, hv'⟩ := hv
    by_cases hk : if op = 12 then ¬ (k = 3 ∧ k' = 3) else ¬ (k = 1 ∧ k' = 1)
    · rw [arV_no (arOk_kinds hk)]; exact rArith_kinds op k n s k' n' s' w hs hs' hv hv' hk
    · by_cases ho : op = 12
      · subst ho
        simp only [if_true, Classical.not_not] at hk
        obtain ⟨rfl, rfl⟩ := hk
        cases hc : vB 3 0 (s ++ s')
        · rw [arV_no (by rw [arOk_text hv hv']; exact hc)]; exact rArith_text_false n s n' s' w hs hs' hv hv' hc
        · rw [arV_text (by rw [arOk_text hv hv']; exact hc)]; exact rArith_text_true n s n' s' w hs hs' hv hv' hc
      · rw [if_neg ho, Classical.not_not] at hk
        obtain ⟨rfl, rfl⟩ := hk
        by_cases h6 : op = 6
        · subst h6
          cases hf : fitB (n + n')
          · rw [arV_none hv hv' ho (by simp [numOk, hf])]; exact rArith_add_false n s n' s' w hs hs' hv hv' hf
          · rw [arV_num' hv hv' ho (by simp [numOk, hf])]; exact rArith_add_true n s n' s' w hs hs' hv hv' hf
        · by_cases h7 : op = 7
          · subst h7
            cases hf : fitB (n - n')
            · rw [arV_none hv hv' ho (by simp [numOk, hf])]; exact rArith_sub_false n s n' s' w hs hs' hv hv' hf
            · rw [arV_num' hv hv' ho (by simp [numOk, hf])]; exact rArith_sub_true n s n' s' w hs hs' hv hv' hf
          · by_cases h8 : op = 8
            · subst h8
              cases hf : mulOk n n'
              · rw [arV_none hv hv' ho (by simp [numOk, hf])]; exact rArith_mul_false n s n' s' w hs hs' hv hv' hf
              · rw [arV_num' hv hv' ho (by simp [numOk, hf])]; exact rArith_mul_true n s n' s' w hs hs' hv hv' hf
            · by_cases h9 : op = 9
              · subst h9
                by_cases hz : n' = 0
                · subst hz; rw [arV_none hv hv' ho (by simp [numOk])]; exact rArith_div_zero n s s' w hs hs' hv hv'
                · rw [arV_num' hv hv' ho (by simp [numOk, hz])]; exact rArith_div n s n' s' w hs hs' hv hv' hz
              · by_cases h10 : op = 10
                · subst h10
                  by_cases hz : n' = 0
                  · subst hz; rw [arV_none hv hv' ho (by simp [numOk])]; exact rArith_mod_zero n s s' w hs hs' hv hv'
                  · rw [arV_num' hv hv' ho (by simp [numOk, hz])]; exact rArith_mod n s n' s' w hs hs' hv hv' hz
                · rw [arV_none hv hv' ho (by simp [numOk, h6, h7, h8, h9, h10])]; exact rArith_other op n s n' s' w hs hs' hv hv' ho h6 h7 h8 h9 h10
  · have h : vB k n s = false ∨ vB k' n' s' = false := by
      cases h1 : vB k n s <;> cases h2 : vB k' n' s' <;> simp_all
    rw [arV_no (arOk_bad h)]; exact rArith_invalid op k n s k' n' s' w hs hs' h

/-- Whatever comes out is valid. -/
theorem ar_valid (op k n : Int) (s : ByteArray) (k' n' : Int) (s' : ByteArray) : vB (arK op k n s k' n' s') (arN op k n s k' n' s') (arS op k n s k' n' s') = true := by
  cases h : arOk op k n s k' n' s'
  · simp [arK, arN, arS, h, vB]
  · by_cases ho : op = 12
    · subst ho
      have h2 := h
      simp [arOk] at h2
      obtain ⟨_, ⟨rfl, rfl⟩, ht⟩ := h2
      simp only [arK, arN, arS, h, if_true]
      rw [vB_three]
      exact ht
    · have h2 := h
      simp only [arOk, ho, if_false, Bool.and_eq_true, beq_iff_eq] at h2
      obtain ⟨⟨h3, _⟩, ⟨rfl, rfl⟩, h4⟩ := h2
      rw [numOk_eq op n n' (vB_num h3), Bool.and_eq_true] at h4
      have h5 := h4.2
      simp only [arK, arN, arS, h, ho, if_true, if_false]
      rw [vB_one]
      exact h5
theorem arS_size {op k n : Int} {s : ByteArray} {k' n' : Int} {s' : ByteArray} : (arS op k n s k' n' s').size ≤ maxLen := by
  have h := ar_valid op k n s k' n' s'
  cases h1 : arOk op k n s k' n' s'
  · simp only [arS, h1, Bool.false_eq_true, if_false]; exact Nat.zero_le _
  · by_cases ho : op = 12
    · subst ho
      have : arK 12 k n s k' n' s' = 3 := by simp [arK, h1]
      rw [this] at h
      have := (vB_text h).2
      unfold maxLen; omega
    · simp only [arS, h1, ho, if_true, if_false]; exact Nat.zero_le _
end Go.Proofs.YtpddkljedhghkaaDoor
set_option linter.unusedVariables false
namespace Go.Proofs.YtpddkljedhghkaaDoor
open Go Go.RowKit
/-- Kind, number and text of a value. -/
structure Vl where
  k : Int
  n : Int
  s : ByteArray
def Vl.z : Vl := ⟨0, 0, ⟨#[]⟩⟩
instance : Inhabited Vl := ⟨Vl.z⟩
def tvV (t : Int) : Vl := ⟨tvK t, tvN t, ⟨#[]⟩⟩
def arV3 (op : Int) (a b : Vl) : Vl := ⟨arK op a.k a.n a.s b.k b.n b.s, arN op a.k a.n a.s b.k b.n b.s, arS op a.k a.n a.s b.k b.n b.s⟩
def eqV (a b : Vl) : Int := eqT a.k a.n a.s b.k b.n b.s
def ltV (a b : Vl) : Int := lessT a.k a.n a.s b.k b.n b.s
def trV (a : Vl) : Int := truT a.k a.n
/-- What an operation with one operand gives. -/
def unV (op : Int) (a : Vl) : Vl :=
  if op = 11 then arV3 7 ⟨1, 0, ⟨#[]⟩⟩ a else if op = 13 then (if a.k = 3 then ⟨1, a.s.size, ⟨#[]⟩⟩ else Vl.z) else if op = 21 then ⟨2, b2i (a.k == 0), ⟨#[]⟩⟩
  else if op = 24 then tvV (notT (trV a)) else ⟨2, b2i (trV a == 1), ⟨#[]⟩⟩
/-- What an operation with two operands gives. -/
def biV (op : Int) (a b : Vl) : Vl :=
  if op = 14 then tvV (eqV a b) else if op = 15 then tvV (notT (truT (tvK (eqV a b)) (tvN (eqV a b)))) else if op = 16 then tvV (ltV a b)
  else if op = 17 then tvV (notT (truT (tvK (ltV b a)) (tvN (ltV b a)))) else if op = 18 then tvV (ltV b a) else if op = 19 then tvV (notT (truT (tvK (ltV a b)) (tvN (ltV a b))))
  else if op = 20 then ⟨2, b2i (sameB a.k a.n a.s b.k b.n b.s), ⟨#[]⟩⟩ else if op = 22 then tvV (andT (trV a) (trV b)) else if op = 23 then tvV (orT (trV a) (trV b))
  else if op = 27 then (if a.k = 0 then b else a) else arV3 op a b

theorem truth_calls (c : Bool) (w : World) :
    Calls Tryd.prog 85 #[.bool c] w fun r w' => r = .returned (.agg #[.int .i64 2, .int .i64 (b2i c), .string ⟨#[]⟩]) ∧ Cls w w' := by
  have B1 : Hid (∀ W, Calls Tryd.prog 80 #[.int .i64 1] W fun r w' => r = .returned (.agg #[.int .i64 2, .int .i64 1, .string ⟨#[]⟩]) ∧ Cls W w') := Lib.hid (fun W => Bool_calls 1 W)
  have B0 : Hid (∀ W, Calls Tryd.prog 80 #[.int .i64 0] W fun r w' => r = .returned (.agg #[.int .i64 2, .int .i64 0, .string ⟨#[]⟩]) ∧ Cls W w') := Lib.hid (fun W => Bool_calls 0 W)
  cases c
  all_goals
    go_enter Tryd.func85, Tryd.ntmps85
    go_wp2_with (first | (go_at_call 80; ((with_reducible refine (B1.out _).mono ?_); rintro r _ ⟨rfl, y, rfl⟩)) | (go_at_call 80; ((with_reducible refine (B0.out _).mono ?_); rintro r _ ⟨rfl, y, rfl⟩)))
    refine ret_ex rfl ?_
    simp [results, Tryd.results85, go_sem]
    refine ⟨rfl, Cls.of ?_⟩
    repeat first | with_reducible exact Below.refl _ _ | with_reducible refine Below.setCell ?_ (by first | omega | (simp; done) | (simp; omega)) _ | with_reducible refine Below.alloc ?_ (by first | omega | (simp; done) | (simp; omega)) _ | with_reducible refine Below.drew ?_ | with_reducible refine Ext.on _ ?_ (by first | omega | (simp; done) | (simp; omega))
theorem isTrue_calls (a : Vl) (w : World) :
    Calls Tryd.prog 79 #[.agg #[.int .i64 a.k, .int .i64 a.n, .string a.s]] w fun r w' => r = .returned (.bool (trV a == 1)) ∧ Cls w w' := by
  go_enter Tryd.func79, Tryd.ntmps79
  go_wp2_with (go_at_call 118; ((with_reducible refine (Truth_calls _ _ _ _).mono ?_); rintro r _ ⟨rfl, y, rfl⟩))
  go_ret
  refine ⟨ret_bool rfl, Cls.of ?_⟩
  repeat first | with_reducible exact Below.refl _ _ | with_reducible refine Below.setCell ?_ (by first | omega | (simp; done) | (simp; omega)) _ | with_reducible refine Below.alloc ?_ (by first | omega | (simp; done) | (simp; omega)) _ | with_reducible refine Below.drew ?_ | with_reducible refine Ext.on _ ?_ (by first | omega | (simp; done) | (simp; omega))
theorem eIsNull_calls (a : Vl) (w : World) :
    Calls Tryd.prog 86 #[.agg #[.int .i64 a.k, .int .i64 a.n, .string a.s]] w fun r w' => r = .returned (.bool (a.k == 0)) ∧ Cls w w' := by
  go_enter Tryd.func86, Tryd.ntmps86
  go_wp2_with fail
  all_goals
    go_ret
    refine ⟨ret_bool rfl, Cls.of ?_⟩
    repeat first | with_reducible exact Below.refl _ _ | with_reducible refine Below.setCell ?_ (by first | omega | (simp; done) | (simp; omega)) _ | with_reducible refine Below.alloc ?_ (by first | omega | (simp; done) | (simp; omega)) _ | with_reducible refine Below.drew ?_ | with_reducible refine Ext.on _ ?_ (by first | omega | (simp; done) | (simp; omega))
theorem length_calls (a : Vl) (w : World) (hs : a.s.size ≤ maxLen) :
    Calls Tryd.prog 84 #[.agg #[.int .i64 a.k, .int .i64 a.n, .string a.s]] w fun r w' => r = .returned (.agg #[.int .i64 (unV 13 a).k, .int .i64 (unV 13 a).n, .string (unV 13 a).s]) ∧ Cls w w' := by
  unfold maxLen at hs
  by_cases h : a.k = 3
  · have HU : Hid (unV 13 a = ⟨1, a.s.size, ⟨#[]⟩⟩) := Lib.hid (by simp [unV, h])
    have b0 : (a.k != 3) = false := by simpa using h
    clear h
    rw [HU.out]
    go_enter Tryd.func84, Tryd.ntmps84
    go_wp2_with fail
    refine ret_ex rfl ?_
    simp [results, Tryd.results84, go_sem]
    refine Cls.of ?_
    repeat first | with_reducible exact Below.refl _ _ | with_reducible refine Below.setCell ?_ (by first | omega | (simp; done) | (simp; omega)) _ | with_reducible refine Below.alloc ?_ (by first | omega | (simp; done) | (simp; omega)) _ | with_reducible refine Below.drew ?_ | with_reducible refine Ext.on _ ?_ (by first | omega | (simp; done) | (simp; omega))
  · have HU : Hid (unV 13 a = Vl.z) := Lib.hid (by simp [unV, h])
    have b0 : (a.k != 3) = true := by simpa using h
    clear h
    rw [HU.out]
    go_enter Tryd.func84, Tryd.ntmps84
    go_wp2_with fail
    refine ret_ex rfl ?_
    simp [results, Tryd.results84, go_sem, Vl.z]
    refine Cls.of ?_
    repeat first | with_reducible exact Below.refl _ _ | with_reducible refine Below.setCell ?_ (by first | omega | (simp; done) | (simp; omega)) _ | with_reducible refine Below.alloc ?_ (by first | omega | (simp; done) | (simp; omega)) _ | with_reducible refine Below.drew ?_ | with_reducible refine Ext.on _ ?_ (by first | omega | (simp; done) | (simp; omega))
set_option maxHeartbeats 1000000 in
theorem unary_calls (op : Int) (a : Vl) (w : World) (hs : a.s.size ≤ maxLen) (hop : op = 11 ∨ op = 13 ∨ op = 21 ∨ op = 24 ∨ op = 25) :
    Calls Tryd.prog 39 #[.int .i64 op, .agg #[.int .i64 a.k, .int .i64 a.n, .string a.s]] w fun r w' => r = .returned (.agg #[.int .i64 (unV op a).k, .int .i64 (unV op a).n, .string (unV op a).s]) ∧ Cls w w' := by
  have h0 : (⟨#[]⟩ : ByteArray).size ≤ maxLen := by unfold maxLen; show (0 : Nat) ≤ _; omega
  rcases hop with rfl | rfl | rfl | rfl | rfl
  all_goals
    go_enter Tryd.func39, Tryd.ntmps39
    go_wp2_with (first | (go_at_call 83; first | ((with_reducible refine (Cls.call (Arith_calls _ _ _ _ _ _ _ _ (by assumption) (by assumption))).mono ?_); rintro r _ ⟨rfl, y1, rfl⟩) | ((with_reducible refine (Arith_calls _ _ _ _ _ _ _ _ (by assumption) (by assumption)).mono ?_); rintro r _ ⟨rfl, y1, rfl⟩)) | (go_at_call 84; first | ((with_reducible refine (Cls.call (length_calls a _ hs)).mono ?_); rintro r _ ⟨rfl, y2, rfl⟩) | ((with_reducible refine (length_calls a _ hs).mono ?_); rintro r _ ⟨rfl, y2, rfl⟩)) | (go_at_call 86; first | ((with_reducible refine (Cls.call (eIsNull_calls a _)).mono ?_); rintro r _ ⟨rfl, y3, rfl⟩) | ((with_reducible refine (eIsNull_calls a _).mono ?_); rintro r _ ⟨rfl, y3, rfl⟩)) | (go_at_call 79; first | ((with_reducible refine (Cls.call (isTrue_calls a _)).mono ?_); rintro r _ ⟨rfl, y4, rfl⟩) | ((with_reducible refine (isTrue_calls a _).mono ?_); rintro r _ ⟨rfl, y4, rfl⟩)) | (go_at_call 85; first | ((with_reducible refine (Cls.call (truth_calls _ _)).mono ?_); rintro r _ ⟨rfl, y5, rfl⟩) | ((with_reducible refine (truth_calls _ _).mono ?_); rintro r _ ⟨rfl, y5, rfl⟩)) | (go_at_call 87; first | ((with_reducible refine (Cls.call (Not_calls _ _ _ _)).mono ?_); rintro r _ ⟨rfl, y6, rfl⟩) | ((with_reducible refine (Not_calls _ _ _ _).mono ?_); rintro r _ ⟨rfl, y6, rfl⟩)))
    refine ret_ex rfl ?_
    simp [results, Tryd.results39, go_sem]
    first | (refine ⟨⟨rfl, rfl, rfl⟩, Cls.of ?_⟩) | (refine ⟨⟨rfl, rfl⟩, Cls.of ?_⟩) | (refine ⟨rfl, Cls.of ?_⟩) | (refine Cls.of ?_)
    repeat first | with_reducible exact Below.refl _ _ | with_reducible refine Below.setCell ?_ (by first | omega | (simp; done) | (simp; omega)) _ | with_reducible refine Below.alloc ?_ (by first | omega | (simp; done) | (simp; omega)) _ | with_reducible refine Below.drew ?_ | with_reducible refine Ext.on _ ?_ (by first | omega | (simp; done) | (simp; omega))
set_option maxHeartbeats 4000000 in
theorem binary_calls (op : Int) (a b : Vl) (w : World) (hs : a.s.size ≤ maxLen) (hs' : b.s.size ≤ maxLen) (hop : op = 6 ∨ op = 7 ∨ op = 8 ∨ op = 9 ∨ op = 10 ∨ op = 12 ∨ op = 14 ∨ op = 15 ∨ op = 16 ∨ op = 17 ∨ op = 18 ∨ op = 19 ∨ op = 20 ∨ op = 22 ∨ op = 23) :
    Calls Tryd.prog 40 #[.int .i64 op, .agg #[.int .i64 a.k, .int .i64 a.n, .string a.s], .agg #[.int .i64 b.k, .int .i64 b.n, .string b.s]] w fun r w' => r = .returned (.agg #[.int .i64 (biV op a b).k, .int .i64 (biV op a b).n, .string (biV op a b).s]) ∧ Cls w w' := by
  rcases hop with rfl | rfl | rfl | rfl | rfl | rfl | rfl | rfl | rfl | rfl | rfl | rfl | rfl | rfl | rfl
  all_goals
    go_enter Tryd.func40, Tryd.ntmps40
    go_wp2_with (first | (go_at_call 83; first | ((with_reducible refine (Cls.call (Arith_calls _ _ _ _ _ _ _ _ hs hs')).mono ?_); rintro r _ ⟨rfl, y1, rfl⟩) | ((with_reducible refine (Arith_calls _ _ _ _ _ _ _ _ hs hs').mono ?_); rintro r _ ⟨rfl, y1, rfl⟩)) | (go_at_call 82; first | ((with_reducible refine (Cls.call (Equal_calls _ _ _ _ _ _ _)).mono ?_); rintro r _ ⟨rfl, y2, rfl⟩) | ((with_reducible refine (Equal_calls _ _ _ _ _ _ _).mono ?_); rintro r _ ⟨rfl, y2, rfl⟩)) | (go_at_call 88; first | ((with_reducible refine (Cls.call (Less_calls _ _ _ _ _ _ _)).mono ?_); rintro r _ ⟨rfl, y3, rfl⟩) | ((with_reducible refine (Less_calls _ _ _ _ _ _ _).mono ?_); rintro r _ ⟨rfl, y3, rfl⟩)) | (go_at_call 89; first | ((with_reducible refine (Cls.call (Same_calls _ _ _ _ _ _ _)).mono ?_); rintro r _ ⟨rfl, y4, rfl⟩) | ((with_reducible refine (Same_calls _ _ _ _ _ _ _).mono ?_); rintro r _ ⟨rfl, y4, rfl⟩)) | (go_at_call 85; first | ((with_reducible refine (Cls.call (truth_calls _ _)).mono ?_); rintro r _ ⟨rfl, y5, rfl⟩) | ((with_reducible refine (truth_calls _ _).mono ?_); rintro r _ ⟨rfl, y5, rfl⟩)) | (go_at_call 87; first | ((with_reducible refine (Cls.call (Not_calls _ _ _ _)).mono ?_); rintro r _ ⟨rfl, y6, rfl⟩) | ((with_reducible refine (Not_calls _ _ _ _).mono ?_); rintro r _ ⟨rfl, y6, rfl⟩)) | (go_at_call 90; first | ((with_reducible refine (Cls.call (And_calls _ _ _ _ _ _ _)).mono ?_); rintro r _ ⟨rfl, y7, rfl⟩) | ((with_reducible refine (And_calls _ _ _ _ _ _ _).mono ?_); rintro r _ ⟨rfl, y7, rfl⟩)) | (go_at_call 81; first | ((with_reducible refine (Cls.call (Or_calls _ _ _ _ _ _ _)).mono ?_); rintro r _ ⟨rfl, y8, rfl⟩) | ((with_reducible refine (Or_calls _ _ _ _ _ _ _).mono ?_); rintro r _ ⟨rfl, y8, rfl⟩)))
    refine ret_ex rfl ?_
    simp [results, Tryd.results40, go_sem]
    first | (refine ⟨⟨rfl, rfl, rfl⟩, Cls.of ?_⟩) | (refine ⟨⟨rfl, rfl⟩, Cls.of ?_⟩) | (refine ⟨rfl, Cls.of ?_⟩) | (refine Cls.of ?_)
    repeat first | with_reducible exact Below.refl _ _ | with_reducible refine Below.setCell ?_ (by first | omega | (simp; done) | (simp; omega)) _ | with_reducible refine Below.alloc ?_ (by first | omega | (simp; done) | (simp; omega)) _ | with_reducible refine Below.drew ?_ | with_reducible refine Ext.on _ ?_ (by first | omega | (simp; done) | (simp; omega))
theorem coalesce_calls (a b : Vl) (w : World) :
    Calls Tryd.prog 40 #[.int .i64 27, .agg #[.int .i64 a.k, .int .i64 a.n, .string a.s], .agg #[.int .i64 b.k, .int .i64 b.n, .string b.s]] w fun r w' => r = .returned (.agg #[.int .i64 (biV 27 a b).k, .int .i64 (biV 27 a b).n, .string (biV 27 a b).s]) ∧ Cls w w' := by
  by_cases h : a.k = 0
  · have HU : Hid (biV 27 a b = b) := Lib.hid (by simp [biV, h])
    have N1 : Hid (∀ W, Calls Tryd.prog 86 #[.agg #[.int .i64 a.k, .int .i64 a.n, .string a.s]] W fun r w' => r = .returned (.bool true) ∧ Cls W w') := Lib.hid (fun W => by have := eIsNull_calls a W; rw [h] at this ⊢; exact this)
    clear h
    rw [HU.out]
    go_enter Tryd.func40, Tryd.ntmps40
    go_wp2_with (go_at_call 86; ((with_reducible refine (N1.out _).mono ?_); rintro r _ ⟨rfl, y, rfl⟩))
    refine ret_ex rfl ?_
    simp [results, Tryd.results40, go_sem]
    refine Cls.of ?_
    repeat first | with_reducible exact Below.refl _ _ | with_reducible refine Below.setCell ?_ (by first | omega | (simp; done) | (simp; omega)) _ | with_reducible refine Below.alloc ?_ (by first | omega | (simp; done) | (simp; omega)) _ | with_reducible refine Below.drew ?_ | with_reducible refine Ext.on _ ?_ (by first | omega | (simp; done) | (simp; omega))
  · have HU : Hid (biV 27 a b = a) := Lib.hid (by simp [biV, h])
    have N1 : Hid (∀ W, Calls Tryd.prog 86 #[.agg #[.int .i64 a.k, .int .i64 a.n, .string a.s]] W fun r w' => r = .returned (.bool false) ∧ Cls W w') := Lib.hid (fun W => by have := eIsNull_calls a W; rw [show (a.k == 0) = false by simpa using h] at this; exact this)
    clear h
    rw [HU.out]
    go_enter Tryd.func40, Tryd.ntmps40
    go_wp2_with (go_at_call 86; ((with_reducible refine (N1.out _).mono ?_); rintro r _ ⟨rfl, y, rfl⟩))
    refine ret_ex rfl ?_
    simp [results, Tryd.results40, go_sem]
    refine Cls.of ?_
    repeat first | with_reducible exact Below.refl _ _ | with_reducible refine Below.setCell ?_ (by first | omega | (simp; done) | (simp; omega)) _ | with_reducible refine Below.alloc ?_ (by first | omega | (simp; done) | (simp; omega)) _ | with_reducible refine Below.drew ?_ | with_reducible refine Ext.on _ ?_ (by first | omega | (simp; done) | (simp; omega))
end Go.Proofs.YtpddkljedhghkaaDoor
set_option linter.unusedVariables false
namespace Go.Proofs.YtpddkljedhghkaaDoor
open Go Go.RowKit
/-- A row of the table: the word, what the operation has, and its types. -/
structure ORow where
  word : List UInt8
  has : Int
  first : Int
  others : Int
  gives : Int
def ORow.z : ORow := ⟨[], 0, 0, 0, 0⟩
def opsRows : List ORow := [⟨[], 0, 0, 0, 0⟩, ⟨[], 0, 0, 0, 0⟩, ⟨[], 1, 0, 0, 1⟩, ⟨[], 1, 0, 0, 2⟩, ⟨[], 2, 0, 0, 3⟩, ⟨[], 3, 0, 0, 0⟩, ⟨[97, 100, 100], 5, 1, 1, 1⟩, ⟨[115, 117, 98], 5, 1, 1, 1⟩, ⟨[109, 117, 108], 5, 1, 1, 1⟩, ⟨[100, 105, 118], 5, 1, 1, 1⟩, ⟨[109, 111, 100], 5, 1, 1, 1⟩, ⟨[110, 101, 103], 4, 1, 0, 1⟩, ⟨[99, 111, 110, 99, 97, 116], 5, 3, 3, 3⟩, ⟨[108, 101, 110, 103, 116, 104], 4, 3, 0, 1⟩, ⟨[101, 113], 5, (-1), (-1), 2⟩, ⟨[110, 101], 5, (-1), (-1), 2⟩, ⟨[108, 116], 5, (-1), (-1), 2⟩, ⟨[108, 101], 5, (-1), (-1), 2⟩, ⟨[103, 116], 5, (-1), (-1), 2⟩, ⟨[103, 101], 5, (-1), (-1), 2⟩, ⟨[115, 97, 109, 101], 5, (-1), (-1), 2⟩, ⟨[105, 115, 110, 117, 108, 108], 4, (-1), 0, 2⟩, ⟨[97, 110, 100], 5, 2, 2, 2⟩, ⟨[111, 114], 5, 2, 2, 2⟩, ⟨[110, 111, 116], 4, 2, 0, 2⟩, ⟨[105, 115, 116, 114, 117, 101], 4, 2, 0, 2⟩, ⟨[99, 97, 115, 101], 6, 2, (-1), (-1)⟩, ⟨[99, 111, 97, 108, 101, 115, 99, 101], 5, (-1), (-1), (-1)⟩, ⟨[105, 110], 7, (-1), (-1), 2⟩]
def oRow (n : Nat) : ORow := opsRows.getD n ORow.z
/-- The table's variable holds these rows. -/
def OpsTab (w : World) : Prop := 0 < w.heap.size ∧ ∀ i, i < 29 → w.cell? ⟨0, i * 5, none⟩ = some (.string ⟨(oRow i).word.toArray⟩) ∧ w.cell? ⟨0, i * 5 + 1, none⟩ = some (.int .i64 (oRow i).has) ∧ w.cell? ⟨0, i * 5 + 2, none⟩ = some (.int .i64 (oRow i).first) ∧
  w.cell? ⟨0, i * 5 + 3, none⟩ = some (.int .i64 (oRow i).others) ∧ w.cell? ⟨0, i * 5 + 4, none⟩ = some (.int .i64 (oRow i).gives)
theorem OpsTab.later {w w' : World} (h : OpsTab w) (hb : Below w.heap.size w w') : OpsTab w' := by
  refine ⟨Nat.lt_of_lt_of_le h.1 hb.size, fun i hi => ?_⟩
  obtain ⟨h0, h1, h2, h3, h4⟩ := h.2 i hi
  have key : ∀ o, w'.cell? ⟨0, o, none⟩ = w.cell? ⟨0, o, none⟩ := fun o => hb.cell (p := ⟨0, o, none⟩) h.1
  exact ⟨by rw [key]; exact h0, by rw [key]; exact h1, by rw [key]; exact h2, by rw [key]; exact h3, by rw [key]; exact h4⟩
set_option maxHeartbeats 1000000 in
theorem find_yes (n : Nat) (w : World) (h1 : 1 ≤ n) (h2 : n < 29) (ht : OpsTab w) :
    Calls Tryd.prog 33 #[.int .i64 (n : Nat)] w fun r w' => r = .returned (.tuple #[.agg #[.string ⟨(oRow n).word.toArray⟩, .int .i64 (oRow n).has, .int .i64 (oRow n).first, .int .i64 (oRow n).others, .int .i64 (oRow n).gives], .bool true]) ∧ Cls w w' := by
  obtain ⟨hg, hc⟩ := ht
  obtain ⟨q0, q1, q2, q3, q4⟩ := hc n h2
  have b1 : decide ((n : Int) < 1) = false := by simp; omega
  have b2 : decide (29 ≤ (n : Int)) = false := by simp; omega
  clear hc
  go_enter Tryd.func33, Tryd.ntmps33
  go_wp2_with fail
  refine ret_ex rfl ?_
  simp [results, Tryd.results33, go_sem]
  refine Cls.of ?_
  repeat first | with_reducible exact Below.refl _ _ | with_reducible assumption | with_reducible refine Below.setCell ?_ (by first | omega | (simp; done) | (simp; omega)) _ | with_reducible refine Below.alloc ?_ (by first | omega | (simp; done) | (simp; omega)) _ | with_reducible refine Below.drew ?_ | with_reducible refine Ext.on _ ?_ (by first | omega | (simp; done) | (simp; omega))
set_option maxHeartbeats 1000000 in
theorem find_no (n : Int) (w : World) (h : n < 1 ∨ 29 ≤ n) :
    Calls Tryd.prog 33 #[.int .i64 n] w fun r w' => r = .returned (.tuple #[.agg #[.string ⟨#[]⟩, .int .i64 0, .int .i64 0, .int .i64 0, .int .i64 0], .bool false]) ∧ Cls w w' := by
  rcases h with h | h
  · have b1 : decide (n < 1) = true := by simp; omega
    clear h
    go_enter Tryd.func33, Tryd.ntmps33
    go_wp2_with fail
    refine ret_ex rfl ?_
    simp [results, Tryd.results33, go_sem]
    refine Cls.of ?_
    repeat first | with_reducible exact Below.refl _ _ | with_reducible assumption | with_reducible refine Below.setCell ?_ (by first | omega | (simp; done) | (simp; omega)) _ | with_reducible refine Below.alloc ?_ (by first | omega | (simp; done) | (simp; omega)) _ | with_reducible refine Below.drew ?_ | with_reducible refine Ext.on _ ?_ (by first | omega | (simp; done) | (simp; omega))
  · have b1 : decide (n < 1) = false := by simp; omega
    have b2 : decide (29 ≤ n) = true := by simp; omega
    clear h
    go_enter Tryd.func33, Tryd.ntmps33
    go_wp2_with fail
    refine ret_ex rfl ?_
    simp [results, Tryd.results33, go_sem]
    refine Cls.of ?_
    repeat first | with_reducible exact Below.refl _ _ | with_reducible assumption | with_reducible refine Below.setCell ?_ (by first | omega | (simp; done) | (simp; omega)) _ | with_reducible refine Below.alloc ?_ (by first | omega | (simp; done) | (simp; omega)) _ | with_reducible refine Below.drew ?_ | with_reducible refine Ext.on _ ?_ (by first | omega | (simp; done) | (simp; omega))
/-- May an operation that has this have so many Kids? -/
def takesH (has : Int) (m : Nat) : Bool := if has = 4 then decide (m = 1) else if has = 5 then decide (m = 2) else if has = 6 then decide (m = 3) else if has = 7 then decide (2 ≤ m) else decide (m = 0)
set_option maxHeartbeats 1000000 in
theorem takes_calls (r : ORow) (m : Nat) (w : World) (hr : r.has = 0 ∨ r.has = 1 ∨ r.has = 2 ∨ r.has = 3 ∨ r.has = 4 ∨ r.has = 5 ∨ r.has = 6 ∨ r.has = 7) :
    Calls Tryd.prog 34 #[.agg #[.string ⟨r.word.toArray⟩, .int .i64 r.has, .int .i64 r.first, .int .i64 r.others, .int .i64 r.gives], .int .i64 (m : Nat)] w fun e w' => e = .returned (.bool (takesH r.has m)) ∧ Cls w w' := by
  obtain ⟨word, has, first, others, gives⟩ := r
  simp only at hr ⊢
  rcases hr with rfl | rfl | rfl | rfl | rfl | rfl | rfl | rfl
  all_goals
    go_enter Tryd.func34, Tryd.ntmps34
    go_wp2_with fail
    go_ret
    refine ⟨ret_bool ?_, Cls.of ?_⟩
    · simp [takesH]; first | done | omega | (rw [Bool.eq_iff_iff]; simp; done) | (rw [Bool.eq_iff_iff]; simp; omega)
    · repeat first | with_reducible exact Below.refl _ _ | with_reducible assumption | with_reducible refine Below.setCell ?_ (by first | omega | (simp; done) | (simp; omega)) _ | with_reducible refine Below.alloc ?_ (by first | omega | (simp; done) | (simp; omega)) _ | with_reducible refine Below.drew ?_ | with_reducible refine Ext.on _ ?_ (by first | omega | (simp; done) | (simp; omega))
end Go.Proofs.YtpddkljedhghkaaDoor
set_option linter.unusedVariables false
namespace Go.Proofs.YtpddkljedhghkaaDoor
open Go Go.RowKit
def colV (c : Int) (row : List Vl) : Vl := if c < 0 then Vl.z else if (row.length : Int) ≤ c then Vl.z else row.getD c.toNat Vl.z
def litV (op num : Int) (text : ByteArray) : Vl := if op = 2 then ⟨1, num, ⟨#[]⟩⟩ else if op = 3 then ⟨2, num, ⟨#[]⟩⟩ else if op = 4 then ⟨3, 0, text⟩ else Vl.z
/-- One more alternative of a membership test. -/
def orV (acc v x : Vl) : Vl := tvV (orT (trV acc) (trV (tvV (eqV v x))))
def inV (v : Vl) : List Vl → Vl → Vl
  | [], acc => acc
  | x :: r, acc => inV v r (orV acc v x)
def oneB (op : Int) : Bool := op == 11 || op == 13 || op == 21 || op == 24 || op == 25
def takesO (op : Int) (m : Nat) : Bool := if op ≤ 5 then decide (m = 0) else if oneB op = true then decide (m = 1) else if op = 26 then decide (m = 3) else if op = 28 then decide (2 ≤ m) else decide (m = 2)
/-- The value of an operation whose Kids have these values. -/
def opV (op num : Int) (text : ByteArray) (col : Int) (row vs : List Vl) : Vl :=
  if op < 1 then Vl.z else if 29 ≤ op then Vl.z else if takesO op vs.length = false then Vl.z
  else if op = 5 then colV col row else if op ≤ 4 then litV op num text
  else if op = 26 then (if trV (vs.getD 0 Vl.z) = 1 then vs.getD 1 Vl.z else vs.getD 2 Vl.z)
  else if op = 28 then inV (vs.getD 0 Vl.z) (vs.drop 1) (tvV 0)
  else if oneB op = true then unV op (vs.getD 0 Vl.z) else biV op (vs.getD 0 Vl.z) (vs.getD 1 Vl.z)
mutual
def evalE : Ex → List Vl → Vl
  | .mk op _ num text col l, row => opV op num text col row (evalL l row)
def evalL : List Ex → List Vl → List Vl
  | [], _ => []
  | k :: r, row => evalE k row :: evalL r row
end
theorem evalL_map (l : List Ex) (row : List Vl) : evalL l row = l.map (evalE · row) := by
  induction l with
  | nil => rw [evalL]; rfl
  | cons k r ih => rw [evalL, ih]; rfl
theorem evalE_eq (e : Ex) (row : List Vl) : evalE e row = opV e.op e.num e.text e.col row (e.kids.map (evalE · row)) := by
  cases e; simp only [evalE, Ex.op, Ex.num, Ex.text, Ex.col, Ex.kids, evalL_map]
/-- The slice holds the row's values. -/
def RowIs (w : World) (a : Option Addr) (len cap : Nat) (row : List Vl) : Prop :=
  row.length = len ∧ len ≤ cap ∧ cap ≤ maxLen ∧ (∀ v ∈ row, v.s.size ≤ maxLen) ∧ (len = 0 ∨ ∃ b off, a = some ⟨b, off, none⟩ ∧ b < w.heap.size ∧ ∀ i, i < len →
    w.cell? ⟨b, off + i * 3, none⟩ = some (.int .i64 (row.getD i Vl.z).k) ∧ w.cell? ⟨b, off + i * 3 + 1, none⟩ = some (.int .i64 (row.getD i Vl.z).n) ∧ w.cell? ⟨b, off + i * 3 + 2, none⟩ = some (.string (row.getD i Vl.z).s))
theorem RowIs.later {w w' : World} {a : Option Addr} {len cap : Nat} {row : List Vl} (h : RowIs w a len cap row) (hb : Below w.heap.size w w') : RowIs w' a len cap row := by
  refine ⟨h.1, h.2.1, h.2.2.1, h.2.2.2.1, h.2.2.2.2.imp id ?_⟩
  rintro ⟨b, off, ha, hlt, hc⟩
  refine ⟨b, off, ha, Nat.lt_of_lt_of_le hlt hb.size, fun i hi => ?_⟩
  obtain ⟨h0, h1, h2⟩ := hc i hi
  exact ⟨by rw [hb.cell (p := ⟨b, _, none⟩) hlt]; exact h0, by rw [hb.cell (p := ⟨b, _, none⟩) hlt]; exact h1, by rw [hb.cell (p := ⟨b, _, none⟩) hlt]; exact h2⟩
set_option maxHeartbeats 1000000 in
theorem column_calls (c : Int) (a : Option Addr) (len cap : Nat) (row : List Vl) (w : World) (h : RowIs w a len cap row) :
    Calls Tryd.prog 35 #[.int .i64 c, .slice a len cap] w fun r w' => r = .returned (.agg #[.int .i64 (colV c row).k, .int .i64 (colV c row).n, .string (colV c row).s]) ∧ Cls w w' := by
  obtain ⟨hl, hle, hmax, _, hh⟩ := h
  unfold maxLen at hmax
  by_cases h1 : c < 0
  · have HU : Hid (colV c row = Vl.z) := Lib.hid (by simp [colV, h1])
    have b1 : decide (c < 0) = true := by simpa using h1
    clear h1 hh hl
    rw [HU.out]
    go_enter Tryd.func35, Tryd.ntmps35
    go_wp2_with fail
    refine ret_ex rfl ?_
    simp [results, Tryd.results35, go_sem, Vl.z]
    refine Cls.of ?_
    repeat first | with_reducible exact Below.refl _ _ | with_reducible assumption | with_reducible refine Below.setCell ?_ (by first | omega | (simp; done) | (simp; omega)) _ | with_reducible refine Below.alloc ?_ (by first | omega | (simp; done) | (simp; omega)) _ | with_reducible refine Below.drew ?_ | with_reducible refine Ext.on _ ?_ (by first | omega | (simp; done) | (simp; omega))
  · have b1 : decide (c < 0) = false := by simpa using h1
    by_cases h2 : (len : Int) ≤ c
    · have HU : Hid (colV c row = Vl.z) := Lib.hid (by unfold colV; rw [if_neg h1, if_pos (by omega)])
      have b2 : decide ((len : Int) ≤ c) = true := by simpa using h2
      clear h1 h2 hh hl
      rw [HU.out]
      go_enter Tryd.func35, Tryd.ntmps35
      go_wp2_with fail
      refine ret_ex rfl ?_
      simp [results, Tryd.results35, go_sem, Vl.z]
      refine Cls.of ?_
      repeat first | with_reducible exact Below.refl _ _ | with_reducible assumption | with_reducible refine Below.setCell ?_ (by first | omega | (simp; done) | (simp; omega)) _ | with_reducible refine Below.alloc ?_ (by first | omega | (simp; done) | (simp; omega)) _ | with_reducible refine Below.drew ?_ | with_reducible refine Ext.on _ ?_ (by first | omega | (simp; done) | (simp; omega))
    · obtain ⟨n, rfl⟩ : ∃ n : Nat, c = (n : Int) := ⟨c.toNat, by omega⟩
      have hn : n < len := by omega
      have HU : Hid (colV (n : Int) row = row.getD n Vl.z) := Lib.hid (by unfold colV; rw [if_neg h1, if_neg (by omega)]; rfl)
      have b2 : decide ((len : Int) ≤ (n : Int)) = false := by simpa using h2
      obtain ⟨b, off, rfl, hb, hc⟩ := hh.resolve_left (by omega)
      obtain ⟨q0, q1, q2⟩ := hc n hn
      have hb1 : b < w.heap.size + 1 := by omega
      clear h1 h2 hc hl hh
      rw [HU.out]
      go_enter Tryd.func35, Tryd.ntmps35
      go_wp2_with fail
      refine ret_ex rfl ?_
      simp [results, Tryd.results35, go_sem]
      refine Cls.of ?_
      repeat first | with_reducible exact Below.refl _ _ | with_reducible assumption | with_reducible refine Below.setCell ?_ (by first | omega | (simp; done) | (simp; omega)) _ | with_reducible refine Below.alloc ?_ (by first | omega | (simp; done) | (simp; omega)) _ | with_reducible refine Below.drew ?_ | with_reducible refine Ext.on _ ?_ (by first | omega | (simp; done) | (simp; omega))
set_option maxHeartbeats 1000000 in
theorem literal_calls (e : Ex) (a : Option Addr) (len cap : Nat) (w : World) (h : e.op = 1 ∨ e.op = 2 ∨ e.op = 3 ∨ e.op = 4) :
    Calls Tryd.prog 36 #[.agg #[.int .i64 e.op, .int .i64 e.ty, .int .i64 e.num, .string e.text, .int .i64 e.col, .slice a len cap]] w fun r w' => r = .returned (.agg #[.int .i64 (litV e.op e.num e.text).k, .int .i64 (litV e.op e.num e.text).n, .string (litV e.op e.num e.text).s]) ∧ Cls w w' := by
  rcases h with h | h | h | h
  all_goals
    rw [h]
    go_enter Tryd.func36, Tryd.ntmps36
    go_wp2_with fail
    refine ret_ex rfl ?_
    simp [results, Tryd.results36, go_sem]
    refine ⟨⟨rfl, rfl, rfl⟩, Cls.of ?_⟩
    repeat first | with_reducible exact Below.refl _ _ | with_reducible assumption | with_reducible refine Below.setCell ?_ (by first | omega | (simp; done) | (simp; omega)) _ | with_reducible refine Below.alloc ?_ (by first | omega | (simp; done) | (simp; omega)) _ | with_reducible refine Below.drew ?_ | with_reducible refine Ext.on _ ?_ (by first | omega | (simp; done) | (simp; omega))
/-- What Eval gives for e, whatever the row and the world. -/
def EvalOf (e : Ex) : Prop := ∀ (a : Option Addr) (len cap : Nat) (ok : Nat → Prop) (ra : Option Addr) (rlen rcap : Nat) (row : List Vl) (w : World), Kids w ok a len cap e.kids → e.fine → RowIs w ra rlen rcap row → OpsTab w →
    Calls Tryd.prog 13 #[.agg #[.int .i64 e.op, .int .i64 e.ty, .int .i64 e.num, .string e.text, .int .i64 e.col, .slice a len cap], .slice ra rlen rcap] w fun r w' => r = .returned (.agg #[.int .i64 (evalE e row).k, .int .i64 (evalE e row).n, .string (evalE e row).s]) ∧ Cls w w'
end Go.Proofs.YtpddkljedhghkaaDoor
