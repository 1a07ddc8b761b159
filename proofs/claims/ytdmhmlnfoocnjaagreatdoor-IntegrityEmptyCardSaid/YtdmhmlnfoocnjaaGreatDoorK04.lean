/-
  What arithmetic gives, of the program and of the reference, for all operations a.
-/
import Derived.Test.YtdmhmlnfoocnjaaGreatDoorK03
set_option linter.unusedVariables false
namespace Go.Proofs.YtdmhmlnfoocnjaaGreatDoor
open Go Go.RowKit

def fitB (n : Int) : Bool := decide (-1000000000000 ≤ n) && decide (n ≤ 1000000000000)
def numOk (op n n' : Int) : Bool := if op = 6 then fitB (n + n') else if op = 7 then fitB (n - n') else if op = 8 then mulOk n n' else if op = 9 then !(n' == 0) else if op = 10 then !(n' == 0) else false
def numV (op n n' : Int) : Int := if op = 6 then n + n' else if op = 7 then n - n' else if op = 8 then n * n' else if op = 9 then n.tdiv n' else n.tmod n'
def arOk (op k n : Int) (s : ByteArray) (k' n' : Int) (s' : ByteArray) : Bool :=
  vB k n s && vB k' n' s' && (if op = 12 then k == 3 && k' == 3 && textB (s ++ s') else k == 1 && k' == 1 && numOk op n n')
def arK (op k n : Int) (s : ByteArray) (k' n' : Int) (s' : ByteArray) : Int := if arOk op k n s k' n' s' = true then if op = 12 then 3 else 1 else 0
def arN (op k n : Int) (s : ByteArray) (k' n' : Int) (s' : ByteArray) : Int := if arOk op k n s k' n' s' = true then if op = 12 then 0 else numV op n n' else 0
def arS (op k n : Int) (s : ByteArray) (k' n' : Int) (s' : ByteArray) : ByteArray := if arOk op k n s k' n' s' = true then if op = 12 then s ++ s' else ⟨#[]⟩ else ⟨#[]⟩
def arV (op k n : Int) (s : ByteArray) (k' n' : Int) (s' : ByteArray) : Value := .agg #[.int .i64 (arK op k n s k' n' s'), .int .i64 (arN op k n s k' n' s'), .string (arS op k n s k' n' s')]
def nullV : Value := .agg #[.int .i64 0, .int .i64 0, .string ⟨#[]⟩]
theorem arV_no {op k n : Int} {s : ByteArray} {k' n' : Int} {s' : ByteArray} (h : arOk op k n s k' n' s' = false) : arV op k n s k' n' s' = nullV := by
  simp [arV, arK, arN, arS, h, nullV]
theorem arV_num {op k n : Int} {s : ByteArray} {k' n' : Int} {s' : ByteArray} (h : arOk op k n s k' n' s' = true) (h' : ¬ op = 12) : arV op k n s k' n' s' = .agg #[.int .i64 1, .int .i64 (numV op n n'), .string ⟨#[]⟩] := by
  simp [arV, arK, arN, arS, h, h']
theorem arV_text {k n : Int} {s : ByteArray} {k' n' : Int} {s' : ByteArray} (h : arOk 12 k n s k' n' s' = true) : arV 12 k n s k' n' s' = .agg #[.int .i64 3, .int .i64 0, .string (s ++ s')] := by
  simp [arV, arK, arN, arS, h]
theorem vB_num {n : Int} {s : ByteArray} (h : vB 1 n s = true) : -1000000000000 ≤ n ∧ n ≤ 1000000000000 := by simp [vB] at h; exact h.1
theorem vB_text {n : Int} {s : ByteArray} (h : vB 3 n s = true) : n = 0 ∧ s.size ≤ 24 := by simp [vB, textB] at h; exact ⟨h.1, h.2.1⟩
theorem vB_one (n : Int) : vB 1 n ⟨#[]⟩ = fitB n := by simp [vB, fitB]
theorem tdiv_bd {n n' : Int} (h : -1000000000000 ≤ n ∧ n ≤ 1000000000000) : -1000000000000 ≤ n.tdiv n' ∧ n.tdiv n' ≤ 1000000000000 := by
  have := Int.natAbs_tdiv_le_natAbs n n'
  omega
theorem tmod_bd {n n' : Int} (h : -1000000000000 ≤ n ∧ n ≤ 1000000000000) : -1000000000000 ≤ n.tmod n' ∧ n.tmod n' ≤ 1000000000000 := by
  have : (n.tmod n').natAbs ≤ n.natAbs := by rw [Int.natAbs_tmod]; exact Nat.mod_le _ _
  omega
theorem von_true (k n : Int) (s : ByteArray) (w : World) (hs : s.size ≤ maxLen) (h : vB k n s = true) :
    Calls Tryz.prog 162 #[.agg #[.int .i64 k, .int .i64 n, .string s]] w fun e w' => e = .returned (.agg #[.int .i64 k, .int .i64 n, .string s]) ∧ Cls w w' := by
  go_enter Tryz.func162, Tryz.ntmps162
  go_wp2_with (go_at_call 136; refine (Valid_calls _ _ _ _ hs).mono ?_; rintro e _ ⟨rfl, x, rfl⟩)
  refine ret_ex rfl ?_
  simp [results, Tryz.results162, go_sem]
  refine Cls.of ?_
  repeat first|with_reducible exact Below.refl _ _|with_reducible refine Below.setCell ?_ (by first|omega|(simp;done)|(simp;omega)) _|with_reducible refine Below.alloc ?_ (by first|omega|(simp;done)|(simp;omega)) _|with_reducible refine Below.drew ?_|with_reducible refine Ext.on _ ?_ (by first|omega|(simp;done)|(simp;omega))
theorem von_false (k n : Int) (s : ByteArray) (w : World) (hs : s.size ≤ maxLen) (h : vB k n s = false) :
    Calls Tryz.prog 162 #[.agg #[.int .i64 k, .int .i64 n, .string s]] w fun e w' => e = .returned (.agg #[.int .i64 0, .int .i64 0, .string ⟨#[]⟩]) ∧ Cls w w' := by
  go_enter Tryz.func162, Tryz.ntmps162
  go_wp2_with (go_at_call 136; refine (Valid_calls _ _ _ _ hs).mono ?_; rintro e _ ⟨rfl, x, rfl⟩)
  refine ret_ex rfl ?_
  simp [results, Tryz.results162, go_sem]
  refine Cls.of ?_
  repeat first|with_reducible exact Below.refl _ _|with_reducible refine Below.setCell ?_ (by first|omega|(simp;done)|(simp;omega)) _|with_reducible refine Below.alloc ?_ (by first|omega|(simp;done)|(simp;omega)) _|with_reducible refine Below.drew ?_|with_reducible refine Ext.on _ ?_ (by first|omega|(simp;done)|(simp;omega))
def compOk (op n n' : Int) : Bool := if op = 6 then true else if op = 7 then true else if op = 8 then mulOk n n' else if n' = 0 then false else if op = 9 then true else if op = 10 then true else false
def compV (op n n' : Int) : Int := if compOk op n n' = true then numV op n n' else 0
set_option maxHeartbeats 2000000 in
theorem compute_calls (op n n' : Int) (w : World) (h : -1000000000000 ≤ n ∧ n ≤ 1000000000000) (h' : -1000000000000 ≤ n' ∧ n' ≤ 1000000000000) :
    Calls Tryz.prog 161 #[.int .i64 op, .int .i64 n, .int .i64 n'] w fun e w' => e = .returned (.tuple #[.int .i64 (compV op n n'), .bool (compOk op n n')]) ∧ w = w' := by
  obtain ⟨q1, q2⟩ := tdiv_bd (n' := n') h
  obtain ⟨r1, r2⟩ := tmod_bd (n' := n') h
  have H := Lib.hid h
  have H' := Lib.hid h'
  obtain ⟨h1, h2⟩ := h
  obtain ⟨h3, h4⟩ := h'
  rcases Classical.em (n' = 0) with hz | hz
  · subst hz
    clear q1 q2 r1 r2
    go_enter Tryz.func161, Tryz.ntmps161
    go_wp2_with (go_at_call 167; refine (mult_calls _ _ _ H.out H'.out).mono ?_; rintro e _ ⟨rfl, rfl⟩)
    all_goals
      go_ret2
      refine ⟨ret_pair ?_ ?_, rfl⟩
    all_goals simp_all [compV, compOk, numV]
  · go_enter Tryz.func161, Tryz.ntmps161
    go_wp2_with (go_at_call 167; refine (mult_calls _ _ _ H.out H'.out).mono ?_; rintro e _ ⟨rfl, rfl⟩)
    all_goals
      go_ret2
      refine ⟨ret_pair ?_ ?_, rfl⟩
    all_goals simp_all [compV, compOk, numV]
theorem Valid_is (k n : Int) (s : ByteArray) (b : Bool) (w : World) (hs : s.size ≤ maxLen) (h : vB k n s = b) :
    Calls Tryz.prog 136 #[.agg #[.int .i64 k, .int .i64 n, .string s]] w fun e w' => e = .returned (.bool b) ∧ Cls w w' := by
  subst h; exact Valid_calls k n s w hs
set_option maxHeartbeats 1000000 in
theorem concat_kinds (k n : Int) (s : ByteArray) (k' n' : Int) (s' : ByteArray) (w : World) (h : ((k != 3) || (k' != 3)) = true) :
    Calls Tryz.prog 160 #[.agg #[.int .i64 k, .int .i64 n, .string s], .agg #[.int .i64 k', .int .i64 n', .string s']] w fun e w' => e = .returned (.agg #[.int .i64 0, .int .i64 0, .string ⟨#[]⟩]) ∧ Cls w w' := by
  cases h1 : k != 3
  · have h2 : (k' != 3) = true := by simpa [h1] using h
    clear h
    go_enter Tryz.func160, Tryz.ntmps160
    go_wp2_with (first | fail)
    refine ret_ex rfl ?_
    simp [results, Tryz.results160, go_sem]
    refine Cls.of ?_
    repeat first|with_reducible exact Below.refl _ _|with_reducible refine Below.setCell ?_ (by first|omega|(simp;done)|(simp;omega)) _|with_reducible refine Below.alloc ?_ (by first|omega|(simp;done)|(simp;omega)) _|with_reducible refine Below.drew ?_|with_reducible refine Ext.on _ ?_ (by first|omega|(simp;done)|(simp;omega))
  · clear h
    go_enter Tryz.func160, Tryz.ntmps160
    go_wp2_with (first | fail)
    refine ret_ex rfl ?_
    simp [results, Tryz.results160, go_sem]
    refine Cls.of ?_
    repeat first|with_reducible exact Below.refl _ _|with_reducible refine Below.setCell ?_ (by first|omega|(simp;done)|(simp;omega)) _|with_reducible refine Below.alloc ?_ (by first|omega|(simp;done)|(simp;omega)) _|with_reducible refine Below.drew ?_|with_reducible refine Ext.on _ ?_ (by first|omega|(simp;done)|(simp;omega))
theorem concat_true (n : Int) (s : ByteArray) (n' : Int) (s' : ByteArray) (w : World) (h1 : s.size ≤ 24) (h2 : s'.size ≤ 24) (h : vB 3 0 (s ++ s') = true) :
    Calls Tryz.prog 160 #[.agg #[.int .i64 3, .int .i64 n, .string s], .agg #[.int .i64 3, .int .i64 n', .string s']] w fun e w' => e = .returned (.agg #[.int .i64 3, .int .i64 0, .string (s ++ s')]) ∧ Cls w w' := by
  have hz : (s ++ s').size ≤ maxLen := by rw [ByteArray.size_append]; unfold maxLen; omega
  have hz2 : (s ++ s').size ≤ 48 := by rw [ByteArray.size_append]; omega
  have HV := Lib.hid h
  clear h
  go_enter Tryz.func160, Tryz.ntmps160
  go_wp2_with (go_at_call 162; refine (von_true _ _ _ _ hz HV.out).mono ?_; rintro e _ ⟨rfl, x, rfl⟩)
  refine ret_ex rfl ?_
  simp [results, Tryz.results160, go_sem]
  refine Cls.of ?_
  repeat first|with_reducible exact Below.refl _ _|with_reducible refine Below.setCell ?_ (by first|omega|(simp;done)|(simp;omega)) _|with_reducible refine Below.alloc ?_ (by first|omega|(simp;done)|(simp;omega)) _|with_reducible refine Below.drew ?_|with_reducible refine Ext.on _ ?_ (by first|omega|(simp;done)|(simp;omega))
theorem concat_false (n : Int) (s : ByteArray) (n' : Int) (s' : ByteArray) (w : World) (h1 : s.size ≤ 24) (h2 : s'.size ≤ 24) (h : vB 3 0 (s ++ s') = false) :
    Calls Tryz.prog 160 #[.agg #[.int .i64 3, .int .i64 n, .string s], .agg #[.int .i64 3, .int .i64 n', .string s']] w fun e w' => e = .returned (.agg #[.int .i64 0, .int .i64 0, .string ⟨#[]⟩]) ∧ Cls w w' := by
  have hz : (s ++ s').size ≤ maxLen := by rw [ByteArray.size_append]; unfold maxLen; omega
  have hz2 : (s ++ s').size ≤ 48 := by rw [ByteArray.size_append]; omega
  have HV := Lib.hid h
  clear h
  go_enter Tryz.func160, Tryz.ntmps160
  go_wp2_with (go_at_call 162; refine (von_false _ _ _ _ hz HV.out).mono ?_; rintro e _ ⟨rfl, x, rfl⟩)
  refine ret_ex rfl ?_
  simp [results, Tryz.results160, go_sem]
  refine Cls.of ?_
  repeat first|with_reducible exact Below.refl _ _|with_reducible refine Below.setCell ?_ (by first|omega|(simp;done)|(simp;omega)) _|with_reducible refine Below.alloc ?_ (by first|omega|(simp;done)|(simp;omega)) _|with_reducible refine Below.drew ?_|with_reducible refine Ext.on _ ?_ (by first|omega|(simp;done)|(simp;omega))
set_option maxHeartbeats 1000000 in
theorem Arith_invalid (op k n : Int) (s : ByteArray) (k' n' : Int) (s' : ByteArray) (w : World) (hs : s.size ≤ maxLen) (hs' : s'.size ≤ maxLen) (h : vB k n s = false ∨ vB k' n' s' = false) :
    Calls Tryz.prog 141 #[.int .i64 op, .agg #[.int .i64 k, .int .i64 n, .string s], .agg #[.int .i64 k', .int .i64 n', .string s']] w fun e w' => e = .returned (.agg #[.int .i64 0, .int .i64 0, .string ⟨#[]⟩]) ∧ Cls w w' := by
  cases hv : vB k n s
  · have HV := Lib.hid hv
    clear hv h
    go_enter Tryz.func141, Tryz.ntmps141
    go_wp2_with (first | (go_at_call 136; first | ((with_reducible refine (Cls.call (Valid_is _ _ _ _ _ hs HV.out)).mono ?_); rintro e _ ⟨rfl, y, rfl⟩) | ((with_reducible refine (Valid_is _ _ _ _ _ hs HV.out).mono ?_); rintro e _ ⟨rfl, y, rfl⟩)))
    refine ret_ex rfl ?_
    simp [results, Tryz.results141, go_sem]
    refine Cls.of ?_
    repeat first|with_reducible exact Below.refl _ _|with_reducible refine Below.setCell ?_ (by first|omega|(simp;done)|(simp;omega)) _|with_reducible refine Below.alloc ?_ (by first|omega|(simp;done)|(simp;omega)) _|with_reducible refine Below.drew ?_|with_reducible refine Ext.on _ ?_ (by first|omega|(simp;done)|(simp;omega))
  · have hv' : vB k' n' s' = false := by simpa [hv] using h
    have HV := Lib.hid hv
    have HV' := Lib.hid hv'
    clear hv hv' h
    go_enter Tryz.func141, Tryz.ntmps141
    go_wp2_with (first | (go_at_call 136; first | ((with_reducible refine (Cls.call (Valid_is _ _ _ _ _ hs HV.out)).mono ?_); rintro e _ ⟨rfl, y, rfl⟩) | ((with_reducible refine (Valid_is _ _ _ _ _ hs HV.out).mono ?_); rintro e _ ⟨rfl, y, rfl⟩)) | (go_at_call 136; first | ((with_reducible refine (Cls.call (Valid_is _ _ _ _ _ hs' HV'.out)).mono ?_); rintro e _ ⟨rfl, y, rfl⟩) | ((with_reducible refine (Valid_is _ _ _ _ _ hs' HV'.out).mono ?_); rintro e _ ⟨rfl, y, rfl⟩)))
    refine ret_ex rfl ?_
    simp [results, Tryz.results141, go_sem]
    refine Cls.of ?_
    repeat first|with_reducible exact Below.refl _ _|with_reducible refine Below.setCell ?_ (by first|omega|(simp;done)|(simp;omega)) _|with_reducible refine Below.alloc ?_ (by first|omega|(simp;done)|(simp;omega)) _|with_reducible refine Below.drew ?_|with_reducible refine Ext.on _ ?_ (by first|omega|(simp;done)|(simp;omega))
set_option maxHeartbeats 1000000 in
theorem Arith_kinds (op k n : Int) (s : ByteArray) (k' n' : Int) (s' : ByteArray) (w : World) (hs : s.size ≤ maxLen) (hs' : s'.size ≤ maxLen) (hv : vB k n s = true) (hv' : vB k' n' s' = true) (h : if op = 12 then ¬ (k = 3 ∧ k' = 3) else ¬ (k = 1 ∧ k' = 1)) :
    Calls Tryz.prog 141 #[.int .i64 op, .agg #[.int .i64 k, .int .i64 n, .string s], .agg #[.int .i64 k', .int .i64 n', .string s']] w fun e w' => e = .returned (.agg #[.int .i64 0, .int .i64 0, .string ⟨#[]⟩]) ∧ Cls w w' := by
  have HV := Lib.hid hv
  have HV' := Lib.hid hv'
  clear hv hv'
  by_cases ho : op = 12
  · subst ho
    simp only [if_true] at h
    by_cases hk : k = 3
    · have hk' : (k' == 3) = false := by simp; omega
      have hk2 : (k' != 3) = true := by simp [bne, hk']
      clear h
      subst hk
      go_enter Tryz.func141, Tryz.ntmps141
      go_wp2_with (first | (go_at_call 136; first | ((with_reducible refine (Cls.call (Valid_is _ _ _ _ _ hs HV.out)).mono ?_); rintro e _ ⟨rfl, y, rfl⟩) | ((with_reducible refine (Valid_is _ _ _ _ _ hs HV.out).mono ?_); rintro e _ ⟨rfl, y, rfl⟩)) | (go_at_call 136; first | ((with_reducible refine (Cls.call (Valid_is _ _ _ _ _ hs' HV'.out)).mono ?_); rintro e _ ⟨rfl, y, rfl⟩) | ((with_reducible refine (Valid_is _ _ _ _ _ hs' HV'.out).mono ?_); rintro e _ ⟨rfl, y, rfl⟩)) | (go_at_call 160; first | ((with_reducible refine (Cls.call (concat_kinds _ _ _ _ _ _ _ (by simp [hk2]))).mono ?_); rintro e _ ⟨rfl, y, rfl⟩) | ((with_reducible refine (concat_kinds _ _ _ _ _ _ _ (by simp [hk2])).mono ?_); rintro e _ ⟨rfl, y, rfl⟩)))
      refine ret_ex rfl ?_
      simp [results, Tryz.results141, go_sem]
      refine Cls.of ?_
      repeat first|with_reducible exact Below.refl _ _|with_reducible refine Below.setCell ?_ (by first|omega|(simp;done)|(simp;omega)) _|with_reducible refine Below.alloc ?_ (by first|omega|(simp;done)|(simp;omega)) _|with_reducible refine Below.drew ?_|with_reducible refine Ext.on _ ?_ (by first|omega|(simp;done)|(simp;omega))
    · have hk' : (k == 3) = false := by simp; omega
      have hk2 : (k != 3) = true := by simp [bne, hk']
      clear h hk
      go_enter Tryz.func141, Tryz.ntmps141
      go_wp2_with (first | (go_at_call 136; first | ((with_reducible refine (Cls.call (Valid_is _ _ _ _ _ hs HV.out)).mono ?_); rintro e _ ⟨rfl, y, rfl⟩) | ((with_reducible refine (Valid_is _ _ _ _ _ hs HV.out).mono ?_); rintro e _ ⟨rfl, y, rfl⟩)) | (go_at_call 136; first | ((with_reducible refine (Cls.call (Valid_is _ _ _ _ _ hs' HV'.out)).mono ?_); rintro e _ ⟨rfl, y, rfl⟩) | ((with_reducible refine (Valid_is _ _ _ _ _ hs' HV'.out).mono ?_); rintro e _ ⟨rfl, y, rfl⟩)) | (go_at_call 160; first | ((with_reducible refine (Cls.call (concat_kinds _ _ _ _ _ _ _ (by simp [hk2]))).mono ?_); rintro e _ ⟨rfl, y, rfl⟩) | ((with_reducible refine (concat_kinds _ _ _ _ _ _ _ (by simp [hk2])).mono ?_); rintro e _ ⟨rfl, y, rfl⟩)))
      refine ret_ex rfl ?_
      simp [results, Tryz.results141, go_sem]
      refine Cls.of ?_
      repeat first|with_reducible exact Below.refl _ _|with_reducible refine Below.setCell ?_ (by first|omega|(simp;done)|(simp;omega)) _|with_reducible refine Below.alloc ?_ (by first|omega|(simp;done)|(simp;omega)) _|with_reducible refine Below.drew ?_|with_reducible refine Ext.on _ ?_ (by first|omega|(simp;done)|(simp;omega))
  · rw [if_neg ho] at h
    have ho' : (op == 12) = false := by simpa using ho
    clear ho
    by_cases hk : k = 1
    · have hk' : (k' == 1) = false := by simp; omega
      have hk2 : (k' != 1) = true := by simp [bne, hk']
      clear h
      subst hk
      go_enter Tryz.func141, Tryz.ntmps141
      go_wp2_with (first | (go_at_call 136; first | ((with_reducible refine (Cls.call (Valid_is _ _ _ _ _ hs HV.out)).mono ?_); rintro e _ ⟨rfl, y, rfl⟩) | ((with_reducible refine (Valid_is _ _ _ _ _ hs HV.out).mono ?_); rintro e _ ⟨rfl, y, rfl⟩)) | (go_at_call 136; first | ((with_reducible refine (Cls.call (Valid_is _ _ _ _ _ hs' HV'.out)).mono ?_); rintro e _ ⟨rfl, y, rfl⟩) | ((with_reducible refine (Valid_is _ _ _ _ _ hs' HV'.out).mono ?_); rintro e _ ⟨rfl, y, rfl⟩)))
      refine ret_ex rfl ?_
      simp [results, Tryz.results141, go_sem]
      refine Cls.of ?_
      repeat first|with_reducible exact Below.refl _ _|with_reducible refine Below.setCell ?_ (by first|omega|(simp;done)|(simp;omega)) _|with_reducible refine Below.alloc ?_ (by first|omega|(simp;done)|(simp;omega)) _|with_reducible refine Below.drew ?_|with_reducible refine Ext.on _ ?_ (by first|omega|(simp;done)|(simp;omega))
    · have hk' : (k == 1) = false := by simp; omega
      have hk2 : (k != 1) = true := by simp [bne, hk']
      clear h hk
      go_enter Tryz.func141, Tryz.ntmps141
      go_wp2_with (first | (go_at_call 136; first | ((with_reducible refine (Cls.call (Valid_is _ _ _ _ _ hs HV.out)).mono ?_); rintro e _ ⟨rfl, y, rfl⟩) | ((with_reducible refine (Valid_is _ _ _ _ _ hs HV.out).mono ?_); rintro e _ ⟨rfl, y, rfl⟩)) | (go_at_call 136; first | ((with_reducible refine (Cls.call (Valid_is _ _ _ _ _ hs' HV'.out)).mono ?_); rintro e _ ⟨rfl, y, rfl⟩) | ((with_reducible refine (Valid_is _ _ _ _ _ hs' HV'.out).mono ?_); rintro e _ ⟨rfl, y, rfl⟩)))
      refine ret_ex rfl ?_
      simp [results, Tryz.results141, go_sem]
      refine Cls.of ?_
      repeat first|with_reducible exact Below.refl _ _|with_reducible refine Below.setCell ?_ (by first|omega|(simp;done)|(simp;omega)) _|with_reducible refine Below.alloc ?_ (by first|omega|(simp;done)|(simp;omega)) _|with_reducible refine Below.drew ?_|with_reducible refine Ext.on _ ?_ (by first|omega|(simp;done)|(simp;omega))
end Go.Proofs.YtdmhmlnfoocnjaaGreatDoor
