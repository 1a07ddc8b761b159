/-
  What Arith gives, of the program and of the reference, for all operations and values: the same value, which is valid.
-/
import Derived.Test.YtkmpaonakhfcjaaDoorArith2
set_option linter.unusedVariables false
namespace Go.Proofs.YtkmpaonakhfcjaaDoor
open Go Go.RowKit

theorem vB_three (s : ByteArray) : vB 3 0 s = textB s := by simp [vB]
theorem arOk_bad {op k n : Int} {s : ByteArray} {k' n' : Int} {s' : ByteArray} (h : vB k n s = false ∨ vB k' n' s' = false) : arOk op k n s k' n' s' = false := by
  rcases h with h | h <;> simp [arOk, h]
theorem arOk_kinds {op k n : Int} {s : ByteArray} {k' n' : Int} {s' : ByteArray} (h : if op = 12 then ¬ (k = 3 ∧ k' = 3) else ¬ (k = 1 ∧ k' = 1)) : arOk op k n s k' n' s' = false := by
  by_cases ho : op = 12
  · simp only [ho, if_true] at h
    have : (k == 3 && k' == 3) = false := by
      cases h1 : k == 3 <;> cases h2 : k' == 3 <;> simp_all
    simp [arOk, ho, this]
  · rw [if_neg ho] at h
    have : (k == 1 && k' == 1) = false := by
      cases h1 : k == 1 <;> cases h2 : k' == 1 <;> simp_all
    simp [arOk, ho, this]
theorem arOk_text {n : Int} {s : ByteArray} {n' : Int} {s' : ByteArray} (hv : vB 3 n s = true) (hv' : vB 3 n' s' = true) : arOk 12 3 n s 3 n' s' = vB 3 0 (s ++ s') := by simp [arOk, hv, hv', vB_three]
theorem arOk_num {op n : Int} {s : ByteArray} {n' : Int} {s' : ByteArray} (hv : vB 1 n s = true) (hv' : vB 1 n' s' = true) (ho : ¬ op = 12) : arOk op 1 n s 1 n' s' = numOk op n n' := by simp [arOk, hv, hv', ho]
theorem arV_num' {op n : Int} {s : ByteArray} {n' : Int} {s' : ByteArray} (hv : vB 1 n s = true) (hv' : vB 1 n' s' = true) (ho : ¬ op = 12) (h : numOk op n n' = true) :
    arV op 1 n s 1 n' s' = .agg #[.int .i64 1, .int .i64 (numV op n n'), .string ⟨#[]⟩] := arV_num (by rw [arOk_num hv hv' ho]; exact h) ho
theorem arV_none {op n : Int} {s : ByteArray} {n' : Int} {s' : ByteArray} (hv : vB 1 n s = true) (hv' : vB 1 n' s' = true) (ho : ¬ op = 12) (h : numOk op n n' = false) :
    arV op 1 n s 1 n' s' = nullV := arV_no (by rw [arOk_num hv hv' ho]; exact h)

theorem Arith_calls (op k n : Int) (s : ByteArray) (k' n' : Int) (s' : ByteArray) (w : World) (hs : s.size ≤ maxLen) (hs' : s'.size ≤ maxLen) :
    Calls Tryd.prog 76 #[.int .i64 op, .agg #[.int .i64 k, .int .i64 n, .string s], .agg #[.int .i64 k', .int .i64 n', .string s']] w fun e w' =>
      e = .returned (.agg #[.int .i64 (arK op k n s k' n' s'), .int .i64 (arN op k n s k' n' s'), .string (arS op k n s k' n' s')]) ∧ Cls w w' := by
  show Calls _ _ _ w fun e w' => e = .returned (arV op k n s k' n' s') ∧ Cls w w'
  by_cases hv : vB k n s = true ∧ vB k' n' s' = true
  · obtain ⟨hv, hv'⟩ := hv
    by_cases hk : if op = 12 then ¬ (k = 3 ∧ k' = 3) else ¬ (k = 1 ∧ k' = 1)
    · rw [arV_no (arOk_kinds hk)]; exact Arith_kinds op k n s k' n' s' w hs hs' hv hv' hk
    · by_cases ho : op = 12
      · subst ho
        simp only [if_true, Classical.not_not] at hk
        obtain ⟨rfl, rfl⟩ := hk
        cases hc : vB 3 0 (s ++ s')
        · rw [arV_no (by rw [arOk_text hv hv']; exact hc)]; exact Arith_text_false n s n' s' w hs hs' hv hv' hc
        · rw [arV_text (by rw [arOk_text hv hv']; exact hc)]; exact Arith_text_true n s n' s' w hs hs' hv hv' hc
      · rw [if_neg ho, Classical.not_not] at hk
        obtain ⟨rfl, rfl⟩ := hk
        have he := numOk_eq op n n' (vB_num hv)
        cases hc : compOk op n n'
        · rw [arV_none hv hv' ho (by rw [he, hc]; rfl)]; exact Arith_num_none op n s n' s' w hs hs' hv hv' ho hc
        · have hcv : compV op n n' = numV op n n' := by simp [compV, hc]
          cases hf : fitB (compV op n n')
          · rw [arV_none hv hv' ho (by rw [he, ← hcv, hf, hc]; rfl)]; exact Arith_num_far op n s n' s' w hs hs' hv hv' ho hc hf
          · rw [arV_num' hv hv' ho (by rw [he, ← hcv, hf, hc]; rfl), ← hcv]; exact Arith_num_fits op n s n' s' w hs hs' hv hv' ho hc hf
  · have h : vB k n s = false ∨ vB k' n' s' = false := by
      cases h1 : vB k n s <;> cases h2 : vB k' n' s' <;> simp_all
    rw [arV_no (arOk_bad h)]; exact Arith_invalid op k n s k' n' s' w hs hs' h

theorem rArith_calls (op k n : Int) (s : ByteArray) (k' n' : Int) (s' : ByteArray) (w : World) (hs : s.size ≤ maxLen) (hs' : s'.size ≤ maxLen) :
    Calls Tryd.prog 40 #[.int .i64 op, .agg #[.int .i64 k, .int .i64 n, .string s], .agg #[.int .i64 k', .int .i64 n', .string s']] w fun e w' =>
      e = .returned (.agg #[.int .i64 (arK op k n s k' n' s'), .int .i64 (arN op k n s k' n' s'), .string (arS op k n s k' n' s')]) ∧ Cls w w' := by
  show Calls _ _ _ w fun e w' => e = .returned (arV op k n s k' n' s') ∧ Cls w w'
  by_cases hv : vB k n s = true ∧ vB k' n' s' = true
  · obtain ⟨hv, hv'⟩ := hv
    by_cases hk : if op = 12 then ¬ (k = 3 ∧ k' = 3) else ¬ (k = 1 ∧ k' = 1)
    · rw [arV_no (arOk_kinds hk)]; exact rArith_kinds op k n s k' n' s' w hs hs' hv hv' hk
    · by_cases ho : op = 12
      · subst ho
        simp only [if_true, Classical.not_not] at hk
        obtain ⟨rfl, rfl⟩ := hk
        cases hc : vB 3 0 (s ++ s')
        · rw [arV_no (by rw [arOk_text hv hv']; exact hc)]; exact rArith_text_false n s n' s' w hs hs' hv hv' hc
        · rw [arV_text (by rw [arOk_text hv hv']; exact hc)]; exact rArith_text_true n s n' s' w hs hs' hv hv' hc
      · rw [if_neg ho, Classical.not_not] at hk
        obtain ⟨rfl, rfl⟩ := hk
        by_cases h6 : op = 6
        · subst h6
          cases hf : fitB (n + n')
          · rw [arV_none hv hv' ho (by simp [numOk, hf])]; exact rArith_add_false n s n' s' w hs hs' hv hv' hf
          · rw [arV_num' hv hv' ho (by simp [numOk, hf])]; exact rArith_add_true n s n' s' w hs hs' hv hv' hf
        · by_cases h7 : op = 7
          · subst h7
            cases hf : fitB (n - n')
            · rw [arV_none hv hv' ho (by simp [numOk, hf])]; exact rArith_sub_false n s n' s' w hs hs' hv hv' hf
            · rw [arV_num' hv hv' ho (by simp [numOk, hf])]; exact rArith_sub_true n s n' s' w hs hs' hv hv' hf
          · by_cases h8 : op = 8
            · subst h8
              cases hf : mulOk n n'
              · rw [arV_none hv hv' ho (by simp [numOk, hf])]; exact rArith_mul_false n s n' s' w hs hs' hv hv' hf
              · rw [arV_num' hv hv' ho (by simp [numOk, hf])]; exact rArith_mul_true n s n' s' w hs hs' hv hv' hf
            · by_cases h9 : op = 9
              · subst h9
                by_cases hz : n' = 0
                · subst hz; rw [arV_none hv hv' ho (by simp [numOk])]; exact rArith_div_zero n s s' w hs hs' hv hv'
                · rw [arV_num' hv hv' ho (by simp [numOk, hz])]; exact rArith_div n s n' s' w hs hs' hv hv' hz
              · by_cases h10 : op = 10
                · subst h10
                  by_cases hz : n' = 0
                  · subst hz; rw [arV_none hv hv' ho (by simp [numOk])]; exact rArith_mod_zero n s s' w hs hs' hv hv'
                  · rw [arV_num' hv hv' ho (by simp [numOk, hz])]; exact rArith_mod n s n' s' w hs hs' hv hv' hz
                · rw [arV_none hv hv' ho (by simp [numOk, h6, h7, h8, h9, h10])]; exact rArith_other op n s n' s' w hs hs' hv hv' ho h6 h7 h8 h9 h10
  · have h : vB k n s = false ∨ vB k' n' s' = false := by
      cases h1 : vB k n s <;> cases h2 : vB k' n' s' <;> simp_all
    rw [arV_no (arOk_bad h)]; exact rArith_invalid op k n s k' n' s' w hs hs' h

/-- Whatever comes out is valid. -/
theorem ar_valid (op k n : Int) (s : ByteArray) (k' n' : Int) (s' : ByteArray) : vB (arK op k n s k' n' s') (arN op k n s k' n' s') (arS op k n s k' n' s') = true := by
  cases h : arOk op k n s k' n' s'
  · simp [arK, arN, arS, h, vB]
  · by_cases ho : op = 12
    · subst ho
      have h2 := h
      simp [arOk] at h2
      obtain ⟨_, ⟨rfl, rfl⟩, ht⟩ := h2
      simp only [arK, arN, arS, h, if_true]
      rw [vB_three]
      exact ht
    · have h2 := h
      simp only [arOk, ho, if_false, Bool.and_eq_true, beq_iff_eq] at h2
      obtain ⟨⟨h3, _⟩, ⟨rfl, rfl⟩, h4⟩ := h2
      rw [numOk_eq op n n' (vB_num h3), Bool.and_eq_true] at h4
      have h5 := h4.2
      simp only [arK, arN, arS, h, ho, if_true, if_false]
      rw [vB_one]
      exact h5
theorem arS_size {op k n : Int} {s : ByteArray} {k' n' : Int} {s' : ByteArray} : (arS op k n s k' n' s').size ≤ maxLen := by
  have h := ar_valid op k n s k' n' s'
  cases h1 : arOk op k n s k' n' s'
  · simp only [arS, h1, Bool.false_eq_true, if_false]; exact Nat.zero_le _
  · by_cases ho : op = 12
    · subst ho
      have : arK 12 k n s k' n' s' = 3 := by simp [arK, h1]
      rw [this] at h
      have := (vB_text h).2
      unfold maxLen; omega
    · simp only [arS, h1, ho, if_true, if_false]; exact Nat.zero_le _
end Go.Proofs.YtkmpaonakhfcjaaDoor
