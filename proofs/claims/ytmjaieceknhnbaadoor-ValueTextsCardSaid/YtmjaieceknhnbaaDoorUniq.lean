/-
  The texts of valid values are different: which value a text belongs to.
-/
import Derived.Test.YtmjaieceknhnbaaDoorText
set_option linter.unusedVariables false
namespace Go.Proofs.YtmjaieceknhnbaaDoor
open Go Go.RowKit Lib
theorem no_bytes {s : ByteArray} (h : s.toList.isEmpty = true) : s = ByteArray.empty := by
  rcases Nat.eq_zero_or_pos s.size with h0 | h0
  · apply ByteArray.ext
    have : s.data.size = 0 := h0
    exact Array.eq_empty_of_size_eq_zero this
  · exfalso
    unfold ByteArray.toList at h
    rw [ByteArray.toList.loop] at h
    simp [h0] at h
    have : ∀ (i : Nat) (r : List UInt8), r ≠ [] → (ByteArray.toList.loop s i r) ≠ [] := by
      intro i r hr
      fun_induction ByteArray.toList.loop s i r with
      | case1 i r h ih => exact ih (by simp)
      | case2 i r h => simpa using hr
    exact this _ _ (by simp) h
theorem v_cases {k n : Int} {s : ByteArray} (h : vB k n s = true) :
    (k = 0 ∧ n = 0 ∧ s = ByteArray.empty ∧ txt k n s = [110, 117, 108, 108]) ∨
    (k = 1 ∧ (-1000000000000 ≤ n ∧ n ≤ 1000000000000) ∧ s = ByteArray.empty ∧ txt k n s = itoa n) ∨
    (k = 2 ∧ n = 0 ∧ s = ByteArray.empty ∧ txt k n s = [102, 97, 108, 115, 101]) ∨
    (k = 2 ∧ n = 1 ∧ s = ByteArray.empty ∧ txt k n s = [116, 114, 117, 101]) ∨
    (k = 3 ∧ n = 0 ∧ s.size ≤ 24 ∧ txt k n s = 39 :: s.data.toList ++ [39]) := by
  have ht : txt k n s = txt k n s := rfl
  conv at ht => rhs; unfold txt
  rw [if_pos h] at ht
  unfold vB at h
  split at h
  · rename_i h0; subst h0
    simp only [Bool.and_eq_true, beq_iff_eq] at h
    exact .inl ⟨rfl, h.1, no_bytes h.2, by simpa using ht⟩
  · split at h
    · rename_i h0; subst h0
      simp only [Bool.and_eq_true, decide_eq_true_eq] at h
      exact .inr (.inl ⟨rfl, h.1, no_bytes h.2, by simpa using ht⟩)
    · split at h
      · rename_i h0; subst h0
        simp only [Bool.and_eq_true, Bool.or_eq_true, beq_iff_eq] at h
        rcases h with ⟨rfl | rfl, h⟩
        · exact .inr (.inr (.inl ⟨rfl, rfl, no_bytes h, by simpa using ht⟩))
        · exact .inr (.inr (.inr (.inl ⟨rfl, rfl, no_bytes h, by simpa using ht⟩)))
      · split at h
        · rename_i h0; subst h0
          simp only [Bool.and_eq_true, beq_iff_eq, textB, decide_eq_true_eq] at h
          exact .inr (.inr (.inr (.inr ⟨rfl, h.1, h.2.1, by simpa using ht⟩)))
        · simp at h
theorem itoa_head (n : Int) : ∃ c r, itoa n = c :: r ∧ (c = 45 ∨ isDig c) := by
  unfold itoa
  split
  · exact ⟨_, _, rfl, .inl rfl⟩
  · cases h : decDigits n.toNat with
    | nil => exact absurd h (decDigits_ne _)
    | cons c r => exact ⟨c, r, rfl, .inr (head_dig h)⟩
theorem itoa_no {n : Int} {c : UInt8} {r : List UInt8} (h : itoa n = c :: r) : c = 45 ∨ isDig c := by
  obtain ⟨c', r', h', hc⟩ := itoa_head n
  rw [h'] at h
  obtain ⟨rfl, _⟩ := List.cons.inj h
  exact hc
theorem itoa_not {n : Int} {c : UInt8} {r : List UInt8} (hc : ¬ (c = 45 ∨ isDig c)) : itoa n ≠ c :: r := fun h => hc (itoa_no h)
theorem no110 : ¬ ((110 : UInt8) = 45 ∨ isDig 110) := by unfold isDig; decide
theorem no102 : ¬ ((102 : UInt8) = 45 ∨ isDig 102) := by unfold isDig; decide
theorem no116 : ¬ ((116 : UInt8) = 45 ∨ isDig 116) := by unfold isDig; decide
theorem no39 : ¬ ((39 : UInt8) = 45 ∨ isDig 39) := by unfold isDig; decide
/-- A text belongs to one valid value. -/
theorem txt_inj {k n k' n' : Int} {s s' : ByteArray} (h : vB k n s = true) (h' : vB k' n' s' = true) (e : txt k n s = txt k' n' s') : k = k' ∧ n = n' ∧ s = s' := by
  rcases v_cases h with ⟨rfl, h1, h2, h3⟩ | ⟨rfl, h1, h2, h3⟩ | ⟨rfl, h1, h2, h3⟩ | ⟨rfl, h1, h2, h3⟩ | ⟨rfl, h1, h2, h3⟩ <;>
  rcases v_cases h' with ⟨rfl, g1, g2, g3⟩ | ⟨rfl, g1, g2, g3⟩ | ⟨rfl, g1, g2, g3⟩ | ⟨rfl, g1, g2, g3⟩ | ⟨rfl, g1, g2, g3⟩ <;>
  rw [h3, g3] at e <;>
  first
  | (exfalso; simp at e; done)
  | exact ⟨rfl, by rw [h1, g1], by rw [h2, g2]⟩
  | exact ⟨rfl, itoa_inj e, by rw [h2, g2]⟩
  | exact absurd e (itoa_not no110)
  | exact absurd e (itoa_not no102)
  | exact absurd e (itoa_not no116)
  | exact absurd e (itoa_not no39)
  | exact absurd e.symm (itoa_not no110)
  | exact absurd e.symm (itoa_not no102)
  | exact absurd e.symm (itoa_not no116)
  | exact absurd e.symm (itoa_not no39)
  | (exfalso; simp at e; done)
  | (refine ⟨rfl, by rw [h1, g1], ?_⟩; simp at e; exact ByteArray.ext (Array.toList_inj.mp e))
  | (refine ⟨rfl, by rw [h1, g1], ?_⟩; simp at e; exact ByteArray.ext e)
end Go.Proofs.YtmjaieceknhnbaaDoor
