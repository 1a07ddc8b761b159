/-
  Plain functions on the numbers and texts of values: truths, and what logic gives. Nothing of the program is imported.
-/
import Derived.RowKit3
import Derived.Lib.Strings
namespace Go.Proofs.Ytihdfomkphbdnaa
open Go

/-- The truth of a value with this kind and number. -/
def truT (k n : Int) : Int := if k = 2 then if n = 1 then 1 else 0 else 2
/-- Kind and number of the truth value t, null for any other number. -/
def tvK (t : Int) : Int := if t = 0 then 2 else if t = 1 then 2 else 0
def tvN (t : Int) : Int := if t = 1 then 1 else 0
def andT (a b : Int) : Int := if a = 0 then 0 else if b = 0 then 0 else if a = 2 then 2 else if b = 2 then 2 else 1
def orT (a b : Int) : Int := if a = 1 then 1 else if b = 1 then 1 else if a = 2 then 2 else if b = 2 then 2 else 0
def notT (a : Int) : Int := if a = 0 then 1 else if a = 1 then 0 else 2

theorem truT_cases (k n : Int) : truT k n = 0 ∨ truT k n = 1 ∨ truT k n = 2 := by
  unfold truT; split <;> (try split) <;> simp
theorem truT_tv (t : Int) : truT (tvK t) (tvN t) = if t = 0 then 0 else if t = 1 then 1 else 2 := by
  unfold truT tvK tvN; split <;> split <;> simp_all

/-! ### The order of values -/
def cmpI (a b : Int) : Int := if a < b then -1 else if b < a then 1 else 0
def cmpS (s t : ByteArray) : Int := if Op.bytesLess s.toList t.toList = true then -1 else if s.toList = t.toList then 0 else 1
def cmpV (k n : Int) (s : ByteArray) (k' n' : Int) (s' : ByteArray) : Int := if k = k' then if n = n' then cmpS s s' else cmpI n n' else cmpI k k'

theorem toList_inj {s t : ByteArray} (h : s.toList = t.toList) : s = t := by
  rw [Lib.toList_data, Lib.toList_data] at h
  cases s; cases t; simpa [← Array.toList_inj] using h
theorem less_eq (x : List UInt8) : ∀ y, Op.bytesLess x y = decide (x < y) := by
  induction x with
  | nil => intro y; cases y <;> simp [Op.bytesLess]
  | cons a x ih =>
    intro y
    cases y with
    | nil => simp [Op.bytesLess]
    | cons b y =>
      simp only [Op.bytesLess, ih, List.cons_lt_cons_iff]
      by_cases h : a < b <;> by_cases h' : a = b <;> simp [h, h']
theorem less_trans {a b c : List UInt8} (h : Op.bytesLess a b = true) (h' : Op.bytesLess b c = true) : Op.bytesLess a c = true := by
  rw [less_eq] at *; simp only [decide_eq_true_eq] at *; exact List.lt_trans h h'
theorem less_irrefl (a : List UInt8) : Op.bytesLess a a = false := by
  rw [less_eq]; simp
theorem less_asymm {a b : List UInt8} (h : Op.bytesLess a b = true) : Op.bytesLess b a = false := by
  cases h' : Op.bytesLess b a with
  | false => rfl
  | true => have := less_trans h h'; rw [less_irrefl] at this; cases this
theorem less_total {a b : List UInt8} (h : Op.bytesLess a b = false) (h' : Op.bytesLess b a = false) : a = b := by
  rw [less_eq] at *
  simp only [decide_eq_false_iff_not] at *
  exact List.le_antisymm h' h

theorem cmpI_self (a : Int) : cmpI a a = 0 := by unfold cmpI; split <;> (try split) <;> omega
theorem cmpI_neg (a b : Int) : cmpI b a = -cmpI a b := by unfold cmpI; split <;> split <;> (try split) <;> omega
theorem cmpI_zero {a b : Int} (h : cmpI a b = 0) : a = b := by unfold cmpI at h; split at h <;> (try split at h) <;> omega
theorem cmpS_self (s : ByteArray) : cmpS s s = 0 := by unfold cmpS; rw [less_irrefl]; simp
theorem cmpS_zero {s t : ByteArray} (h : cmpS s t = 0) : s = t := by
  unfold cmpS at h
  split at h
  · omega
  · split at h
    · exact toList_inj ‹_›
    · omega
theorem cmpS_neg (s t : ByteArray) : cmpS t s = -cmpS s t := by
  unfold cmpS
  cases h : Op.bytesLess s.toList t.toList <;> cases h' : Op.bytesLess t.toList s.toList
  · have := less_total h h'; simp [this]
  · have : ¬ s.toList = t.toList := fun e => by rw [e, less_irrefl] at h'; cases h'
    simp [this]
  · have : ¬ t.toList = s.toList := fun e => by rw [e, less_irrefl] at h; cases h
    simp [this]
  · rw [less_asymm h] at h'; cases h'
theorem cmpV_self (k n : Int) (s : ByteArray) : cmpV k n s k n s = 0 := by simp [cmpV, cmpS_self]
theorem cmpV_neg (k n : Int) (s : ByteArray) (k' n' : Int) (s' : ByteArray) : cmpV k' n' s' k n s = -cmpV k n s k' n' s' := by
  unfold cmpV
  by_cases hk : k = k'
  · subst hk
    by_cases hn : n = n'
    · subst hn; simp [cmpS_neg s s']
    · simp [hn, Ne.symm hn, cmpI_neg n n']
  · simp [hk, Ne.symm hk, cmpI_neg k k']
theorem cmpV_zero {k n : Int} {s : ByteArray} {k' n' : Int} {s' : ByteArray} (h : cmpV k n s k' n' s' = 0) : k = k' ∧ n = n' ∧ s = s' := by
  unfold cmpV at h
  by_cases hk : k = k'
  · by_cases hn : n = n'
    · simp [hk, hn] at h; exact ⟨hk, hn, cmpS_zero h⟩
    · simp [hk, hn] at h; exact absurd (cmpI_zero h) hn
  · simp [hk] at h; exact absurd (cmpI_zero h) hk
theorem cmpI_le {a b : Int} (h : cmpI a b ≤ 0) : a ≤ b := by unfold cmpI at h; split at h <;> (try split at h) <;> omega
theorem cmpI_of_lt {a b : Int} (h : a < b) : cmpI a b = -1 := by simp [cmpI, h]
theorem cmpS_trans {s t u : ByteArray} (h : cmpS s t ≤ 0) (h' : cmpS t u ≤ 0) : cmpS s u ≤ 0 := by
  have key : ∀ {x y : ByteArray}, cmpS x y ≤ 0 → Op.bytesLess x.toList y.toList = true ∨ x = y := fun {x y} h => by
    unfold cmpS at h
    split at h
    · exact .inl ‹_›
    · split at h
      · exact .inr (toList_inj ‹_›)
      · omega
  rcases key h with h | rfl
  · rcases key h' with h' | rfl
    · unfold cmpS; rw [less_trans h h']; simp
    · unfold cmpS; rw [h]; simp
  · exact h'
theorem cmpV_trans {k n : Int} {s : ByteArray} {k' n' : Int} {s' : ByteArray} {k2 n2 : Int} {s2 : ByteArray} (h : cmpV k n s k' n' s' ≤ 0) (h' : cmpV k' n' s' k2 n2 s2 ≤ 0) : cmpV k n s k2 n2 s2 ≤ 0 := by
  unfold cmpV at *
  by_cases hk : k = k'
  · subst hk
    by_cases hk2 : k = k2
    · subst hk2
      simp only [if_true] at *
      by_cases hn : n = n'
      · subst hn
        by_cases hn2 : n = n2
        · subst hn2; simp only [if_true] at *; exact cmpS_trans h h'
        · simp only [hn2, if_true, if_false] at *; exact h'
      · simp only [hn, if_false] at h
        have l := cmpI_le h
        by_cases hn2 : n' = n2
        · subst hn2; simp only [hn, if_false]; exact h
        · simp only [hn2, if_false] at h'
          have l' := cmpI_le h'
          rw [if_neg (by omega), cmpI_of_lt (by omega)]; omega
    · simp only [hk2, if_false] at *; exact h'
  · simp only [hk, if_false] at h
    have l := cmpI_le h
    by_cases hk2 : k' = k2
    · subst hk2; simp only [hk, if_false]; exact h
    · simp only [hk2, if_false] at h'
      have l' := cmpI_le h'
      rw [if_neg (by omega), cmpI_of_lt (by omega)]; omega

def b2i (b : Bool) : Int := if b = true then 1 else 0
/-- Are two values the same? -/
def sameB (k n : Int) (s : ByteArray) (k' n' : Int) (s' : ByteArray) : Bool := cmpV k n s k' n' s' == 0
theorem sameB_yes {k n : Int} {s : ByteArray} {k' n' : Int} {s' : ByteArray} (h : k = k') (h' : n = n') (h2 : s.toList = s'.toList) : sameB k n s k' n' s' = true := by
  obtain rfl := toList_inj h2; subst h h'; simp [sameB, cmpV_self]
theorem sameB_no {k n : Int} {s : ByteArray} {k' n' : Int} {s' : ByteArray} (h : ¬ (k = k' ∧ n = n' ∧ s.toList = s'.toList)) : sameB k n s k' n' s' = false := by
  cases h2 : sameB k n s k' n' s' with
  | false => rfl
  | true =>
    obtain ⟨rfl, rfl, rfl⟩ := cmpV_zero (by simpa [sameB] using h2)
    exact absurd ⟨rfl, rfl, rfl⟩ h
def eqT (k n : Int) (s : ByteArray) (k' n' : Int) (s' : ByteArray) : Int := if k = 0 then 2 else if k' = 0 then 2 else b2i (sameB k n s k' n' s')
def lessT (k n : Int) (s : ByteArray) (k' n' : Int) (s' : ByteArray) : Int := if k = 0 then 2 else if k' = 0 then 2 else b2i (decide (cmpV k n s k' n' s' < 0))

theorem truT_yes : truT 2 1 = 1 := rfl
theorem truT_no : truT 2 0 = 0 := rfl
theorem truT_null : truT 0 0 = 2 := rfl
end Go.Proofs.Ytihdfomkphbdnaa
