/-
  Numbers in base 2^64: their words, values, and what the program's loops reckon. Plain lists and natural numbers. The program's natural numbers: struck of zeros, their words, how they compare; divisors, magnitudes. Sums, differences and quotients of words, with what is carried.
-/
import Derived.Test.YthbdkhmgopahbaaJ06
import Derived.Test.YthbdkhmgopahbaaJ05
import Derived.Test.YthbdkhmgopahbaaJ10
import Derived.Shelf.Spec.BitsCarry
set_option linter.unusedVariables false
namespace Go.Proofs.Ythbdkhmgopahbaa
/-- The digits of a number in base 2^64, the lowest one first, without zeros at the end. -/
def wdigs (n : Nat) : List Nat := if h : n = 0 then [] else (n % 18446744073709551616) :: wdigs (n / 18446744073709551616)
termination_by n
decreasing_by omega
def wvl : List Nat → Nat
  | [] => 0
  | d :: l => d + 18446744073709551616 * wvl l
def wDg (l : List Nat) : Prop := ∀ d ∈ l, d < 18446744073709551616
theorem wdigs_zero : wdigs 0 = [] := by unfold wdigs; simp
theorem wdigs_pos {n : Nat} (h : 0 < n) : wdigs n = (n % 18446744073709551616) :: wdigs (n / 18446744073709551616) := by
  rw [wdigs]; rw [dif_neg (by omega)]
theorem wvl_digs (n : Nat) : wvl (wdigs n) = n := by
  induction n using Nat.strongRecOn with
  | _ n ih =>
    by_cases h : n = 0
    · subst h; rw [wdigs_zero]; rfl
    · rw [wdigs_pos (by omega), wvl, ih _ (by omega)]; omega
theorem wdg_digs (n : Nat) : wDg (wdigs n) := by
  induction n using Nat.strongRecOn with
  | _ n ih =>
    by_cases h : n = 0
    · subst h; rw [wdigs_zero]; intro d hd; cases hd
    · rw [wdigs_pos (by omega)]
      intro d hd
      rcases List.mem_cons.1 hd with rfl | hd
      · omega
      · exact ih _ (by omega) d hd
theorem wDg.getD {l : List Nat} (h : wDg l) (i : Nat) : l.getD i 0 < 18446744073709551616 := by
  by_cases hi : i < l.length
  · have : l.getD i 0 = l[i] := by simp [List.getD, hi]
    rw [this]; exact h _ (List.getElem_mem hi)
  · have : l.getD i 0 = 0 := by simp [List.getD, List.getElem?_eq_none (Nat.le_of_not_lt hi)]
    omega
theorem wDg.tail {d : Nat} {l : List Nat} (h : wDg (d :: l)) : d < 18446744073709551616 ∧ wDg l := ⟨h d (by simp), fun x hx => h x (by simp [hx])⟩
theorem wDg.take {l : List Nat} (h : wDg l) (n : Nat) : wDg (l.take n) := fun d hd => h d (List.mem_of_mem_take hd)
theorem wvl_append (l m : List Nat) : wvl (l ++ m) = wvl l + 18446744073709551616 ^ l.length * wvl m := by
  induction l with
  | nil => simp [wvl]
  | cons d l ih => simp only [List.cons_append, wvl, ih, List.length_cons, Nat.pow_succ, Nat.mul_add, Nat.add_assoc]; congr 2; ac_rfl
theorem wvl_lt {l : List Nat} (h : wDg l) : wvl l < 18446744073709551616 ^ l.length := by
  induction l with
  | nil => simp [wvl]
  | cons d l ih =>
    have h1 := ih h.tail.2
    have h2 := h.tail.1
    simp only [wvl, List.length_cons, Nat.pow_succ]
    generalize 18446744073709551616 ^ l.length = p at *
    omega
theorem wvl_one (d : Nat) : wvl [d] = d := by simp [wvl]
theorem wtake_snoc' {α : Type} (z : α) (l : List α) (n : Nat) (h : n < l.length) : l.take (n + 1) = l.take n ++ [l.getD n z] := by
  rw [List.take_add_one]; simp [List.getD, h]
theorem wvl_take_succ (l : List Nat) (n : Nat) : wvl (l.take (n + 1)) = wvl (l.take n) + 18446744073709551616 ^ n * l.getD n 0 := by
  by_cases h : n < l.length
  · rw [wtake_snoc' 0 l n h, wvl_append, wvl_one, List.length_take, Nat.min_eq_left (by omega)]
  · rw [List.take_of_length_le (by omega), List.take_of_length_le (by omega)]
    have : l.getD n 0 = 0 := by simp [List.getD, List.getElem?_eq_none (Nat.le_of_not_lt h)]
    rw [this]; omega
theorem wvl_take_all (l : List Nat) (n : Nat) (h : l.length ≤ n) : wvl (l.take n) = wvl l := by rw [List.take_of_length_le h]
theorem wvl_split (l : List Nat) (n : Nat) : wvl l = wvl (l.take n) + 18446744073709551616 ^ (min n l.length) * wvl (l.drop n) := by
  have := wvl_append (l.take n) (l.drop n)
  rw [List.take_append_drop, List.length_take] at this
  exact this
/-- Digits without zeros at the end are those of their value. -/
theorem wdigs_vl {l : List Nat} (h : wDg l) (h' : l = [] ∨ l.getD (l.length - 1) 0 ≠ 0) : wdigs (wvl l) = l := by
  induction l with
  | nil => simp [wvl, wdigs_zero]
  | cons d l ih =>
    obtain ⟨h1, h2⟩ := h.tail
    have hl : l = [] ∨ l.getD (l.length - 1) 0 ≠ 0 := by
      cases l with
      | nil => exact .inl rfl
      | cons e l => right; rcases h' with h' | h'
                    · cases h'
                    · simpa using h'
    have hp : 0 < d + 18446744073709551616 * wvl l := by
      rcases hl with rfl | hl
      · rcases h' with h' | h'
        · cases h'
        · simp at h'; omega
      · have : wvl l ≠ 0 := by
          intro h0
          have e := ih h2 (.inr hl)
          rw [h0, wdigs_zero] at e
          rw [← e] at hl
          simp at hl
        omega
    simp only [wvl]
    rw [wdigs_pos hp, show (d + 18446744073709551616 * wvl l) % 18446744073709551616 = d by omega, show (d + 18446744073709551616 * wvl l) / 18446744073709551616 = wvl l by omega, ih h2 hl]
theorem wdigs_take {l : List Nat} {k : Nat} (h : wDg l) (hk : k ≤ l.length) (hv : wvl (l.take k) = wvl l) (h' : k = 0 ∨ l.getD (k - 1) 0 ≠ 0) : l.take k = wdigs (wvl l) := by
  rw [← hv]
  refine (wdigs_vl (h.take k) ?_).symm
  rcases h' with rfl | h'
  · left; simp
  · by_cases h0 : k = 0
    · left; simp [h0]
    · right
      rw [List.length_take, Nat.min_eq_left hk]
      have : (l.take k).getD (k - 1) 0 = l.getD (k - 1) 0 := by simp [List.getD, show k - 1 < k by omega]
      rwa [this]
/-- What is left when the zeros at the end are struck. -/
theorem wtake_digs {l : List Nat} (h : wDg l) : l.take (wdigs (wvl l)).length = wdigs (wvl l) := by
  induction l with
  | nil => simp [wvl, wdigs_zero]
  | cons d l ih =>
    obtain ⟨h1, h2⟩ := h.tail
    simp only [wvl]
    by_cases h0 : d + 18446744073709551616 * wvl l = 0
    · rw [h0, wdigs_zero]; rfl
    · rw [wdigs_pos (by omega), show (d + 18446744073709551616 * wvl l) % 18446744073709551616 = d by omega, show (d + 18446744073709551616 * wvl l) / 18446744073709551616 = wvl l by omega, List.length_cons, List.take_succ_cons, ih h2]
theorem wdigs_len_vl {l : List Nat} (h : wDg l) : (wdigs (wvl l)).length ≤ l.length := by
  have := congrArg List.length (wtake_digs h)
  rw [List.length_take] at this
  omega
/-- One zero less at the end. -/
theorem wtrim_step {l : List Nat} {k : Nat} (hv : wvl (l.take k) = wvl l) (h0 : 0 < k) (hz : l.getD (k - 1) 0 = 0) : wvl (l.take (k - 1)) = wvl l := by
  have := wvl_take_succ l (k - 1)
  rw [show k - 1 + 1 = k by omega, hz, Nat.mul_zero, Nat.add_zero, hv] at this
  exact this.symm
theorem wdigs_len_le {n k : Nat} (h : n < 18446744073709551616 ^ k) : (wdigs n).length ≤ k := by
  induction k generalizing n with
  | zero => simp at h; subst h; simp [wdigs_zero]
  | succ k ih =>
    by_cases h0 : n = 0
    · subst h0; simp [wdigs_zero]
    · rw [wdigs_pos (by omega), List.length_cons]
      have : n / 18446744073709551616 < 18446744073709551616 ^ k := by rw [Nat.pow_succ] at h; exact Nat.div_lt_of_lt_mul (by rw [Nat.mul_comm]; exact h)
      have := ih this
      omega
theorem wlt_pow_len (n : Nat) : n < 18446744073709551616 ^ (wdigs n).length := by
  have := wvl_lt (wdg_digs n); rwa [wvl_digs] at this
theorem wdigs_last {n : Nat} (h : n ≠ 0) : (wdigs n).getD ((wdigs n).length - 1) 0 ≠ 0 := by
  induction n using Nat.strongRecOn with
  | _ n ih =>
    rw [wdigs_pos (by omega)]
    by_cases hd : n / 18446744073709551616 = 0
    · rw [hd, wdigs_zero]; simp; omega
    · have e := ih (n / 18446744073709551616) (by omega) hd
      have hl : 0 < (wdigs (n / 18446744073709551616)).length := by
        rw [wdigs_pos (by omega)]; simp
      have : ((n % 18446744073709551616) :: wdigs (n / 18446744073709551616)).length - 1 = ((wdigs (n / 18446744073709551616)).length - 1) + 1 := by simp; omega
      rw [this, List.getD_cons_succ]
      exact e
theorem wdigs_nil_iff (n : Nat) : (wdigs n).length = 0 ↔ n = 0 := by
  constructor
  · intro h
    have := wlt_pow_len n
    rw [h] at this; simp at this; exact this
  · rintro rfl; simp [wdigs_zero]
theorem wdigs_len_pos {n : Nat} (h : 0 < n) : 0 < (wdigs n).length := by
  rcases Nat.eq_zero_or_pos (wdigs n).length with h0 | h0
  · have := (wdigs_nil_iff n).1 h0; omega
  · exact h0
theorem wpow_le_digs {n : Nat} (h : n ≠ 0) : 18446744073709551616 ^ ((wdigs n).length - 1) ≤ n := by
  have h1 := wdigs_last h
  have hl := wdigs_len_pos (Nat.pos_of_ne_zero h)
  have h2 := wvl_take_succ (wdigs n) ((wdigs n).length - 1)
  rw [show (wdigs n).length - 1 + 1 = (wdigs n).length by omega, List.take_length, wvl_digs] at h2
  generalize (wdigs n).getD ((wdigs n).length - 1) 0 = d at *
  have : 18446744073709551616 ^ ((wdigs n).length - 1) * 1 ≤ 18446744073709551616 ^ ((wdigs n).length - 1) * d := Nat.mul_le_mul_left _ (by omega)
  omega
theorem wlt_of_len_lt {a b : Nat} (h : (wdigs a).length < (wdigs b).length) : a < b := by
  have h1 := wlt_pow_len a
  have h2 : b ≠ 0 := fun h0 => by rw [h0, wdigs_zero] at h; cases h
  have h3 := wpow_le_digs h2
  have h4 : 18446744073709551616 ^ (wdigs a).length ≤ 18446744073709551616 ^ ((wdigs b).length - 1) := Nat.pow_le_pow_right (by omega) (by omega)
  omega
/-- The first digit from above that differs decides. -/
theorem wlt_of_digit {l m : List Nat} {i : Nat} (hl : wDg l) (hn : l.length = m.length) (hi : i < l.length) (hd : l.drop (i + 1) = m.drop (i + 1)) (h : l.getD i 0 < m.getD i 0) : wvl l < wvl m := by
  have e1 := wvl_split l (i + 1)
  have e2 := wvl_split m (i + 1)
  rw [wvl_take_succ, Nat.min_eq_left (by omega)] at e1 e2
  have h1 : wvl (l.take i) < 18446744073709551616 ^ i := by
    have := wvl_lt (hl.take i)
    rwa [List.length_take, Nat.min_eq_left (by omega)] at this
  rw [hd] at e1
  have h2 : 18446744073709551616 ^ i * l.getD i 0 + 18446744073709551616 ^ i ≤ 18446744073709551616 ^ i * m.getD i 0 := by
    rw [← Nat.mul_succ]; exact Nat.mul_le_mul_left _ h
  omega
theorem wdrop_step {l m : List Nat} {i : Nat} (hi : i < l.length) (hn : l.length = m.length) (hd : l.drop (i + 1) = m.drop (i + 1)) (h : l.getD i 0 = m.getD i 0) : l.drop i = m.drop i := by
  have hj : i < m.length := hn ▸ hi
  rw [List.drop_eq_getElem_cons hi, List.drop_eq_getElem_cons hj, hd]
  congr 1
  simpa [List.getD, hi, hj] using h
/-! ### Sums -/
def wplC (l m : List Nat) : Nat → Nat
  | 0 => 0
  | i + 1 => (wplC l m i + l.getD i 0 + m.getD i 0) / 18446744073709551616
def wplD (l m : List Nat) (i : Nat) : Nat := (wplC l m i + l.getD i 0 + m.getD i 0) % 18446744073709551616
def wplL (l m : List Nat) (n : Nat) : List Nat := (List.range n).map (wplD l m)
theorem wplL_succ (l m : List Nat) (n : Nat) : wplL l m (n + 1) = wplL l m n ++ [wplD l m n] := by simp [wplL, List.range_succ]
theorem wplL_length (l m : List Nat) (n : Nat) : (wplL l m n).length = n := by simp [wplL]
theorem wplC_le {l m : List Nat} (hl : wDg l) (hm : wDg m) (i : Nat) : wplC l m i ≤ 1 := by
  induction i with
  | zero => simp [wplC]
  | succ i ih =>
    have h1 := hl.getD i
    have h2 := hm.getD i
    simp only [wplC]
    omega
theorem wplL_dg (l m : List Nat) (n : Nat) : wDg (wplL l m n) := by
  intro d hd
  simp only [wplL, List.mem_map] at hd
  obtain ⟨i, _, rfl⟩ := hd
  unfold wplD; omega
theorem wplL_val (l m : List Nat) (n : Nat) : wvl (wplL l m n) + 18446744073709551616 ^ n * wplC l m n = wvl (l.take n) + wvl (m.take n) := by
  induction n with
  | zero => simp [wplL, wplC, wvl]
  | succ n ih =>
    rw [wplL_succ, wvl_append, wvl_one, wplL_length, wvl_take_succ, wvl_take_succ]
    simp only [wplC, wplD, Nat.pow_succ]
    have hdm := Nat.div_add_mod (wplC l m n + l.getD n 0 + m.getD n 0) 18446744073709551616
    generalize hq : (wplC l m n + l.getD n 0 + m.getD n 0) / 18446744073709551616 = q at *
    generalize hr : (wplC l m n + l.getD n 0 + m.getD n 0) % 18446744073709551616 = r at *
    generalize 18446744073709551616 ^ n = p at *
    have e : p * r + p * 18446744073709551616 * q = p * wplC l m n + p * l.getD n 0 + p * m.getD n 0 := by
      rw [← Nat.mul_add, ← Nat.mul_add, ← hdm, Nat.mul_add, Nat.mul_assoc]; omega
    omega
theorem wplus_end {a b n : Nat} (ha : (wdigs a).length ≤ n) (hb : (wdigs b).length ≤ n) : wvl (wplL (wdigs a) (wdigs b) n ++ [wplC (wdigs a) (wdigs b) n]) = a + b := by
  rw [wvl_append, wvl_one, wplL_length, wplL_val, wvl_take_all _ _ ha, wvl_take_all _ _ hb, wvl_digs, wvl_digs]
/-! ### Differences -/
def wmiB (l m : List Nat) : Nat → Nat
  | 0 => 0
  | i + 1 => 1 - (l.getD i 0 + 18446744073709551616 - wmiB l m i - m.getD i 0) / 18446744073709551616
def wmiD (l m : List Nat) (i : Nat) : Nat := (l.getD i 0 + 18446744073709551616 - wmiB l m i - m.getD i 0) % 18446744073709551616
def wmiL (l m : List Nat) (n : Nat) : List Nat := (List.range n).map (wmiD l m)
theorem wmiL_succ (l m : List Nat) (n : Nat) : wmiL l m (n + 1) = wmiL l m n ++ [wmiD l m n] := by simp [wmiL, List.range_succ]
theorem wmiL_length (l m : List Nat) (n : Nat) : (wmiL l m n).length = n := by simp [wmiL]
theorem wmiB_le (l m : List Nat) (i : Nat) : wmiB l m i ≤ 1 := by cases i <;> simp only [wmiB] <;> omega
theorem wmiL_dg (l m : List Nat) (n : Nat) : wDg (wmiL l m n) := by
  intro d hd
  simp only [wmiL, List.mem_map] at hd
  obtain ⟨i, _, rfl⟩ := hd
  unfold wmiD; omega
theorem wmiL_val {l m : List Nat} (hl : wDg l) (hm : wDg m) (n : Nat) : wvl (wmiL l m n) + wvl (m.take n) = wvl (l.take n) + 18446744073709551616 ^ n * wmiB l m n := by
  induction n with
  | zero => simp [wmiL, wmiB, wvl]
  | succ n ih =>
    rw [wmiL_succ, wvl_append, wvl_one, wmiL_length, wvl_take_succ, wvl_take_succ]
    have h0 := wmiB_le l m n
    have h1 := hl.getD n
    have h2 := hm.getD n
    simp only [wmiB, wmiD, Nat.pow_succ]
    have key : (l.getD n 0 + 18446744073709551616 - wmiB l m n - m.getD n 0) % 18446744073709551616 + m.getD n 0 + wmiB l m n = l.getD n 0 + 18446744073709551616 * (1 - (l.getD n 0 + 18446744073709551616 - wmiB l m n - m.getD n 0) / 18446744073709551616) := by omega
    generalize (l.getD n 0 + 18446744073709551616 - wmiB l m n - m.getD n 0) % 18446744073709551616 = r at *
    generalize 1 - (l.getD n 0 + 18446744073709551616 - wmiB l m n - m.getD n 0) / 18446744073709551616 = q at *
    generalize 18446744073709551616 ^ n = p at *
    have e : p * r + p * m.getD n 0 + p * wmiB l m n = p * l.getD n 0 + p * 18446744073709551616 * q := by
      rw [← Nat.mul_add, ← Nat.mul_add, key, Nat.mul_add, Nat.mul_assoc]
    omega
theorem wminus_end {a b n : Nat} (h : b ≤ a) (ha : (wdigs a).length = n) : wvl (wmiL (wdigs a) (wdigs b) n) = a - b := by
  have hb : (wdigs b).length ≤ n := by
    rcases Nat.lt_or_ge (wdigs a).length (wdigs b).length with h' | h'
    · have := wlt_of_len_lt h'; omega
    · omega
  have e := wmiL_val (wdg_digs a) (wdg_digs b) n
  rw [wvl_take_all _ _ hb, wvl_take_all _ _ (by omega), wvl_digs, wvl_digs] at e
  have hlt := wvl_lt (wmiL_dg (wdigs a) (wdigs b) n)
  rw [wmiL_length] at hlt
  have hB := wmiB_le (wdigs a) (wdigs b) n
  rcases (show wmiB (wdigs a) (wdigs b) n = 0 ∨ wmiB (wdigs a) (wdigs b) n = 1 by omega) with h0 | h0
  · rw [h0] at e; omega
  · rw [h0, Nat.mul_one] at e; omega
/-! ### By one word -/
def tmC (l : List Nat) (x : Nat) : Nat → Nat
  | 0 => 0
  | i + 1 => (l.getD i 0 * x + tmC l x i) / 18446744073709551616
def tmD (l : List Nat) (x i : Nat) : Nat := (l.getD i 0 * x + tmC l x i) % 18446744073709551616
def tmL (l : List Nat) (x n : Nat) : List Nat := (List.range n).map (tmD l x)
theorem tmL_succ (l : List Nat) (x n : Nat) : tmL l x (n + 1) = tmL l x n ++ [tmD l x n] := by simp [tmL, List.range_succ]
theorem tmL_length (l : List Nat) (x n : Nat) : (tmL l x n).length = n := by simp [tmL]
theorem tmC_lt {l : List Nat} (hl : wDg l) {x : Nat} (hx : x < 18446744073709551616) (i : Nat) : tmC l x i < 18446744073709551616 := by
  induction i with
  | zero => simp [tmC]
  | succ i ih =>
    have h1 := hl.getD i
    simp only [tmC]
    have h2 : l.getD i 0 * x ≤ 18446744073709551615 * 18446744073709551615 := Nat.mul_le_mul (by omega) (by omega)
    omega
theorem tmL_dg (l : List Nat) (x n : Nat) : wDg (tmL l x n) := by
  intro d hd
  simp only [tmL, List.mem_map] at hd
  obtain ⟨i, _, rfl⟩ := hd
  unfold tmD; omega
theorem tmL_val (l : List Nat) (x n : Nat) : wvl (tmL l x n) + 18446744073709551616 ^ n * tmC l x n = wvl (l.take n) * x := by
  induction n with
  | zero => simp [tmL, tmC, wvl]
  | succ n ih =>
    rw [tmL_succ, wvl_append, wvl_one, tmL_length, wvl_take_succ]
    simp only [tmC, tmD, Nat.pow_succ]
    have hdm := Nat.div_add_mod (l.getD n 0 * x + tmC l x n) 18446744073709551616
    generalize hq : (l.getD n 0 * x + tmC l x n) / 18446744073709551616 = q at *
    generalize hr : (l.getD n 0 * x + tmC l x n) % 18446744073709551616 = r at *
    rw [Nat.add_mul, ← ih]
    generalize 18446744073709551616 ^ n = p at *
    have e : p * r + p * 18446744073709551616 * q = p * l.getD n 0 * x + p * tmC l x n := by
      rw [Nat.mul_assoc, ← Nat.mul_add, Nat.add_comm r, hdm, Nat.mul_add, Nat.mul_assoc]
    omega
/-- The words while a product is made: i rounds of N are done. -/
def tmS (l : List Nat) (x N i : Nat) : List Nat := tmL l x i ++ tmC l x i :: List.replicate (N - i) 0
theorem tmS_length (l : List Nat) (x N i : Nat) (h : i ≤ N) : (tmS l x N i).length = N + 1 := by simp [tmS, tmL_length]; omega
theorem tmS_zero (l : List Nat) (x N : Nat) : tmS l x N 0 = List.replicate (N + 1) 0 := by simp [tmS, tmL, tmC, List.replicate_succ]
theorem tmS_at (l : List Nat) (x N i : Nat) : (tmS l x N i).getD i 0 = tmC l x i := by
  simp [tmS, List.getD, tmL_length]
theorem tmS_next (l : List Nat) (x N i : Nat) (h : i < N) : ((tmS l x N i).set i (tmD l x i)).set (i + 1) (tmC l x (i + 1)) = tmS l x N (i + 1) := by
  unfold tmS
  rw [List.set_append_right _ _ (by rw [tmL_length]; omega), List.set_append_right _ _ (by rw [tmL_length]; omega), tmL_length, tmL_succ]
  obtain ⟨k, hk⟩ : ∃ k, N - i = k + 1 := ⟨N - i - 1, by omega⟩
  rw [hk, show N - (i + 1) = k by omega, List.replicate_succ, show i - i = 0 by omega, show i + 1 - i = 1 by omega]
  simp
theorem tmS_val {l : List Nat} (hl : wDg l) {x : Nat} (hx : x < 18446744073709551616) : wvl (tmS l x l.length l.length) = wvl l * x ∧ wDg (tmS l x l.length l.length) := by
  have h := tmL_val l x l.length
  rw [List.take_length] at h
  unfold tmS
  rw [Nat.sub_self, List.replicate_zero]
  refine ⟨?_, ?_⟩
  · rw [wvl_append, wvl_one, tmL_length]; exact h
  · intro d hd
    rcases List.mem_append.1 hd with hd | hd
    · exact tmL_dg _ _ _ d hd
    · rw [List.mem_singleton.1 hd]; exact tmC_lt hl hx _
theorem wvl_drop (l : List Nat) (j : Nat) : wvl (l.drop j) = l.getD j 0 + 18446744073709551616 * wvl (l.drop (j + 1)) := by
  by_cases h : j < l.length
  · rw [List.drop_eq_getElem_cons h]
    simp [wvl, List.getD, h]
  · rw [List.drop_eq_nil_of_le (by omega), List.drop_eq_nil_of_le (by omega)]
    have : l.getD j 0 = 0 := by simp [List.getD, List.getElem?_eq_none (Nat.le_of_not_lt h)]
    rw [this]; simp [wvl]
/-- A word of a quotient. -/
def ovD (l : List Nat) (n i : Nat) : Nat := (wvl (l.drop (i + 1)) % n * 18446744073709551616 + l.getD i 0) / n
theorem ovD_lt {l : List Nat} (hl : wDg l) {n : Nat} (hn : 0 < n) (i : Nat) : ovD l n i < 18446744073709551616 := by
  have h1 := hl.getD i
  have h2 := Nat.mod_lt (wvl (l.drop (i + 1))) hn
  unfold ovD
  rw [Nat.div_lt_iff_lt_mul hn]
  generalize wvl (l.drop (i + 1)) % n = r at *
  generalize l.getD i 0 = d at *
  have : (r + 1) * 18446744073709551616 ≤ n * 18446744073709551616 := Nat.mul_le_mul_right _ h2
  rw [Nat.mul_comm n] at this
  omega
theorem ov_step (l : List Nat) {n : Nat} (hn : 0 < n) (i : Nat) : wvl (l.drop i) / n = ovD l n i + 18446744073709551616 * (wvl (l.drop (i + 1)) / n) ∧ wvl (l.drop i) % n = (wvl (l.drop (i + 1)) % n * 18446744073709551616 + l.getD i 0) % n := by
  rw [wvl_drop l i]
  unfold ovD
  have h1 := Nat.div_add_mod (wvl (l.drop (i + 1))) n
  generalize wvl (l.drop (i + 1)) / n = q at *
  generalize wvl (l.drop (i + 1)) % n = r at *
  rw [← h1]
  have e : l.getD i 0 + 18446744073709551616 * (n * q + r) = n * (18446744073709551616 * q) + (r * 18446744073709551616 + l.getD i 0) := by
    rw [Nat.mul_add, ← Nat.mul_assoc, ← Nat.mul_assoc, Nat.mul_comm 18446744073709551616 n]; omega
  rw [e, Nat.mul_add_div hn, Nat.mul_add_mod]
  exact ⟨by omega, rfl⟩
/-- The words while a quotient is made from the top: those from k on are there. -/
def ovS (l : List Nat) (n k : Nat) : List Nat := (List.range l.length).map fun j => if k ≤ j then ovD l n j else 0
theorem ovS_length (l : List Nat) (n k : Nat) : (ovS l n k).length = l.length := by simp [ovS]
theorem ovS_start (l : List Nat) (n : Nat) : ovS l n l.length = List.replicate l.length 0 := by
  apply List.ext_getElem
  · simp [ovS]
  · intro i h1 h2
    simp [ovS] at h1 ⊢
    intro h; omega
theorem ovS_next (l : List Nat) (n k : Nat) (h : k < l.length) : (ovS l n (k + 1)).set k (ovD l n k) = ovS l n k := by
  apply List.ext_getElem
  · simp [ovS]
  · intro i h1 h2
    rw [List.getElem_set]
    simp [ovS] at h1 ⊢
    by_cases hk : k = i
    · subst hk; simp
    · rw [if_neg hk]
      by_cases hk2 : k ≤ i
      · rw [if_pos hk2, if_pos (by omega)]
      · rw [if_neg hk2, if_neg (by omega)]
theorem ovS_drop (l : List Nat) {n : Nat} (hn : 0 < n) (k : Nat) : wvl ((ovS l n 0).drop k) = wvl (l.drop k) / n := by
  by_cases hk : l.length ≤ k
  · rw [List.drop_eq_nil_of_le (by rw [ovS_length]; exact hk), List.drop_eq_nil_of_le hk]; simp [wvl]
  · obtain ⟨m, hm⟩ : ∃ m, m = l.length - k := ⟨_, rfl⟩
    induction m generalizing k with
    | zero => omega
    | succ m ih =>
      rw [wvl_drop, (ov_step l hn k).1]
      have e : (ovS l n 0).getD k 0 = ovD l n k := by simp [ovS, List.getD, show k < l.length by omega]
      rw [e]
      by_cases h2 : l.length ≤ k + 1
      · rw [List.drop_eq_nil_of_le (by rw [ovS_length]; exact h2), List.drop_eq_nil_of_le h2]; simp [wvl]
      · rw [ih (k + 1) h2 (by omega)]
theorem ovS_val {l : List Nat} (hl : wDg l) {n : Nat} (hn : 0 < n) : wvl (ovS l n 0) = wvl l / n ∧ wDg (ovS l n 0) := by
  refine ⟨by have := ovS_drop l hn 0; simpa using this, ?_⟩
  intro d hd
  simp only [ovS, List.mem_map] at hd
  obtain ⟨i, _, rfl⟩ := hd
  rw [if_pos (by omega)]
  exact ovD_lt hl hn i
/-- The words while a sum is made. -/
def plS (l m : List Nat) (N i : Nat) : List Nat := wplL l m i ++ List.replicate (N - i) 0
theorem plS_length (l m : List Nat) (N i : Nat) (h : i ≤ N) : (plS l m N i).length = N := by simp [plS, wplL_length]; omega
theorem plS_next (l m : List Nat) (N i : Nat) (h : i < N) : (plS l m N i).set i (wplD l m i) = plS l m N (i + 1) := by
  unfold plS
  rw [List.set_append_right _ _ (by rw [wplL_length]; omega), wplL_length, wplL_succ]
  obtain ⟨k, hk⟩ : ∃ k, N - i = k + 1 := ⟨N - i - 1, by omega⟩
  rw [hk, show N - (i + 1) = k by omega, List.replicate_succ, Nat.sub_self]
  simp
theorem plS_val {a b n : Nat} (ha : (wdigs a).length < n) (hb : (wdigs b).length < n) : wvl (plS (wdigs a) (wdigs b) n n) = a + b ∧ wDg (plS (wdigs a) (wdigs b) n n) := by
  obtain ⟨k, rfl⟩ : ∃ k, n = k + 1 := ⟨n - 1, by omega⟩
  unfold plS
  rw [Nat.sub_self, List.replicate_zero, List.append_nil]
  refine ⟨?_, wplL_dg _ _ _⟩
  have e := wplL_val (wdigs a) (wdigs b) (k + 1)
  rw [wvl_take_all _ _ (by omega), wvl_take_all _ _ (by omega), wvl_digs, wvl_digs] at e
  have z1 : (wdigs a).getD k 0 = 0 := by simp [List.getD, List.getElem?_eq_none (show (wdigs a).length ≤ k by omega)]
  have z2 : (wdigs b).getD k 0 = 0 := by simp [List.getD, List.getElem?_eq_none (show (wdigs b).length ≤ k by omega)]
  have hc := wplC_le (wdg_digs a) (wdg_digs b) k
  have e0 : wplC (wdigs a) (wdigs b) (k + 1) = 0 := by
    simp only [wplC, z1, z2]; omega
  rw [e0, Nat.mul_zero, Nat.add_zero] at e
  exact e
/-- The words while a difference is made. -/
def miS (l m : List Nat) (i : Nat) : List Nat := wmiL l m i ++ l.drop i
theorem miS_length (l m : List Nat) (i : Nat) (h : i ≤ l.length) : (miS l m i).length = l.length := by simp [miS, wmiL_length]; omega
theorem miS_at (l m : List Nat) (i : Nat) (h : i < l.length) : (miS l m i).getD i 0 = l.getD i 0 := by
  unfold miS
  simp only [List.getD]
  rw [List.getElem?_append_right (by rw [wmiL_length]; omega), wmiL_length, Nat.sub_self, List.getElem?_drop]
  simp
theorem miS_next (l m : List Nat) (i : Nat) (h : i < l.length) : (miS l m i).set i (wmiD l m i) = miS l m (i + 1) := by
  unfold miS
  rw [List.set_append_right _ _ (by rw [wmiL_length]; omega), wmiL_length, wmiL_succ, List.drop_eq_getElem_cons h, Nat.sub_self, List.set_cons_zero, List.append_assoc]
  rfl
theorem miS_val {a b : Nat} (h : b ≤ a) : wvl (miS (wdigs a) (wdigs b) (wdigs a).length) = a - b ∧ wDg (miS (wdigs a) (wdigs b) (wdigs a).length) := by
  unfold miS
  rw [List.drop_eq_nil_of_le (Nat.le_refl _), List.append_nil]
  exact ⟨wminus_end h rfl, wmiL_dg _ _ _⟩
theorem wdigs_one : wdigs 1 = [1] := by
  rw [wdigs_pos (by omega)]; simp [wdigs_zero]
theorem wdigs_small {n : Nat} (h : 0 < n) (h2 : n < 18446744073709551616) : wdigs n = [n] := by
  rw [wdigs_pos h, Nat.mod_eq_of_lt h2, Nat.div_eq_of_lt h2, wdigs_zero]
end Go.Proofs.Ythbdkhmgopahbaa
set_option linter.unusedVariables false
namespace Go.Proofs.Ythbdkhmgopahbaa
open Go Go.RowKit Go.Deep
/-- A natural number of the program: the words of n. -/
def NatAt (w : World) (s : Sl) (n : Nat) : Prop := UAt w s (wdigs n)
theorem NatAt.later {w w' : World} {s : Sl} {n : Nat} (h : NatAt w s n) (hb : Below w.heap.size w w') : NatAt w' s n := UAt.later h hb
theorem ltrimmed {w : World} {a : Option Addr} {n c : Nat} {l : List Nat} (h : UAt w ⟨a, n, c⟩ l) (hd : wDg l) : NatAt w ⟨a, (wdigs (wvl l)).length, c⟩ (wvl l) := by
  have := h.cut (wdigs_len_vl hd)
  rwa [wtake_digs hd] at this
set_option maxHeartbeats 2000000 in
theorem trimmed_calls (a : Option Addr) (n c : Nat) (l : List Nat) (w : World) (h : UAt w ⟨a, n, c⟩ l) (hd : wDg l) :
    Calls Try.prog 105 #[.slice a n c] w fun e w' => e = .returned (.slice a (wdigs (wvl l)).length c) ∧ w = w' := by
  have hlen : n = l.length := h.1
  have hle : n ≤ c := h.2.1
  have hmax : c ≤ maxLen := h.2.2.1
  unfold maxLen at hmax
  have H := Lib.hid h.2.2.2
  have HD := Lib.hid hd
  have HL := Lib.hid hlen
  clear h hd hlen
  go_enter Try.func105, Try.ntmps105
  go_wp2_with fail
  go_loop [0] (fun v => ∃ k : Nat, k ≤ n ∧ v = .slice a k c ∧ Hid (wvl (l.take k) = wvl l)) (fun v => slLen v)
  case atStart => exact ⟨n, Nat.le_refl _, rfl, Lib.hid (wvl_take_all _ _ (by rw [HL.out]; exact Nat.le_refl _))⟩
  case round =>
    obtain ⟨k, hk, rfl, hv⟩ := hrel
    by_cases h0 : 0 < k
    · obtain ⟨b, off, ea, hb, hcell⟩ := H.out.resolve_left (by show ¬ n = 0; omega)
      have ea' : a = some ⟨b, off, none⟩ := ea
      subst ea'
      clear ea
      have q := hcell (k - 1) (by show k - 1 < n; omega)
      have HE : Hid (l.getD (k - 1) 0 ≠ 0 → k = (wdigs (wvl l)).length) := Lib.hid (fun hz => by
        have := wdigs_take HD.out (k := k) (by rw [← HL.out]; exact hk) hv.out (.inr hz)
        rw [← this, List.length_take, ← HL.out, Nat.min_eq_left hk])
      have HS : Hid (l.getD (k - 1) 0 = 0 → wvl (l.take (k - 1)) = wvl l) := Lib.hid (fun hz => wtrim_step hv.out h0 hz)
      clear hcell
      generalize l.getD (k - 1) 0 = x at *
      have e1 : ((k : Int) - 1).toNat = k - 1 := by omega
      by_cases hx : x = 0
      · subst hx
        go_wp2_with fail
        go_round
        case rel => exact ⟨k - 1, by omega, by first | rfl | simp, Lib.hid (HS.out rfl)⟩
        case measure => simp [slLen]; omega
      · have d1 : ((x : Int) == 0) = false := by simp; omega
        have HX := Lib.hid hx
        clear hx
        go_wp2_with fail
        go_ret
        exact ⟨by rw [← HE.out HX.out]; rfl, rfl⟩
    · obtain rfl : k = 0 := by omega
      go_wp2_with fail
      go_ret
      refine ⟨?_, rfl⟩
      have : wvl l = 0 := by rw [← hv.out]; simp [wvl]
      rw [this, wdigs_zero]; rfl
set_option maxHeartbeats 2000000 in
theorem ldivisor_calls (x y : Nat) (w : World) (hx : x < 18446744073709551616) (hy : y < 18446744073709551616) :
    Calls Try.prog 86 #[.int .u64 x, .int .u64 y] w fun e w' => e = .returned (.int .u64 ((Nat.gcd x y : Nat) : Int)) ∧ Cls w w' := by
  go_enter Try.func86, Try.ntmps86
  go_wp2_with fail
  go_loopw [0, 1] (fun s0 s1 wr => ∃ p q : Nat, p < 18446744073709551616 ∧ q < 18446744073709551616 ∧ s0 = .int .u64 p ∧ s1 = .int .u64 q ∧ Hid (Nat.gcd p q = Nat.gcd x y) ∧ Cls w wr) (fun _ s1 _ => (intOf s1).toNat)
  case atStart => exact ⟨x, y, hx, hy, rfl, rfl, Lib.hid rfl, Cls.of (Below.refl _ _)⟩
  case round =>
    obtain ⟨p, q, hp, hq, rfl, rfl, hG, z, rfl⟩ := hrel
    by_cases h0 : q = 0
    · subst h0
      go_wp2_with fail
      go_ret
      exact ⟨ret_int (by rw [← hG.out, Nat.gcd_zero_right]), z, rfl⟩
    · have HG : Hid (Nat.gcd q (p % q) = Nat.gcd x y) := Lib.hid (by rw [gcd_step _ _ (Nat.pos_of_ne_zero h0)]; exact hG.out)
      have HLT := Lib.hid (Nat.mod_lt p (Nat.pos_of_ne_zero h0))
      have d1 : ((q : Int) == 0) = false := by simp; omega
      have d2 : ((q : Int) != 0) = true := by simp; omega
      have H0 := Lib.hid h0
      have e1 : (p : Int).tmod (q : Int) = ((p % q : Nat) : Int) := by rw [Int.tmod_eq_emod_of_nonneg (by omega)]; omega
      have e2 : IntKind.u64.wrap ((p % q : Nat) : Int) = ((p % q : Nat) : Int) := u64_id (by have := HLT.out; omega)
      have h0' : ¬ ((q : Int) = 0) := by omega
      clear hG
      go_wp2_with fail
      refine wp_region_on (by kernel_rfl) (by kernel_rfl) ?_
      repeat (go_big_quiet_step (fail))
      refine wpQuiet_nil ?_
      rintro _ ⟨y1, rfl⟩
      clear e1 e2
      go_wp2_with fail
      go_roundw
      case rel => exact ⟨q, p % q, hq, by have := HLT.out; omega, rfl, by first | rfl | simp, HG, y1, rfl⟩
      case measure => have := HLT.out; first | (simp [intOf]; done) | (simp [intOf]; omega)
set_option maxHeartbeats 2000000 in
theorem lmagnitude_calls (n : Int) (w : World) (h0 : -9223372036854775808 ≤ n) (h1 : n ≤ 9223372036854775807) :
    Calls Try.prog 87 #[.int .i64 n] w fun e w' => e = .returned (.int .u64 (n.natAbs : Int)) ∧ w = w' := by
  obtain ⟨m, hm⟩ : ∃ m : Nat, m = n.natAbs := ⟨_, rfl⟩
  rw [← hm]
  by_cases hn : n < 0
  · have e1 : IntKind.u64.wrap n = 18446744073709551616 - (m : Int) := by rw [IntKind.wrap_u64]; omega
    have e2 : IntKind.u64.wrap (-(18446744073709551616 - (m : Int))) = (m : Int) := by rw [IntKind.wrap_u64]; omega
    clear hm
    go_enter Try.func87, Try.ntmps87
    go_wp2_with fail
    go_ret
    exact ⟨rfl, rfl⟩
  · have e1 : IntKind.u64.wrap n = (m : Int) := by rw [IntKind.wrap_u64]; omega
    clear hm
    go_enter Try.func87, Try.ntmps87
    go_wp2_with fail
    go_ret
    exact ⟨rfl, rfl⟩
set_option maxHeartbeats 2000000 in
theorem word_calls (a : Option Addr) (n c : Nat) (l : List Nat) (i : Nat) (w : World) (h : UAt w ⟨a, n, c⟩ l) :
    Calls Try.prog 60 #[.slice a n c, .int .i64 i] w fun e w' => e = .returned (.int .u64 ((l.getD i 0 : Nat) : Int)) ∧ w = w' := by
  have hle : n ≤ c := h.2.1
  have hmax : c ≤ maxLen := h.2.2.1
  unfold maxLen at hmax
  have hn : n = l.length := h.1
  by_cases hi : i < n
  · obtain ⟨b, off, ea, hb, hcell⟩ := h.2.2.2.resolve_left (by show ¬ n = 0; omega)
    have ea' : a = some ⟨b, off, none⟩ := ea
    subst ea'
    have q := hcell i hi
    clear h hcell ea hn
    generalize l.getD i 0 = x at *
    have d1 : decide ((i : Int) < (n : Int)) = true := decide_eq_true (by omega)
    go_enter Try.func60, Try.ntmps60
    go_wp2_with fail
    go_ret
    exact ⟨rfl, rfl⟩
  · have e : l.getD i 0 = 0 := by simp [List.getD, List.getElem?_eq_none (show l.length ≤ i by omega)]
    rw [e]
    have d1 : decide ((i : Int) < (n : Int)) = false := decide_eq_false (by omega)
    clear h hn e
    go_enter Try.func60, Try.ntmps60
    go_wp2_with fail
    go_ret
    exact ⟨rfl, rfl⟩
theorem cmpInt_calls (a b : Int) (w : World) : Calls Try.prog 94 #[.int .i64 a, .int .i64 b] w fun e w' => e = .returned (.int .i64 (cmpI a b)) ∧ w = w' := by
  go_enter Try.func94, Try.ntmps94
  go_wp2
  all_goals
    go_ret
    refine ⟨ret_int ?_, rfl⟩
    unfold cmpI
    repeat (first | rfl | rw [if_pos (by omega)] | rw [if_neg (by omega)])
theorem wcmpN_len {a b : Nat} (h : (wdigs a).length < (wdigs b).length) : cmpN a b = -1 := by have := wlt_of_len_lt h; simp [cmpN, this]
theorem wcmpN_len' {a b : Nat} (h : (wdigs b).length < (wdigs a).length) : cmpN a b = 1 := by have := wlt_of_len_lt h; unfold cmpN; rw [if_neg (by omega), if_pos this]
theorem wcmpN_digs {a b : Nat} (h : wdigs a = wdigs b) : cmpN a b = 0 := by
  have : a = b := by rw [← wvl_digs a, h, wvl_digs]
  simp [cmpN, this]
end Go.Proofs.Ythbdkhmgopahbaa
set_option linter.unusedVariables false
namespace Go.Proofs.Ythbdkhmgopahbaa
open Go Go.RowKit Go.Deep
set_option maxHeartbeats 2000000 in
set_option maxRecDepth 20000 in
theorem Div64_zero (lo y : Nat) (w : World) (h1 : 0 < y) (h2 : y < 18446744073709551616) (h3 : lo < 18446744073709551616) :
    Calls Try.prog 104 #[.int .u64 0, .int .u64 lo, .int .u64 y] w fun e w' => e = .returned (.tuple #[.int .u64 ((lo / y : Nat) : Int), .int .u64 ((lo % y : Nat) : Int)]) ∧ Cls w w' := by
  have d1 : ((y : Int) == 0) = false := by simp; omega
  have d2 : ¬ (y : Int) = 0 := by omega
  have d3 : decide ((y : Int) ≤ 0) = false := decide_eq_false (by omega)
  have d4 : ¬ y = 0 := by omega
  have q1 : (lo : Int).tdiv (y : Int) = ((lo / y : Nat) : Int) := tdiv_nat' _ _
  have q2 : (lo : Int).tmod (y : Int) = ((lo % y : Nat) : Int) := by rw [Int.tmod_eq_emod_of_nonneg (by omega)]; omega
  have q3 : IntKind.u64.wrap ((lo / y : Nat) : Int) = ((lo / y : Nat) : Int) := u64_id (Nat.lt_of_le_of_lt (Nat.div_le_self _ _) h3)
  have q4 : IntKind.u64.wrap ((lo % y : Nat) : Int) = ((lo % y : Nat) : Int) := u64_id (Nat.lt_of_le_of_lt (Nat.mod_le _ _) h3)
  generalize lo / y = a at *
  generalize lo % y = b at *
  go_enter Try.func104, Try.ntmps104
  go_wp2_with fail
  refine wp_region_ext (by kernel_rfl) (by kernel_rfl) ?_
  repeat (go_big_quiet_step (fail))
  refine wpQuiet_nil ?_
  rintro _ ⟨y1, rfl⟩
  clear q1 q2 q3 q4
  go_wp2_with fail
  go_ret2
  exact ⟨rfl, y1, rfl⟩
theorem Div64_calls (hi lo y : Nat) (w : World) (h1 : hi < y) (h2 : y < 18446744073709551616) (h3 : lo < 18446744073709551616) :
    Calls Try.prog 104 #[.int .u64 hi, .int .u64 lo, .int .u64 y] w fun e w' => e = .returned (.tuple #[.int .u64 (((hi * 18446744073709551616 + lo) / y : Nat) : Int), .int .u64 (((hi * 18446744073709551616 + lo) % y : Nat) : Int)]) ∧ Cls w w' := by
  by_cases h0 : hi = 0
  · subst h0
    rw [Nat.zero_mul, Nat.zero_add]
    exact Div64_zero lo y w h1 h2 h3
  · exact (Div64_great hi lo y w (Nat.pos_of_ne_zero h0) h1 h2 h3).mono fun _ _ ⟨he, hw⟩ => ⟨he, Cls.same hw⟩
theorem add64_nat (x y c : Nat) (hc : c ≤ 1) (w : World) :
    (callFunc 109 #[.int .u64 x, .int .u64 y, .int .u64 c]).run Try.prog w = .ok (.value (.tuple #[.int .u64 (((x + y + c) % 18446744073709551616 : Nat) : Int), .int .u64 (((x + y + c) / 18446744073709551616 : Nat) : Int)])) w := by
  rw [run_callFunc_extern Try.func109 (by kernel_rfl) (by kernel_rfl) (by kernel_rfl) (e := add64Entry) (by kernel_rfl), run_add64 x y c (by omega) (by omega) (by omega) (by omega)]
  simp only [Result.andThen]
  congr 5 <;> omega
theorem sub64_nat (x y b : Nat) (hb : b ≤ 1) (w : World) :
    (callFunc 117 #[.int .u64 x, .int .u64 y, .int .u64 b]).run Try.prog w =
      .ok (.value (.tuple #[.int .u64 (((x + 18446744073709551616 - y - b) % 18446744073709551616 : Nat) : Int), .int .u64 ((if x < y + b then 1 else 0 : Nat) : Int)])) w := by
  rw [run_callFunc_extern Try.func117 (by kernel_rfl) (by kernel_rfl) (by kernel_rfl) (e := sub64Entry) (by kernel_rfl), run_sub64 x y b hb]
  rfl
end Go.Proofs.Ythbdkhmgopahbaa
