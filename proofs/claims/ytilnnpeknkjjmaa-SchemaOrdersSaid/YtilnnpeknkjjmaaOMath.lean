/-
  An order of tables by their references: one table after the other, each time the first one that is not in the order yet and all of whose targets are.
-/
import Derived.Test.YtilnnpeknkjjmaaTarget
set_option linter.unusedVariables false
namespace Go.Proofs.Ytilnnpeknkjjmaa
open Go Go.RowKit Go.Deep
/-- The table that a foreign key names. -/
def tgN (sl : Sl) (tb : Nat → Tb) (i k : Nat) : Nat := (tgtI sl tb (i : Nat) (k : Nat)).toNat
theorem tgt_nat (sl : Sl) (tb : Nat → Tb) (i k : Nat) : tgtI sl tb (i : Nat) (k : Nat) = ((tgN sl tb i k : Nat) : Int) := by
  unfold tgN
  have : 0 ≤ tgtI sl tb (i : Nat) (k : Nat) := by
    unfold tgtI at0
    split <;> (try split) <;> (try split) <;> (try split) <;> (try split) <;> omega
  omega
theorem tg_lt {sl : Sl} {tb : Nat → Tb} {i k : Nat} (h : tgtB sl tb (i : Nat) (k : Nat) = true) : tgN sl tb i k < sl.len := by
  have hb := idx_bd (nameP tb ((tb i).fkt k)) sl.len 0
  have h1 := tgt_nat sl tb i k
  unfold tgtB at h
  unfold tgtI at h1
  simp only [Int.toNat_natCast] at h h1
  split at h
  · cases h
  · split at h
    · cases h
    · split at h
      · cases h
      · split at h
        · cases h
        · rename_i a1 a2 a3 a4
          rw [if_neg a1, if_neg a2, if_neg a3, if_neg a4] at h1
          have h2 : 0 ≤ idx (nameP tb ((tb i).fkt k)) 0 sl.len := of_decide_eq_true h
          unfold at0 at h1
          split at h1 <;> omega
/-- The targets of so many foreign keys. -/
def tgL (sl : Sl) (tb : Nat → Tb) (i : Nat) (k : Nat) : List Nat := (List.range k).map (tgN sl tb i)
theorem tgL_go (sl : Sl) (tb : Nat → Tb) (i k : Nat) : tgL sl tb i (k + 1) = tgL sl tb i k ++ [tgN sl tb i k] := by simp [tgL, List.range_succ]
theorem tgL_len (sl : Sl) (tb : Nat → Tb) (i k : Nat) : (tgL sl tb i k).length = k := by simp [tgL]
theorem tgL_at {sl : Sl} {tb : Nat → Tb} {i k j : Nat} (h : j < k) : (tgL sl tb i k).getD j 0 = tgN sl tb i j := by simp [tgL, List.getD, h]
/-- Table i can come next. -/
def good (sl : Sl) (tb : Nat → Tb) (l : List Nat) (i : Nat) : Bool := !l.contains i && (tgL sl tb i (tb i).fs.len).all fun t => l.contains t
/-- The first k of the order, as far as there are so many. -/
def ordL (sl : Sl) (tb : Nat → Tb) : Nat → List Nat
  | 0 => []
  | k + 1 => if 0 ≤ idx (good sl tb (ordL sl tb k)) 0 sl.len then ordL sl tb k ++ [(idx (good sl tb (ordL sl tb k)) 0 sl.len).toNat] else ordL sl tb k
theorem idx_good {p : Nat → Bool} : ∀ (m j : Nat), 0 ≤ idx p j m → p (idx p j m).toNat = true
  | 0, j, h => by simp [idx] at h
  | m + 1, j, h => by
    by_cases hp : p j = true
    · rw [idx_stop hp]
      simpa using hp
    · have hp' : p j = false := by simpa using hp
      rw [idx_go hp'] at h ⊢
      exact idx_good m (j + 1) h
theorem ordL_go {sl : Sl} {tb : Nat → Tb} {k : Nat} (h : 0 ≤ idx (good sl tb (ordL sl tb k)) 0 sl.len) : ordL sl tb (k + 1) = ordL sl tb k ++ [(idx (good sl tb (ordL sl tb k)) 0 sl.len).toNat] := if_pos h
theorem ordL_lt (sl : Sl) (tb : Nat → Tb) : ∀ k, ∀ t ∈ ordL sl tb k, t < sl.len
  | 0, t, h => by simp [ordL] at h
  | k + 1, t, h => by
    unfold ordL at h
    have hb := idx_bd (good sl tb (ordL sl tb k)) sl.len 0
    split at h
    · rcases List.mem_append.1 h with h | h
      · exact ordL_lt sl tb k t h
      · simp only [List.mem_cons, List.not_mem_nil, or_false] at h
        omega
    · exact ordL_lt sl tb k t h
theorem ordL_nodup (sl : Sl) (tb : Nat → Tb) : ∀ k, (ordL sl tb k).Nodup
  | 0 => by simp [ordL]
  | k + 1 => by
    unfold ordL
    split
    · rename_i h
      have hg := idx_good _ _ h
      generalize (idx (good sl tb (ordL sl tb k)) 0 sl.len).toNat = i at hg ⊢
      unfold good at hg
      simp only [Bool.and_eq_true, Bool.not_eq_true', List.contains_eq_mem, decide_eq_false_iff_not] at hg
      exact List.nodup_append.2 ⟨ordL_nodup sl tb k, by simp, fun a ha b hb => by
        simp only [List.mem_cons, List.not_mem_nil, or_false] at hb
        subst hb
        intro e
        rw [e] at ha
        exact hg.1 ha⟩
    · exact ordL_nodup sl tb k
theorem ordL_stop {sl : Sl} {tb : Nat → Tb} {k : Nat} (h : idx (good sl tb (ordL sl tb k)) 0 sl.len < 0) : ∀ d, ordL sl tb (k + d) = ordL sl tb k
  | 0 => rfl
  | d + 1 => by
    have ih := ordL_stop h d
    show (if 0 ≤ idx (good sl tb (ordL sl tb (k + d))) 0 sl.len then _ else ordL sl tb (k + d)) = _
    rw [ih, if_neg (by omega)]
/-- All foreign keys name tables. -/
def allT (sl : Sl) (tb : Nat → Tb) : Prop := ∀ i, i < sl.len → ∀ k, k < (tb i).fs.len → tgtB sl tb (i : Nat) (k : Nat) = true
/-- What Order gives: the order and no error, or none and the error. -/
def OrdIs (sl : Sl) (tb : Nat → Tb) (w : World) (r : Ending) (w' : World) : Prop :=
  (¬ allT sl tb ∧ r = .returned (.tuple #[.slice none 0 0, .int .i64 11]) ∧ Cls w w') ∨
  (allT sl tb ∧ (ordL sl tb sl.len).length < sl.len ∧ r = .returned (.tuple #[.slice none 0 0, .int .i64 7]) ∧ Cls w w') ∨
  (allT sl tb ∧ (ordL sl tb sl.len).length = sl.len ∧ ∃ s : Sl, r = .returned (.tuple #[.slice s.a s.len s.cap, .int .i64 0]) ∧ s.len = sl.len ∧ SlAt w' 1 s (intC fun i => (((ordL sl tb sl.len).getD i 0 : Nat) : Int)) ∧ Cls w w')
theorem idx_congr {p q : Nat → Bool} : ∀ (m j : Nat), (∀ i, j ≤ i → i < j + m → p i = q i) → idx p j m = idx q j m
  | 0, j, _ => rfl
  | m + 1, j, h => by
    have h0 := h j (by omega) (by omega)
    have ih := idx_congr m (j + 1) fun i h1 h2 => h i (by omega) (by omega)
    unfold idx
    rw [h0, ih]
theorem idx_none {p : Nat → Bool} : ∀ (m j : Nat), idx p j m < 0 ↔ ∀ i, j ≤ i → i < j + m → p i = false
  | 0, j => by
    constructor
    · intro _ i h1 h2
      omega
    · intro _
      show (-1 : Int) < 0
      omega
  | m + 1, j => by
    by_cases hp : p j = true
    · rw [idx_stop hp]
      constructor
      · intro h
        omega
      · intro h
        have := h j (by omega) (by omega)
        rw [hp] at this
        cases this
    · have hp' : p j = false := by simpa using hp
      rw [idx_go hp', idx_none m (j + 1)]
      constructor
      · intro h i h1 h2
        by_cases e : i = j
        · rw [e]; exact hp'
        · exact h i (by omega) (by omega)
      · intro h i h1 h2
        exact h i (by omega) (by omega)
end Go.Proofs.Ytilnnpeknkjjmaa
