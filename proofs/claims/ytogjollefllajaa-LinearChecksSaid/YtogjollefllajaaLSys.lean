/-
  Systems of equations in memory: rows of numbers, of fractions, of rows.
-/
import Derived.Test.YtogjollefllajaaFOf
set_option linter.unusedVariables false
namespace Go.Proofs.Ytogjollefllajaa
open Go Go.RowKit Go.Deep
/-- The slice holds these numbers. -/
def IntsA (w : World) (s : Sl) (f : Nat → Int) : Prop :=
  s.len ≤ s.cap ∧ s.cap ≤ maxLen ∧ (s.len = 0 ∨ ∃ b off, s.a = some ⟨b, off, none⟩ ∧ b < w.heap.size ∧ ∀ i, i < s.len → w.cell? ⟨b, off + i, none⟩ = some (.int .i64 (f i)))
theorem IntsA.later {w w' : World} {s : Sl} {f : Nat → Int} (h : IntsA w s f) (hb : Below w.heap.size w w') : IntsA w' s f := by
  obtain ⟨h1, h2, h3⟩ := h
  refine ⟨h1, h2, h3.imp id ?_⟩
  rintro ⟨b, off, ha, hlt, hc⟩
  exact ⟨b, off, ha, Nat.lt_of_lt_of_le hlt hb.size, fun i hi => by rw [hb.cell (p := ⟨b, _, none⟩) hlt]; exact hc i hi⟩
/-- The slice holds these fractions. -/
def FrsA (w : World) (s : Sl) (f g : Nat → Int) : Prop :=
  s.len ≤ s.cap ∧ s.cap ≤ maxLen ∧ (s.len = 0 ∨ ∃ b off, s.a = some ⟨b, off, none⟩ ∧ b < w.heap.size ∧ ∀ i, i < s.len → w.cell? ⟨b, off + i * 2, none⟩ = some (.int .i64 (f i)) ∧ w.cell? ⟨b, off + i * 2 + 1, none⟩ = some (.int .i64 (g i)))
theorem FrsA.later {w w' : World} {s : Sl} {f g : Nat → Int} (h : FrsA w s f g) (hb : Below w.heap.size w w') : FrsA w' s f g := by
  obtain ⟨h1, h2, h3⟩ := h
  refine ⟨h1, h2, h3.imp id ?_⟩
  rintro ⟨b, off, ha, hlt, hc⟩
  exact ⟨b, off, ha, Nat.lt_of_lt_of_le hlt hb.size, fun i hi => by rw [hb.cell (p := ⟨b, _, none⟩) hlt, hb.cell (p := ⟨b, _, none⟩) hlt]; exact hc i hi⟩
/-- The slice holds these rows of numbers. -/
def RowsA (w : World) (s : Sl) (r : Nat → Sl) (f : Nat → Nat → Int) : Prop :=
  s.len ≤ s.cap ∧ s.cap ≤ maxLen ∧ (∀ i, i < s.len → IntsA w (r i) (f i)) ∧ (s.len = 0 ∨ ∃ b off, s.a = some ⟨b, off, none⟩ ∧ b < w.heap.size ∧ ∀ i, i < s.len → w.cell? ⟨b, off + i, none⟩ = some (.slice (r i).a (r i).len (r i).cap))
theorem RowsA.later {w w' : World} {s : Sl} {r : Nat → Sl} {f : Nat → Nat → Int} (h : RowsA w s r f) (hb : Below w.heap.size w w') : RowsA w' s r f := by
  obtain ⟨h1, h2, h4, h3⟩ := h
  refine ⟨h1, h2, fun i hi => (h4 i hi).later hb, h3.imp id ?_⟩
  rintro ⟨b, off, ha, hlt, hc⟩
  exact ⟨b, off, ha, Nat.lt_of_lt_of_le hlt hb.size, fun i hi => by rw [hb.cell (p := ⟨b, _, none⟩) hlt]; exact hc i hi⟩
/-- A system. -/
structure Sy where
  U : Sl
  R : Sl
  B : Sl
  up : Nat → Int
  row : Nat → Sl
  co : Nat → Nat → Int
  rt : Nat → Int
structure SysA (w : World) (y : Sy) : Prop where
  U : IntsA w y.U y.up
  R : RowsA w y.R y.row y.co
  B : IntsA w y.B y.rt
theorem SysA.later {w w' : World} {y : Sy} (h : SysA w y) (hb : Below w.heap.size w w') : SysA w' y := ⟨h.U.later hb, h.R.later hb, h.B.later hb⟩
/-- The first index from j on, of m, with p; or -1. -/
def fstI (p : Nat → Bool) : Nat → Nat → Int
  | _, 0 => -1
  | j, m + 1 => if p j = true then (j : Int) else fstI p (j + 1) m
theorem fstI_go {p : Nat → Bool} {j m : Nat} (h : p j = false) : fstI p j (m + 1) = fstI p (j + 1) m := by simp [fstI, h]
theorem fstI_stop {p : Nat → Bool} {j m : Nat} (h : p j = true) : fstI p j (m + 1) = j := by simp [fstI, h]
def anyB (p : Nat → Bool) (n : Nat) : Bool := decide (0 ≤ fstI p 0 n)
theorem fstI_neg {p : Nat → Bool} : ∀ (m j : Nat), (0 ≤ fstI p j m) ↔ ∃ i, j ≤ i ∧ i < j + m ∧ p i = true
  | 0, j => by simp [fstI]; omega
  | m + 1, j => by
    cases hp : p j
    · rw [fstI_go hp, fstI_neg m (j + 1)]
      constructor
      · rintro ⟨i, h1, h2, h3⟩; exact ⟨i, by omega, by omega, h3⟩
      · rintro ⟨i, h1, h2, h3⟩
        refine ⟨i, ?_, by omega, h3⟩
        rcases Nat.eq_or_lt_of_le h1 with rfl | h4
        · rw [hp] at h3; cases h3
        · omega
    · rw [fstI_stop hp]
      exact ⟨fun _ => ⟨j, Nat.le_refl _, by omega, hp⟩, fun _ => by omega⟩
theorem anyB_iff {p : Nat → Bool} {n : Nat} : anyB p n = true ↔ ∃ i, i < n ∧ p i = true := by
  unfold anyB
  rw [decide_eq_true_iff, fstI_neg]
  constructor
  · rintro ⟨i, _, h2, h3⟩; exact ⟨i, by omega, h3⟩
  · rintro ⟨i, h2, h3⟩; exact ⟨i, by omega, by omega, h3⟩
theorem anyB_no {p : Nat → Bool} {n : Nat} : anyB p n = false ↔ ∀ i, i < n → p i = false := by
  constructor
  · intro h i hi
    cases hp : p i with
    | false => rfl
    | true => rw [anyB_iff.2 ⟨i, hi, hp⟩] at h; cases h
  · intro h
    cases hp : anyB p n with
    | false => rfl
    | true => obtain ⟨i, hi, h2⟩ := anyB_iff.1 hp; rw [h i hi] at h2; cases h2
def outB (lo hi n : Int) : Bool := decide (n < lo) || decide (hi < n)
theorem outB_no {lo hi n : Int} : outB lo hi n = false ↔ lo ≤ n ∧ n ≤ hi := by
  unfold outB; rw [Bool.or_eq_false_iff, decide_eq_false_iff_not, decide_eq_false_iff_not]; omega
end Go.Proofs.Ytogjollefllajaa
