/-
  The columns of an expression: as the program gathers them, sorted and without neighbours that are equal, and as the reference inserts them: the same list.
-/
import Derived.Test.YtonnbmiallammaaTree
import Derived.Lib.SlicesCompact
set_option linter.unusedVariables false
namespace Go.Proofs.Ytonnbmiallammaa
open Go Go.RowKit
/-! ### Strictly ascending lists -/
def Asc (l : List Int) : Prop := l.Pairwise (· < ·)
theorem asc_unique : ∀ {l m : List Int}, Asc l → Asc m → (∀ x, x ∈ l ↔ x ∈ m) → l = m := by
  intro l
  induction l with
  | nil =>
    intro m _ _ h
    cases m with
    | nil => rfl
    | cons y m => exact absurd ((h y).2 (List.mem_cons_self ..)) (by simp)
  | cons x l ih =>
    intro m hl hm h
    cases m with
    | nil => exact absurd ((h x).1 (List.mem_cons_self ..)) (by simp)
    | cons y m =>
      obtain ⟨hl1, hl2⟩ := List.pairwise_cons.1 hl
      obtain ⟨hm1, hm2⟩ := List.pairwise_cons.1 hm
      have hxy : x = y := by
        rcases List.mem_cons.1 ((h x).1 (List.mem_cons_self ..)) with e | e
        · exact e
        · rcases List.mem_cons.1 ((h y).2 (List.mem_cons_self ..)) with e' | e'
          · exact e'.symm
          · have h1 := hm1 x e; have h2 := hl1 y e'; omega
      subst hxy
      rw [ih hl2 hm2 fun z => ?_]
      constructor
      · intro hz
        rcases List.mem_cons.1 ((h z).1 (List.mem_cons_of_mem _ hz)) with e | e
        · have := hl1 z hz; omega
        · exact e
      · intro hz
        rcases List.mem_cons.1 ((h z).2 (List.mem_cons_of_mem _ hz)) with e | e
        · have := hm1 z hz; omega
        · exact e
/-! ### Insertion -/
def insI : List Int → Int → List Int
  | [], n => [n]
  | x :: l, n => if x < n then x :: insI l n else if x = n then x :: l else n :: x :: l
theorem insI_mem {l : List Int} {n z : Int} : z ∈ insI l n ↔ z = n ∨ z ∈ l := by
  induction l with
  | nil => simp [insI]
  | cons x l ih =>
    rw [insI]
    split
    · simp only [List.mem_cons, ih]; constructor <;> (rintro (h | h | h) <;> simp [h])
    · split
      · rename_i h; subst h; simp
      · simp
theorem insI_asc {l : List Int} {n : Int} (h : Asc l) : Asc (insI l n) := by
  induction l with
  | nil => simp [insI, Asc]
  | cons x l ih =>
    obtain ⟨h1, h2⟩ := List.pairwise_cons.1 h
    rw [insI]
    split
    · refine List.pairwise_cons.2 ⟨fun z hz => ?_, ih h2⟩
      rcases insI_mem.1 hz with rfl | hz
      · assumption
      · exact h1 z hz
    · split
      · exact h
      · refine List.pairwise_cons.2 ⟨fun z hz => ?_, h⟩
        rcases List.mem_cons.1 hz with rfl | hz
        · omega
        · have := h1 z hz; omega
theorem insI_len (l : List Int) (n : Int) : (insI l n).length ≤ l.length + 1 := by
  induction l with
  | nil => simp [insI]
  | cons x l ih => rw [insI]; split <;> (try split) <;> simp <;> omega
/-- How many stand before n. -/
def posI : List Int → Int → Nat
  | [], _ => 0
  | x :: l, n => if x < n then posI l n + 1 else 0
theorem posI_le (l : List Int) (n : Int) : posI l n ≤ l.length := by
  induction l with
  | nil => simp [posI]
  | cons x l ih => rw [posI]; split <;> simp; omega
theorem posI_lt (l : List Int) (n : Int) : ∀ {j : Nat}, j < posI l n → l.getD j 0 < n := by
  induction l with
  | nil => intro j h; simp [posI] at h
  | cons x l ih =>
    intro j h
    rw [posI] at h
    split at h
    · cases j with
      | zero => simpa
      | succ j => simpa using ih (j := j) (by omega)
    · omega
theorem posI_at (l : List Int) (n : Int) : posI l n < l.length → n ≤ l.getD (posI l n) 0 := by
  induction l with
  | nil => intro h; simp at h
  | cons x l ih =>
    rw [posI]
    split
    · intro h; simpa using ih (by simpa using h)
    · intro _; simp; omega
theorem posI_eq {l : List Int} {n : Int} {j : Nat} (hj : j ≤ l.length) (h : ∀ i, i < j → l.getD i 0 < n) (h' : j < l.length → ¬ l.getD j 0 < n) : posI l n = j := by
  have h1 := posI_le l n
  rcases Nat.lt_trichotomy (posI l n) j with h2 | h2 | h2
  · have := posI_at l n (by omega); have := h _ h2; omega
  · exact h2
  · have := posI_lt l n h2; exact absurd this (h' (by omega))
theorem insI_split (l : List Int) (n : Int) : insI l n = if posI l n < l.length ∧ l.getD (posI l n) 0 = n then l else l.take (posI l n) ++ n :: l.drop (posI l n) := by
  induction l with
  | nil => simp [insI, posI]
  | cons x l ih =>
    rw [insI, posI]
    by_cases h1 : x < n
    · rw [if_pos h1, if_pos h1, ih]
      by_cases h2 : posI l n < l.length ∧ l.getD (posI l n) 0 = n
      · rw [if_pos h2, if_pos ⟨by simpa using h2.1, by simpa using h2.2⟩]
      · rw [if_neg h2, if_neg (fun h3 => h2 ⟨by simpa using h3.1, by simpa using h3.2⟩)]
        simp
    · rw [if_neg h1, if_neg h1]
      by_cases h2 : x = n
      · rw [if_pos h2, if_pos ⟨by simp, by simpa using h2⟩]
      · rw [if_neg h2, if_neg (fun h3 => h2 (by simpa using h3.2))]
        simp
/-! ### The columns -/
mutual
def colsE : Ex → List Int
  | .mk o _ _ _ c l => (if o = 5 then [c] else []) ++ colsL l
def colsL : List Ex → List Int
  | [] => []
  | k :: r => colsE k ++ colsL r
end
theorem colsE_eq (e : Ex) : colsE e = (if e.op = 5 then [e.col] else []) ++ colsL e.kids := by cases e; rw [colsE]; rfl
theorem colsL_append (l m : List Ex) : colsL (l ++ m) = colsL l ++ colsL m := by
  induction l with
  | nil => simp [colsL]
  | cons x l ih => simp [colsL, ih]
mutual
def rcE : Ex → List Int
  | .mk o _ _ _ c l => if o = 5 then insI (rcL [] l) c else rcL [] l
def rcL : List Int → List Ex → List Int
  | acc, [] => acc
  | acc, k :: r => rcL ((rcE k).foldl insI acc) r
end
theorem rcE_eq (e : Ex) : rcE e = if e.op = 5 then insI (rcL [] e.kids) e.col else rcL [] e.kids := by cases e; rw [rcE]; rfl
theorem rcL_append (acc : List Int) (l m : List Ex) : rcL acc (l ++ m) = rcL (rcL acc l) m := by
  induction l generalizing acc with
  | nil => simp [rcL]
  | cons x l ih => simp only [List.cons_append, rcL, ih]
theorem foldl_ins {m : List Int} : ∀ {acc : List Int}, Asc acc → Asc (m.foldl insI acc) ∧ ∀ x, x ∈ m.foldl insI acc ↔ x ∈ acc ∨ x ∈ m := by
  induction m with
  | nil => intro acc h; exact ⟨h, fun x => by simp⟩
  | cons y m ih =>
    intro acc h
    obtain ⟨h1, h2⟩ := ih (acc := insI acc y) (insI_asc h)
    refine ⟨h1, fun x => ?_⟩
    rw [List.foldl_cons, h2, insI_mem, List.mem_cons]
    rw [or_assoc, or_left_comm]
theorem rcE_spec : ∀ e : Ex, Asc (rcE e) ∧ ∀ x, x ∈ rcE e ↔ x ∈ colsE e := by
  refine Ex.ind fun e ih => ?_
  have key : ∀ (l : List Ex), (∀ k ∈ l, Asc (rcE k) ∧ ∀ x, x ∈ rcE k ↔ x ∈ colsE k) → ∀ acc, Asc acc → Asc (rcL acc l) ∧ ∀ x, x ∈ rcL acc l ↔ x ∈ acc ∨ x ∈ colsL l := by
    intro l
    induction l with
    | nil => intro _ acc h; rw [rcL]; exact ⟨h, fun x => by simp [colsL]⟩
    | cons k r ih2 =>
      intro hk acc h
      obtain ⟨f1, f2⟩ := foldl_ins (m := rcE k) h
      obtain ⟨g1, g2⟩ := ih2 (fun k' hk' => hk k' (List.mem_cons_of_mem _ hk')) _ f1
      rw [rcL]
      refine ⟨g1, fun x => ?_⟩
      rw [g2, f2, colsL, List.mem_append, (hk k (List.mem_cons_self ..)).2 x, or_assoc]
  obtain ⟨h1, h2⟩ := key e.kids ih [] (by simp [Asc])
  rw [rcE_eq, colsE_eq]
  split
  · refine ⟨insI_asc h1, fun x => ?_⟩
    rw [insI_mem, h2]
    simp
  · exact ⟨h1, fun x => by rw [h2]; simp⟩
/-! ### Sorted, and neighbours that are equal struck -/
theorem compact_spec {s : List Int} (hs : s.Pairwise (· ≤ ·)) : Asc (Lib.compact s) ∧ ∀ x, x ∈ Lib.compact s ↔ x ∈ s := by
  have hget : ∀ j, j < s.length → s.toArray[j]! = s.getD j 0 := fun j hj => by simp [List.getD, hj]
  have hle : ∀ i j, i ≤ j → j < s.length → s.getD i 0 ≤ s.getD j 0 := fun i j hij hj => by
    rcases Nat.eq_or_lt_of_le hij with rfl | h
    · exact Int.le_refl _
    · have := List.pairwise_iff_getElem.1 hs i j (by omega) hj h
      simpa [List.getD, hj, show i < s.length by omega] using this
  unfold Lib.compact Lib.compactUpTo
  constructor
  · unfold Asc
    rw [List.pairwise_map]
    refine List.Pairwise.imp_of_mem ?_ ((List.pairwise_lt_range (n := s.length)).filter (Lib.keeps s.toArray))
    intro i j hi hj hij
    obtain ⟨hi1, hi2⟩ := List.mem_filter.1 hi
    obtain ⟨hj1, hj2⟩ := List.mem_filter.1 hj
    have hjl := List.mem_range.1 hj1
    rw [hget i (by omega), hget j hjl]
    have hne : s.toArray[j]! ≠ s.toArray[j - 1]! := by
      simp only [Lib.keeps, decide_eq_true_eq] at hj2
      rcases hj2 with h | h
      · omega
      · exact h
    rw [hget j hjl, hget (j - 1) (by omega)] at hne
    have h1 := hle i (j - 1) (by omega) (by omega)
    have h2 := hle (j - 1) j (by omega) hjl
    omega
  · intro x
    simp only [List.mem_map, List.mem_filter, List.mem_range]
    constructor
    · rintro ⟨j, ⟨hj, _⟩, rfl⟩
      rw [hget j hj]
      simp [List.getD, hj]
    · intro hx
      have hex : ∃ j, j < s.length ∧ s.getD j 0 = x := by
        obtain ⟨j, hj, e⟩ := List.mem_iff_getElem.1 hx
        exact ⟨j, hj, by simp [List.getD, hj, e]⟩
      have key : ∀ j, j < s.length → s.getD j 0 = x → ∃ i, (i < s.length ∧ Lib.keeps s.toArray i = true) ∧ s.toArray[i]! = x := by
        intro j
        induction j with
        | zero => intro hj e; exact ⟨0, ⟨hj, by simp [Lib.keeps]⟩, by rw [hget 0 hj]; exact e⟩
        | succ j ih =>
          intro hj e
          by_cases h : s.getD j 0 = x
          · exact ih (by omega) h
          · refine ⟨j + 1, ⟨hj, ?_⟩, by rw [hget _ hj]; exact e⟩
            simp only [Lib.keeps, decide_eq_true_eq]
            right
            rw [hget _ hj, show j + 1 - 1 = j by omega, hget j (by omega), e]
            exact fun h' => h h'.symm
      obtain ⟨j, hj, e⟩ := hex
      exact key j hj e
theorem sorted_le (l : List Int) : (l.mergeSort fun x y => decide (x ≤ y)).Pairwise (· ≤ ·) := by
  have := List.pairwise_mergeSort (le := fun x y : Int => decide (x ≤ y)) (fun a b c h1 h2 => by simp at *; omega) (fun a b => by simp; omega) l
  exact this.imp fun h => by simpa using h
/-- The program's list of columns. -/
def pcE (e : Ex) : List Int := Lib.compact ((colsE e).mergeSort fun x y => decide (x ≤ y))
theorem pcE_eq (e : Ex) : pcE e = rcE e := by
  obtain ⟨h1, h2⟩ := compact_spec (sorted_le (colsE e))
  obtain ⟨g1, g2⟩ := rcE_spec e
  exact asc_unique h1 g1 fun x => by rw [g2, show x ∈ pcE e ↔ _ from h2 x, List.mem_mergeSort]
theorem compact_nil : Lib.compact ([] : List Int) = [] := rfl
end Go.Proofs.Ytonnbmiallammaa
