/-
  The tables of a query: as the program gathers them, sorted and without neighbours that are equal, and as the reference inserts them: the same list.
-/
import Derived.Test.YtonnbmiallammaaDoorQNum
import Derived.Lib.SlicesCompact
set_option linter.unusedVariables false
namespace Go.Proofs.YtonnbmiallammaaDoor
open Go Go.RowKit
abbrev Bs := List UInt8
theorem bs_irr (a : Bs) : ¬ a < a := List.lt_irrefl a
theorem bs_trans {a b c : Bs} (h : a < b) (k : b < c) : a < c := List.lt_trans h k
theorem bs_tri (a b : Bs) : a < b ∨ a = b ∨ b < a := by
  by_cases h : a < b
  · exact .inl h
  · by_cases k : b < a
    · exact .inr (.inr k)
    · exact .inr (.inl (List.le_antisymm (List.not_lt.1 k) (List.not_lt.1 h)))
theorem bs_asymm {a b : Bs} (h : a < b) : ¬ b < a := fun k => bs_irr _ (bs_trans h k)
/-! ### Strictly ascending lists -/
def AscS (l : List Bs) : Prop := l.Pairwise (· < ·)
theorem ascS_unique : ∀ {l m : List Bs}, AscS l → AscS m → (∀ x, x ∈ l ↔ x ∈ m) → l = m := by
  intro l
  induction l with
  | nil =>
    intro m _ _ h
    cases m with
    | nil => rfl
    | cons y m => exact absurd ((h y).2 (List.mem_cons_self ..)) (by simp)
  | cons x l ih =>
    intro m hl hm h
    cases m with
    | nil => exact absurd ((h x).1 (List.mem_cons_self ..)) (by simp)
    | cons y m =>
      obtain ⟨hl1, hl2⟩ := List.pairwise_cons.1 hl
      obtain ⟨hm1, hm2⟩ := List.pairwise_cons.1 hm
      have hxy : x = y := by
        rcases List.mem_cons.1 ((h x).1 (List.mem_cons_self ..)) with e | e
        · exact e
        · rcases List.mem_cons.1 ((h y).2 (List.mem_cons_self ..)) with e' | e'
          · exact e'.symm
          · exact absurd (hl1 y e') (bs_asymm (hm1 x e))
      subst hxy
      rw [ih hl2 hm2 fun z => ?_]
      constructor
      · intro hz
        rcases List.mem_cons.1 ((h z).1 (List.mem_cons_of_mem _ hz)) with e | e
        · exact absurd (hl1 z hz) (e ▸ bs_irr _)
        · exact e
      · intro hz
        rcases List.mem_cons.1 ((h z).2 (List.mem_cons_of_mem _ hz)) with e | e
        · exact absurd (hm1 z hz) (e ▸ bs_irr _)
        · exact e
/-! ### Insertion -/
def insS : List Bs → Bs → List Bs
  | [], n => [n]
  | x :: l, n => if x < n then x :: insS l n else if x = n then x :: l else n :: x :: l
theorem insS_mem {l : List Bs} {n z : Bs} : z ∈ insS l n ↔ z = n ∨ z ∈ l := by
  induction l with
  | nil => simp [insS]
  | cons x l ih =>
    rw [insS]
    split
    · simp only [List.mem_cons, ih]; constructor <;> (rintro (h | h | h) <;> simp [h])
    · split
      · rename_i h; subst h; simp
      · simp
theorem insS_asc {l : List Bs} {n : Bs} (h : AscS l) : AscS (insS l n) := by
  induction l with
  | nil => simp [insS, AscS]
  | cons x l ih =>
    obtain ⟨h1, h2⟩ := List.pairwise_cons.1 h
    rw [insS]
    split
    · refine List.pairwise_cons.2 ⟨fun z hz => ?_, ih h2⟩
      rcases insS_mem.1 hz with rfl | hz
      · assumption
      · exact h1 z hz
    · rename_i hx
      split
      · exact h
      · rename_i hne
        have hlt : n < x := by
          rcases bs_tri x n with h3 | h3 | h3
          · exact absurd h3 hx
          · exact absurd h3 hne
          · exact h3
        refine List.pairwise_cons.2 ⟨fun z hz => ?_, h⟩
        rcases List.mem_cons.1 hz with rfl | hz
        · exact hlt
        · exact bs_trans hlt (h1 z hz)
theorem insS_len (l : List Bs) (n : Bs) : (insS l n).length ≤ l.length + 1 := by
  induction l with
  | nil => simp [insS]
  | cons x l ih => rw [insS]; split <;> (try split) <;> simp <;> omega
/-- How many stand before n. -/
def posS : List Bs → Bs → Nat
  | [], _ => 0
  | x :: l, n => if x < n then posS l n + 1 else 0
theorem posS_le (l : List Bs) (n : Bs) : posS l n ≤ l.length := by
  induction l with
  | nil => simp [posS]
  | cons x l ih => rw [posS]; split <;> simp; omega
theorem posS_lt (l : List Bs) (n : Bs) : ∀ {j : Nat}, j < posS l n → l.getD j [] < n := by
  induction l with
  | nil => intro j h; simp [posS] at h
  | cons x l ih =>
    intro j h
    rw [posS] at h
    split at h
    · cases j with
      | zero => simpa
      | succ j => simpa using ih (j := j) (by omega)
    · omega
theorem posS_at (l : List Bs) (n : Bs) : posS l n < l.length → ¬ l.getD (posS l n) [] < n := by
  induction l with
  | nil => intro h; simp at h
  | cons x l ih =>
    rw [posS]
    split
    · intro h; simpa using ih (by simpa using h)
    · rename_i h1; intro _; simpa using h1
theorem posS_eq {l : List Bs} {n : Bs} {j : Nat} (hj : j ≤ l.length) (h : ∀ i, i < j → l.getD i [] < n) (h' : j < l.length → ¬ l.getD j [] < n) : posS l n = j := by
  have h1 := posS_le l n
  rcases Nat.lt_trichotomy (posS l n) j with h2 | h2 | h2
  · exact absurd (h _ h2) (posS_at l n (by omega))
  · exact h2
  · exact absurd (posS_lt l n h2) (h' (by omega))
theorem insS_split (l : List Bs) (n : Bs) : insS l n = if posS l n < l.length ∧ l.getD (posS l n) [] = n then l else l.take (posS l n) ++ n :: l.drop (posS l n) := by
  induction l with
  | nil => simp [insS, posS]
  | cons x l ih =>
    rw [insS, posS]
    by_cases h1 : x < n
    · rw [if_pos h1, if_pos h1, ih]
      by_cases h2 : posS l n < l.length ∧ l.getD (posS l n) [] = n
      · rw [if_pos h2, if_pos ⟨by simpa using h2.1, by simpa using h2.2⟩]
      · rw [if_neg h2, if_neg (fun h3 => h2 ⟨by simpa using h3.1, by simpa using h3.2⟩)]
        simp
    · rw [if_neg h1, if_neg h1]
      by_cases h2 : x = n
      · rw [if_pos h2, if_pos ⟨by simp, by simpa using h2⟩]
      · rw [if_neg h2, if_neg (fun h3 => h2 (by simpa using h3.2))]
        simp
/-! ### Lists of the first n, one behind the other -/
def catN (f : Nat → List Bs) : Nat → List Bs
  | 0 => []
  | n + 1 => catN f n ++ f n
theorem catN_mem {f : Nat → List Bs} {x : Bs} : ∀ {n : Nat}, x ∈ catN f n ↔ ∃ i, i < n ∧ x ∈ f i
  | 0 => by simp [catN]
  | n + 1 => by
    rw [catN, List.mem_append, catN_mem]
    constructor
    · rintro (⟨i, hi, h⟩ | h)
      · exact ⟨i, by omega, h⟩
      · exact ⟨n, by omega, h⟩
    · rintro ⟨i, hi, h⟩
      rcases Nat.lt_or_ge i n with h1 | h1
      · exact .inl ⟨i, h1, h⟩
      · obtain rfl : i = n := by omega
        exact .inr h
theorem catN_len {f : Nat → List Bs} {g : Nat → Nat} : ∀ {n : Nat}, (∀ i, i < n → (f i).length ≤ g i) → (catN f n).length ≤ sumN g n
  | 0, _ => Nat.le_refl _
  | n + 1, h => by
    have h1 := catN_len (f := f) (g := g) (n := n) fun i hi => h i (by omega)
    have h2 := h n (by omega)
    show (catN f n ++ f n).length ≤ sumN g n + g n
    rw [List.length_append]; omega
/-- Inserted, one list behind the other. -/
def insN (f : Nat → List Bs) (acc : List Bs) : Nat → List Bs
  | 0 => acc
  | n + 1 => (f n).foldl insS (insN f acc n)
theorem foldl_insS {m : List Bs} : ∀ {acc : List Bs}, AscS acc → AscS (m.foldl insS acc) ∧ ∀ x, x ∈ m.foldl insS acc ↔ x ∈ acc ∨ x ∈ m := by
  induction m with
  | nil => intro acc h; exact ⟨h, fun x => by simp⟩
  | cons y m ih =>
    intro acc h
    obtain ⟨h1, h2⟩ := ih (acc := insS acc y) (insS_asc h)
    refine ⟨h1, fun x => ?_⟩
    rw [List.foldl_cons, h2, insS_mem, List.mem_cons]
    rw [or_assoc, or_left_comm]
theorem insN_spec {f : Nat → List Bs} {acc : List Bs} (h : AscS acc) : ∀ {n : Nat}, AscS (insN f acc n) ∧ ∀ x, x ∈ insN f acc n ↔ x ∈ acc ∨ ∃ i, i < n ∧ x ∈ f i
  | 0 => ⟨h, fun x => by simp [insN]⟩
  | n + 1 => by
    obtain ⟨h1, h2⟩ := insN_spec (f := f) h (n := n)
    obtain ⟨g1, g2⟩ := foldl_insS (m := f n) h1
    refine ⟨g1, fun x => ?_⟩
    show x ∈ (f n).foldl insS (insN f acc n) ↔ _
    rw [g2, h2]
    constructor
    · rintro ((h3 | ⟨i, hi, h3⟩) | h3)
      · exact .inl h3
      · exact .inr ⟨i, by omega, h3⟩
      · exact .inr ⟨n, by omega, h3⟩
    · rintro (h3 | ⟨i, hi, h3⟩)
      · exact .inl (.inl h3)
      · rcases Nat.lt_or_ge i n with h4 | h4
        · exact .inl (.inr ⟨i, h4, h3⟩)
        · obtain rfl : i = n := by omega
          exact .inr h3
/-! ### The tables -/
def tab1 (p : Qr) : List Bs := if p.op = 1 then [p.table.data.toList] else []
/-- As the program gathers them. -/
def tabsQ : Qy → List Bs
  | .nil => []
  | .mk p ks kid => tab1 p ++ catN (fun i => tabsQ (kid i)) ks.len
/-- As the reference inserts them. -/
def rtabsQ : Qy → List Bs
  | .nil => []
  | .mk p ks kid => insN (fun i => rtabsQ (kid i)) (tab1 p) ks.len
theorem tab1_asc (p : Qr) : AscS (tab1 p) := by unfold tab1 AscS; split <;> simp
theorem rtabs_spec : ∀ q : Qy, AscS (rtabsQ q) ∧ ∀ x, x ∈ rtabsQ q ↔ x ∈ tabsQ q := by
  intro q
  induction q with
  | nil => exact ⟨List.Pairwise.nil, fun x => Iff.rfl⟩
  | mk p ks kid ih =>
    obtain ⟨h1, h2⟩ := insN_spec (f := fun i => rtabsQ (kid i)) (tab1_asc p) (n := ks.len)
    refine ⟨h1, fun x => ?_⟩
    show x ∈ insN (fun i => rtabsQ (kid i)) (tab1 p) ks.len ↔ x ∈ tab1 p ++ catN (fun i => tabsQ (kid i)) ks.len
    rw [h2, List.mem_append, catN_mem]
    constructor
    · rintro (h | ⟨i, hi, h⟩)
      · exact .inl h
      · exact .inr ⟨i, hi, ((ih i).2 x).1 h⟩
    · rintro (h | ⟨i, hi, h⟩)
      · exact .inl h
      · exact .inr ⟨i, hi, ((ih i).2 x).2 h⟩
theorem tabs_len : ∀ q : Qy, (tabsQ q).length ≤ cntQ q := by
  intro q
  induction q with
  | nil => exact Nat.le_refl _
  | mk p ks kid ih =>
    have h1 := catN_len (f := fun i => tabsQ (kid i)) (g := fun i => cntQ (kid i)) (n := ks.len) fun i _ => ih i
    have h2 : (tab1 p).length ≤ 1 := by unfold tab1; split <;> simp
    show (tab1 p ++ catN (fun i => tabsQ (kid i)) ks.len).length ≤ 1 + cntP p + sumN (fun i => cntQ (kid i)) ks.len
    rw [List.length_append]
    omega
/-! ### Sorted, and neighbours that are equal struck -/
theorem compactS_spec {s : List Bs} (hs : s.Pairwise (· ≤ ·)) : AscS (Lib.compact s) ∧ ∀ x, x ∈ Lib.compact s ↔ x ∈ s := by
  have hget : ∀ j, j < s.length → s.toArray[j]! = s.getD j [] := fun j hj => by simp [List.getD, hj]
  have hle : ∀ i j, i ≤ j → j < s.length → s.getD i [] ≤ s.getD j [] := fun i j hij hj => by
    rcases Nat.eq_or_lt_of_le hij with rfl | h
    · exact List.le_refl _
    · have := List.pairwise_iff_getElem.1 hs i j (by omega) hj h
      simpa [List.getD, hj, show i < s.length by omega] using this
  unfold Lib.compact Lib.compactUpTo
  constructor
  · unfold AscS
    rw [List.pairwise_map]
    refine List.Pairwise.imp_of_mem ?_ ((List.pairwise_lt_range (n := s.length)).filter (Lib.keeps s.toArray))
    intro i j hi hj hij
    obtain ⟨hi1, hi2⟩ := List.mem_filter.1 hi
    obtain ⟨hj1, hj2⟩ := List.mem_filter.1 hj
    have hjl := List.mem_range.1 hj1
    rw [hget i (by omega), hget j hjl]
    have hne : s.toArray[j]! ≠ s.toArray[j - 1]! := by
      simp only [Lib.keeps, decide_eq_true_eq] at hj2
      rcases hj2 with h | h
      · omega
      · exact h
    rw [hget j hjl, hget (j - 1) (by omega)] at hne
    have h1 := hle i (j - 1) (by omega) (by omega)
    have h2 := hle (j - 1) j (by omega) hjl
    rcases bs_tri (s.getD i []) (s.getD j []) with h3 | h3 | h3
    · exact h3
    · rw [h3] at h1
      exact absurd (List.le_antisymm h1 h2) hne
    · exact absurd (List.le_trans h1 h2) (List.not_le.2 h3)
  · intro x
    simp only [List.mem_map, List.mem_filter, List.mem_range]
    constructor
    · rintro ⟨j, ⟨hj, _⟩, rfl⟩
      rw [hget j hj]
      simp [List.getD, hj]
    · intro hx
      have hex : ∃ j, j < s.length ∧ s.getD j [] = x := by
        obtain ⟨j, hj, e⟩ := List.mem_iff_getElem.1 hx
        exact ⟨j, hj, by simp [List.getD, hj, e]⟩
      have key : ∀ j, j < s.length → s.getD j [] = x → ∃ i, (i < s.length ∧ Lib.keeps s.toArray i = true) ∧ s.toArray[i]! = x := by
        intro j
        induction j with
        | zero => intro hj e; exact ⟨0, ⟨hj, by simp [Lib.keeps]⟩, by rw [hget 0 hj]; exact e⟩
        | succ j ih =>
          intro hj e
          by_cases h : s.getD j [] = x
          · exact ih (by omega) h
          · refine ⟨j + 1, ⟨hj, ?_⟩, by rw [hget _ hj]; exact e⟩
            simp only [Lib.keeps, decide_eq_true_eq]
            right
            rw [hget _ hj, show j + 1 - 1 = j by omega, hget j (by omega), e]
            exact fun h' => h h'.symm
      obtain ⟨j, hj, e⟩ := hex
      exact key j hj e
def srtS (xs : List Bs) : List Bs := xs.mergeSort fun x y => decide (x ≤ y)
theorem srtS_len (xs : List Bs) : (srtS xs).length = xs.length := List.length_mergeSort xs
theorem sortedS_le (l : List Bs) : (srtS l).Pairwise (· ≤ ·) := by
  have := List.pairwise_mergeSort (le := fun x y : Bs => decide (x ≤ y)) (fun a b c h1 h2 => by simp only [decide_eq_true_eq] at *; exact List.le_trans h1 h2) (fun a b => by simp only [Bool.or_eq_true, decide_eq_true_eq]; exact List.le_total a b) l
  exact this.imp fun h => by simpa using h
theorem ptabs_eq (q : Qy) : Lib.compact (srtS (tabsQ q)) = rtabsQ q := by
  obtain ⟨h1, h2⟩ := compactS_spec (sortedS_le (tabsQ q))
  obtain ⟨g1, g2⟩ := rtabs_spec q
  exact ascS_unique h1 g1 fun x => by rw [g2, h2, show x ∈ srtS (tabsQ q) ↔ x ∈ tabsQ q from List.mem_mergeSort]
theorem compactS_nil : Lib.compact ([] : List Bs) = [] := rfl
theorem compactS_len (xs : List Bs) : (Lib.compact xs).length ≤ xs.length := by
  unfold Lib.compact Lib.compactUpTo
  rw [List.length_map]
  exact Nat.le_trans (List.length_filter_le _ _) (by simp)
end Go.Proofs.YtonnbmiallammaaDoor
