/-
  Bags of rows as lists: the order of rows, sorted lists, how often a row occurs, and tallies; no program.
-/
import Derived.Test.YtihdfomkphbdnaaLists
set_option linter.unusedVariables false
namespace Go.Proofs.Ytihdfomkphbdnaa
open Go Go.RowKit
theorem cmpI_bd' (a b : Int) : -1 ≤ cmpI a b ∧ cmpI a b ≤ 1 := by unfold cmpI; split <;> (try split) <;> omega
theorem cmpW_self (a : Vl) : cmpW a a = 0 := cmpV_self _ _ _
theorem cmpW_neg (a b : Vl) : cmpW b a = -cmpW a b := cmpV_neg _ _ _ _ _ _
theorem cmpW_zero {a b : Vl} (h : cmpW a b = 0) : a = b := by
  obtain ⟨h1, h2, h3⟩ := cmpV_zero h
  cases a; cases b; simp_all
theorem cmpW_trans {a b c : Vl} (h : cmpW a b ≤ 0) (h' : cmpW b c ≤ 0) : cmpW a c ≤ 0 := cmpV_trans h h'
theorem cmpL_self : ∀ l : List Vl, cmpL l l = 0
  | [] => rfl
  | a :: l => by rw [cmpL, if_pos (cmpW_self a), cmpL_self l]
theorem cmpL_neg : ∀ l m : List Vl, cmpL m l = -cmpL l m
  | [], [] => rfl
  | [], _ :: _ => rfl
  | _ :: _, [] => rfl
  | a :: l, b :: m => by
    rw [cmpL, cmpL, cmpW_neg a b]
    by_cases h : cmpW a b = 0
    · rw [if_pos h, if_pos (by omega), cmpL_neg l m]
    · rw [if_neg h, if_neg (by omega)]
theorem cmpL_zero : ∀ {l m : List Vl}, cmpL l m = 0 → l = m
  | [], [], _ => rfl
  | [], _ :: _, h => by simp [cmpL] at h
  | _ :: _, [], h => by simp [cmpL] at h
  | a :: l, b :: m, h => by
    rw [cmpL] at h
    by_cases h0 : cmpW a b = 0
    · rw [if_pos h0] at h
      rw [cmpW_zero h0, cmpL_zero h]
    · rw [if_neg h0] at h
      exact absurd h h0
theorem cmpL_trans : ∀ {l m k : List Vl}, cmpL l m ≤ 0 → cmpL m k ≤ 0 → cmpL l k ≤ 0
  | [], _, [], _, _ => by simp [cmpL]
  | [], _, _ :: _, _, _ => by simp [cmpL]
  | _ :: _, [], _, h, _ => by simp [cmpL] at h
  | _ :: _, _ :: _, [], _, h => by simp [cmpL] at h
  | a :: l, b :: m, c :: k, h, h' => by
    rw [cmpL] at *
    by_cases h1 : cmpW a b = 0
    · obtain rfl := cmpW_zero h1
      rw [if_pos h1] at h
      by_cases h2 : cmpW a c = 0
      · rw [if_pos h2] at h' ⊢
        exact cmpL_trans h h'
      · rw [if_neg h2] at h' ⊢
        exact h'
    · rw [if_neg h1] at h
      by_cases h2 : cmpW b c = 0
      · obtain rfl := cmpW_zero h2
        rw [if_neg h1]; exact h
      · rw [if_neg h2] at h'
        have h3 := cmpW_trans h h'
        by_cases h4 : cmpW a c = 0
        · obtain rfl := cmpW_zero h4
          have := cmpW_neg a b
          omega
        · rw [if_neg h4]; exact h3
theorem cmpL_lt_le {l m k : List Vl} (h : cmpL l m < 0) (h' : cmpL m k ≤ 0) : cmpL l k < 0 := by
  have h1 := cmpL_trans (by omega : cmpL l m ≤ 0) h'
  rcases Int.lt_or_eq_of_le h1 with h2 | h2
  · exact h2
  · obtain rfl := cmpL_zero h2
    have := cmpL_neg l m
    omega
theorem cmpL_le_lt {l m k : List Vl} (h : cmpL l m ≤ 0) (h' : cmpL m k < 0) : cmpL l k < 0 := by
  have h1 := cmpL_trans h (by omega : cmpL m k ≤ 0)
  rcases Int.lt_or_eq_of_le h1 with h2 | h2
  · exact h2
  · obtain rfl := cmpL_zero h2
    have := cmpL_neg l m
    omega
/-- Two rows are the same if they are equal. -/
instance decRow : DecidableEq (List Vl) := fun a b => decidable_of_iff (cmpL a b = 0) ⟨cmpL_zero, fun h => h ▸ cmpL_self a⟩
abbrev Row := List Vl
instance (priority := 100000) rowBEq : BEq (List Vl) := instBEqOfDecidableEq
instance (priority := 100000) rowLaw : LawfulBEq (List Vl) := inferInstanceAs (@LawfulBEq (List Vl) instBEqOfDecidableEq)
/-- The rows ascend. -/
def Asc (l : List Row) : Prop := l.Pairwise fun a b => cmpL a b ≤ 0
theorem asc_unique : ∀ {l l' : List Row}, Asc l → Asc l' → (∀ r, l.count r = l'.count r) → l = l'
  | [], [], _, _, _ => rfl
  | [], b :: l', _, _, h => by have := h b; simp at this
  | a :: l, [], _, _, h => by have := h a; simp at this
  | a :: l, b :: l', ha, hb, h => by
    have e : a = b := by
      have h1 : b ∈ a :: l := by
        have := h b
        apply List.count_pos_iff.1
        rw [this]; simp
      have h2 : a ∈ b :: l' := by
        have := h a
        apply List.count_pos_iff.1
        rw [← this]; simp
      rcases List.mem_cons.1 h1 with e | m1
      · exact e.symm
      · rcases List.mem_cons.1 h2 with e | m2
        · exact e
        · have q1 := (List.pairwise_cons.1 ha).1 b m1
          have q2 := (List.pairwise_cons.1 hb).1 a m2
          have := cmpL_neg a b
          exact cmpL_zero (by omega)
    subst e
    rw [asc_unique (List.pairwise_cons.1 ha).2 (List.pairwise_cons.1 hb).2 (fun r => by have := h r; simp only [List.count_cons] at this; omega)]
theorem len_of_count_le : ∀ {l s : List Row}, (∀ r, l.count r ≤ s.count r) → l.length ≤ s.length
  | [], s, _ => by simp
  | a :: l, s, h => by
    have hm : a ∈ s := List.count_pos_iff.1 (by have := h a; rw [List.count_cons_self] at this; omega)
    have := len_of_count_le (l := l) (s := s.erase a) (fun r => by
      have := h r
      rw [List.count_cons] at this
      rw [List.count_erase]
      have e : (a == r) = (r == a) := by simp only [BEq.comm]
      split at this <;> simp_all <;> omega)
    rw [List.length_erase_of_mem hm] at this
    have := List.length_pos_of_mem hm
    simp; omega
theorem len_of_count_eq {l s : List Row} (h : ∀ r, l.count r = s.count r) : l.length = s.length := (List.perm_iff_count.2 h).length_eq
/-- How often a row occurs in two bags. -/
structure Tl where
  r : Row
  m : Nat
  n : Nat
def Tl.z : Tl := ⟨[], 0, 0⟩
/-- The tallies of A and B. -/
def TalOf (A B : List Row) (T : List Tl) : Prop :=
  T.Pairwise (fun s t => cmpL s.r t.r < 0) ∧ (∀ t ∈ T, t.m = A.count t.r ∧ t.n = B.count t.r) ∧ ∀ r, 0 < A.count r + B.count r → ∃ t ∈ T, t.r = r
/-- .. on the way: X and Y are what is left of A and B. -/
structure TalIn (A B : List Row) (T : List Tl) (X Y : List Row) : Prop where
  up : T.Pairwise (fun s t => cmpL s.r t.r < 0)
  cnt : ∀ t ∈ T, t.m = A.count t.r ∧ t.n = B.count t.r
  below : ∀ t ∈ T, ∀ x, x ∈ X ∨ x ∈ Y → cmpL t.r x < 0
  all : ∀ r, 0 < A.count r + B.count r → (∃ t ∈ T, t.r = r) ∨ r ∈ X ∨ r ∈ Y
  left : ∀ r, r ∈ X ∨ r ∈ Y → A.count r = X.count r ∧ B.count r = Y.count r
  ascX : Asc X
  ascY : Asc Y
theorem TalIn.start {A B X Y : List Row} (hA : X.Perm A) (hB : Y.Perm B) (aX : Asc X) (aY : Asc Y) : TalIn A B [] X Y where
  up := List.Pairwise.nil
  cnt := fun t h => by cases h
  below := fun t h => by cases h
  all := fun r h => by
    right
    rw [← hA.count_eq, ← hB.count_eq] at h
    by_cases h1 : 0 < X.count r
    · exact .inl (List.count_pos_iff.1 h1)
    · exact .inr (List.count_pos_iff.1 (by omega))
  left := fun r _ => ⟨(hA.count_eq r).symm, (hB.count_eq r).symm⟩
  ascX := aX
  ascY := aY
theorem TalIn.done {A B : List Row} {T : List Tl} (h : TalIn A B T [] []) : TalOf A B T :=
  ⟨h.up, h.cnt, fun r hr => by rcases h.all r hr with h | h | h <;> first | exact h | cases h⟩
/-- The rows ahead that are the same as r. -/
def lead (X : List Row) (r : Row) : Nat := (X.takeWhile fun x => decide (x = r)).length
theorem lead_le (X : List Row) (r : Row) : lead X r ≤ X.length := (List.takeWhile_sublist _).length_le
theorem lead_drop {X : List Row} {r : Row} (hX : Asc X) (hr : ∀ x ∈ X, cmpL r x ≤ 0) : lead X r = X.count r ∧ ∀ x ∈ X.drop (lead X r), cmpL r x < 0 := by
  induction X with
  | nil => simp [lead]
  | cons a X ih =>
    obtain ⟨h1, h2⟩ := List.pairwise_cons.1 hX
    by_cases e : a = r
    · subst e
      obtain ⟨i1, i2⟩ := ih h2 (fun x hx => hr x (List.mem_cons_of_mem _ hx))
      have : lead (a :: X) a = lead X a + 1 := by simp [lead]
      rw [this]
      exact ⟨by rw [List.count_cons_self, i1], by simpa using i2⟩
    · have hl : lead (a :: X) r = 0 := by simp [lead, e]
      have hlt : cmpL r a < 0 := by
        rcases Int.lt_or_eq_of_le (hr a (by simp)) with h | h
        · exact h
        · exact absurd (cmpL_zero h).symm e
      have hall : ∀ x ∈ a :: X, cmpL r x < 0 := fun x hx => by
        rcases List.mem_cons.1 hx with rfl | hx
        · exact hlt
        · exact cmpL_lt_le hlt (h1 x hx)
      rw [hl]
      refine ⟨(List.count_eq_zero.2 fun hm => ?_).symm, by simpa using hall⟩
      have := hall r hm
      rw [cmpL_self] at this
      omega
theorem count_drop_lt {X : List Row} {r x : Row} (hX : Asc X) (hr : ∀ x ∈ X, cmpL r x ≤ 0) (h : cmpL r x < 0) : (X.drop (lead X r)).count x = X.count x := by
  have ht : X.take (lead X r) = X.takeWhile fun x => decide (x = r) := by
    unfold lead
    exact (List.prefix_iff_eq_take.1 (List.takeWhile_prefix _)).symm
  have e := List.take_append_drop (lead X r) X
  have : X.count x = (X.take (lead X r)).count x + (X.drop (lead X r)).count x := by rw [← List.count_append, e]
  have hz : (X.takeWhile fun x => decide (x = r)).count x = 0 := by
    refine List.count_eq_zero.2 fun hm => ?_
    have := List.all_takeWhile (p := fun x => decide (x = r)) (l := X)
    have := List.all_eq_true.1 this x hm
    obtain rfl : x = r := by simpa using this
    rw [cmpL_self] at h
    omega
  rw [this, ht, hz, Nat.zero_add]
/-- One round: the least row r of both. -/
theorem TalIn.step {A B : List Row} {T : List Tl} {X Y : List Row} (h : TalIn A B T X Y) {r : Row} (hr : r ∈ X ∨ r ∈ Y) (hx : ∀ x ∈ X, cmpL r x ≤ 0) (hy : ∀ x ∈ Y, cmpL r x ≤ 0) :
    TalIn A B (T ++ [⟨r, lead X r, lead Y r⟩]) (X.drop (lead X r)) (Y.drop (lead Y r)) := by
  obtain ⟨x1, x2⟩ := lead_drop h.ascX hx
  obtain ⟨y1, y2⟩ := lead_drop h.ascY hy
  have sub : ∀ x, x ∈ X.drop (lead X r) ∨ x ∈ Y.drop (lead Y r) → (x ∈ X ∨ x ∈ Y) ∧ cmpL r x < 0 := fun x hx => by
    rcases hx with hx | hx
    · exact ⟨.inl (List.mem_of_mem_drop hx), x2 x hx⟩
    · exact ⟨.inr (List.mem_of_mem_drop hx), y2 x hx⟩
  obtain ⟨l1, l2⟩ := h.left r hr
  constructor
  · rw [List.pairwise_append]
    refine ⟨h.up, List.pairwise_singleton _ _, fun t ht s hs => ?_⟩
    obtain rfl := List.mem_singleton.1 hs
    exact h.below t ht r hr
  · intro t ht
    rcases List.mem_append.1 ht with ht | ht
    · exact h.cnt t ht
    · obtain rfl := List.mem_singleton.1 ht
      exact ⟨x1.trans l1.symm, y1.trans l2.symm⟩
  · intro t ht x hx
    obtain ⟨s1, s2⟩ := sub x hx
    rcases List.mem_append.1 ht with ht | ht
    · exact h.below t ht x s1
    · obtain rfl := List.mem_singleton.1 ht
      exact s2
  · intro q hq
    rcases h.all q hq with ⟨t, ht, e⟩ | hm
    · exact .inl ⟨t, List.mem_append.2 (.inl ht), e⟩
    · by_cases e : q = r
      · exact .inl ⟨⟨r, lead X r, lead Y r⟩, by simp, e.symm⟩
      · right
        rcases hm with hm | hm
        · left
          have hlt : cmpL r q < 0 := by
            rcases Int.lt_or_eq_of_le (hx q hm) with h | h
            · exact h
            · exact absurd (cmpL_zero h).symm e
          rw [← List.count_pos_iff, count_drop_lt h.ascX hx hlt]
          exact List.count_pos_iff.2 hm
        · right
          have hlt : cmpL r q < 0 := by
            rcases Int.lt_or_eq_of_le (hy q hm) with h | h
            · exact h
            · exact absurd (cmpL_zero h).symm e
          rw [← List.count_pos_iff, count_drop_lt h.ascY hy hlt]
          exact List.count_pos_iff.2 hm
  · intro q hq
    obtain ⟨s1, s2⟩ := sub q hq
    obtain ⟨q1, q2⟩ := h.left q s1
    exact ⟨by rw [count_drop_lt h.ascX hx s2]; exact q1, by rw [count_drop_lt h.ascY hy s2]; exact q2⟩
  · exact h.ascX.sublist (List.drop_sublist _ _)
  · exact h.ascY.sublist (List.drop_sublist _ _)
/-- What a tally becomes: each row as often as f says. -/
def comb (f : Nat → Nat → Nat) (T : List Tl) : List Row := T.flatMap fun t => List.replicate (f t.m t.n) t.r
/-- R has each row as often as f says, and ascends. -/
def CombOf (f : Nat → Nat → Nat) (A B R : List Row) : Prop := Asc R ∧ ∀ r, R.count r = f (A.count r) (B.count r)
theorem comb_asc (f : Nat → Nat → Nat) : ∀ {T : List Tl}, T.Pairwise (fun s t => cmpL s.r t.r < 0) → Asc (comb f T)
  | [], _ => List.Pairwise.nil
  | t :: T, h => by
    obtain ⟨h1, h2⟩ := List.pairwise_cons.1 h
    rw [comb, List.flatMap_cons]
    refine List.pairwise_append.2 ⟨?_, comb_asc f h2, fun a ha b hb => ?_⟩
    · rw [List.pairwise_replicate]
      right; rw [cmpL_self]; omega
    · obtain ⟨_, rfl⟩ := List.mem_replicate.1 ha
      obtain ⟨s, hs, hb⟩ := List.mem_flatMap.1 hb
      obtain ⟨_, rfl⟩ := List.mem_replicate.1 hb
      have := h1 s hs; omega
theorem comb_count_no (f : Nat → Nat → Nat) {T : List Tl} {r : Row} (h : ∀ t ∈ T, t.r ≠ r) : (comb f T).count r = 0 := by
  rw [List.count_eq_zero]
  intro hm
  obtain ⟨s, hs, hb⟩ := List.mem_flatMap.1 hm
  obtain ⟨_, rfl⟩ := List.mem_replicate.1 hb
  exact h s hs rfl
theorem comb_count (f : Nat → Nat → Nat) : ∀ {T : List Tl}, T.Pairwise (fun s t => cmpL s.r t.r < 0) → ∀ t ∈ T, (comb f T).count t.r = f t.m t.n
  | [], _, t, ht => by cases ht
  | u :: T, h, t, ht => by
    obtain ⟨h1, h2⟩ := List.pairwise_cons.1 h
    rw [comb, List.flatMap_cons, List.count_append]
    rcases List.mem_cons.1 ht with rfl | ht
    · have := comb_count_no f (T := T) (r := t.r) (fun s hs e => by have := h1 s hs; rw [e, cmpL_self] at this; omega)
      rw [comb] at this
      rw [this, List.count_replicate_self]; rfl
    · have := comb_count f h2 t ht
      rw [comb] at this
      have hne : u.r ≠ t.r := fun e => by have := h1 t ht; rw [e, cmpL_self] at this; omega
      rw [this, List.count_replicate, if_neg (by simpa using hne), Nat.zero_add]
theorem TalOf.comb {A B : List Row} {T : List Tl} (h : TalOf A B T) (f : Nat → Nat → Nat) (h0 : f 0 0 = 0) : CombOf f A B (comb f T) := by
  refine ⟨comb_asc f h.1, fun r => ?_⟩
  by_cases hr : 0 < A.count r + B.count r
  · obtain ⟨t, ht, rfl⟩ := h.2.2 r hr
    rw [comb_count f h.1 t ht, (h.2.1 t ht).1, (h.2.1 t ht).2]
  · have hA : A.count r = 0 := by omega
    have hB : B.count r = 0 := by omega
    rw [hA, hB, h0]
    by_cases hx : ∃ t ∈ T, t.r = r
    · obtain ⟨t, ht, rfl⟩ := hx
      rw [comb_count f h.1 t ht, (h.2.1 t ht).1, (h.2.1 t ht).2, hA, hB, h0]
    · exact comb_count_no f (fun t ht e => hx ⟨t, ht, e⟩)
theorem CombOf.le {f : Nat → Nat → Nat} {A B R : List Row} (h : CombOf f A B R) (hf : ∀ m n, f m n ≤ m + n) : R.length ≤ A.length + B.length := by
  have := len_of_count_le (l := R) (s := A ++ B) (fun r => by rw [h.2 r, List.count_append]; exact hf _ _)
  simpa using this
/-- Whether each row occurs equally often in both. -/
def eqB (A B : List Row) : Bool := A.isPerm B
theorem eqB_iff {A B : List Row} : eqB A B = true ↔ ∀ r, A.count r = B.count r := by
  unfold eqB
  rw [List.isPerm_iff, List.perm_iff_count]
theorem TalOf.eqB {A B : List Row} {T : List Tl} (h : TalOf A B T) : (!T.any fun t => t.m != t.n) = eqB A B := by
  rw [Bool.eq_iff_iff, eqB_iff]
  constructor
  · intro hT r
    by_cases hr : 0 < A.count r + B.count r
    · obtain ⟨t, ht, rfl⟩ := h.2.2 r hr
      have h1 : (T.any fun t => t.m != t.n) = false := by simpa using hT
      have := List.any_eq_false.1 h1 t ht
      rw [← (h.2.1 t ht).1, ← (h.2.1 t ht).2]
      simpa using this
    · omega
  · intro hc
    have h1 : (T.any fun t => t.m != t.n) = false := List.any_eq_false.2 fun t ht => by
      have := hc t.r
      rw [← (h.2.1 t ht).1, ← (h.2.1 t ht).2] at this
      simp [this]
    rw [h1]; rfl
/-- Whether each row occurs in A at least as often as in B. -/
def geB (A B : List Row) : Bool := B.all fun r => decide (B.count r ≤ A.count r)
theorem geB_iff {A B : List Row} : geB A B = true ↔ ∀ r, B.count r ≤ A.count r := by
  unfold geB
  rw [List.all_eq_true]
  constructor
  · intro h r
    by_cases hr : r ∈ B
    · simpa using h r hr
    · rw [List.count_eq_zero.2 hr]; omega
  · intro h r _
    simpa using h r
theorem TalOf.geB {A B : List Row} {T : List Tl} (h : TalOf A B T) : (!T.any fun t => decide (t.m < t.n)) = geB A B := by
  rw [Bool.eq_iff_iff, geB_iff]
  constructor
  · intro hT r
    by_cases hr : 0 < A.count r + B.count r
    · obtain ⟨t, ht, rfl⟩ := h.2.2 r hr
      have h1 : (T.any fun t => decide (t.m < t.n)) = false := by simpa using hT
      have := List.any_eq_false.1 h1 t ht
      rw [← (h.2.1 t ht).1, ← (h.2.1 t ht).2]
      simpa using this
    · omega
  · intro hc
    have h1 : (T.any fun t => decide (t.m < t.n)) = false := List.any_eq_false.2 fun t ht => by
      have := hc t.r
      rw [← (h.2.1 t ht).1, ← (h.2.1 t ht).2] at this
      simpa using this
    rw [h1]; rfl
end Go.Proofs.Ytihdfomkphbdnaa
