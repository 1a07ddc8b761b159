/-
  How much a query that came in holds, against the bulk of what was read.
-/
import Derived.Test.YtbnhmjecjeifdaaDoorQuery
import Derived.Test.YtbnhmjecjeifdaaDoorBulk
set_option linter.unusedVariables false
namespace Go.Proofs.YtbnhmjecjeifdaaDoor
open Go Go.RowKit Go.ChangeShapes Go.WideShapes Go.Joins Go.Deep
/-- The sum of the first n. -/
def sumN (f : Nat → Nat) : Nat → Nat
  | 0 => 0
  | n + 1 => sumN f n + f n
theorem sumN_le {f g : Nat → Nat} : ∀ {n : Nat}, (∀ i, i < n → f i ≤ g i) → sumN f n ≤ sumN g n
  | 0, _ => Nat.le_refl _
  | n + 1, h => Nat.add_le_add (sumN_le fun i hi => h i (by omega)) (h n (by omega))
theorem sumN_mono {f : Nat → Nat} {m : Nat} : ∀ {n : Nat}, m ≤ n → sumN f m ≤ sumN f n
  | 0, h => by obtain rfl : m = 0 := by omega
               exact Nat.le_refl _
  | n + 1, h => by
    rcases Nat.lt_or_ge n m with h1 | h1
    · obtain rfl : m = n + 1 := by omega
      exact Nat.le_refl _
    · exact Nat.le_trans (sumN_mono h1) (Nat.le_add_right _ _)
theorem sumN_at {f : Nat → Nat} {i n : Nat} (h : i < n) : f i ≤ sumN f n := Nat.le_trans (Nat.le_add_left _ _) (sumN_mono (f := f) (m := i + 1) (n := n) h)
theorem sumN_len {f : Nat → Nat} : ∀ {n : Nat}, (∀ i, i < n → 1 ≤ f i) → n ≤ sumN f n
  | 0, _ => Nat.zero_le _
  | n + 1, h => by have h1 := sumN_len (f := f) (n := n) fun i hi => h i (by omega); have h2 := h n (by omega); show n + 1 ≤ sumN f n + f n; omega
/-- Everything in a query, each as often as it is met. -/
def cntP (p : Qr) : Nat := p.table.size + cntE p.cond + cntL p.exprs + sumN (fun i => cntE (p.agg i).arg) p.gs.len + sumN (fun i => (p.row i).len) p.rs.len
def cntQ : Qy → Nat
  | .nil => 0
  | .mk p ks kid => 1 + cntP p + sumN (fun i => cntQ (kid i)) ks.len
section
variable {H : Type} {enc : TypeId × Value → H} {w : World} {base : Nat} {spare : Nat → Bool} {held : Bool}
/-- So much is in all of them if no more is in each. -/
theorem bulk_sum (u : Nat → Nat) : ∀ (elems : List (DataW H × List MemPlace)), (∀ i z, elems[i]? = some z → u i ≤ Rows.uptoBulk z.1) → sumN u elems.length ≤ Rows.uptoBulkAll (elems.map (·.1)) := by
  have key : ∀ (l : List (DataW H)), (∀ i z, l[i]? = some z → u i ≤ Rows.uptoBulk z) → sumN u l.length ≤ Rows.uptoBulkAll l := by
    intro l
    have app : ∀ (l r : List (DataW H)), Rows.uptoBulkAll (l ++ r) = Rows.uptoBulkAll l + Rows.uptoBulkAll r := by
      intro l r
      induction l with
      | nil => simp [Rows.uptoBulkAll]
      | cons x l ih => simp only [List.cons_append, Rows.uptoBulkAll, ih]; omega
    have key2 : ∀ (n : Nat) (l : List (DataW H)), l.length = n → (∀ i z, l[i]? = some z → u i ≤ Rows.uptoBulk z) → sumN u n ≤ Rows.uptoBulkAll l := by
      intro n
      induction n with
      | zero => intro l _ _; exact Nat.zero_le _
      | succ n ih =>
        intro l hl h
        have hd : l = l.take n ++ [l[n]] := by
          have := List.take_append_drop n l
          rw [List.drop_eq_getElem_cons (by omega), List.drop_of_length_le (by omega)] at this
          exact this.symm
        have h1 := ih (l.take n) (by simp; omega) fun i z hz => h i z (by
          rw [List.getElem?_take] at hz
          split at hz
          · exact hz
          · cases hz)
        have h2 := h n l[n] (by rw [List.getElem?_eq_getElem (by omega)])
        have h3 := congrArg Rows.uptoBulkAll hd
        rw [app] at h3
        simp only [Rows.uptoBulkAll] at h3
        show sumN u n + u n ≤ _
        omega
    exact key2 l.length l rfl
  intro elems h
  have h1 := key (elems.map (·.1)) fun i z hz => by
    rw [List.getElem?_map] at hz
    obtain ⟨y, hy, rfl⟩ := Option.map_eq_some_iff.1 hz
    exact h i y hy
  rwa [List.length_map] at h1
theorem open_slB {P : Program} {t e : TypeId} {k fuel : Nat} {cs : List Value} {x : DataW H × List MemPlace} (ht : P.underlying t = some (.slice e)) (hk : P.cellsOf e = k) (hk0 : 0 < k) (h : DataW.trod enc P w base spare held fuel t cs = some x) :
    ∃ (s : Sl) (cell : Nat → List Value) (elems : List (DataW H × List MemPlace)), cs = [s.v] ∧ SlAt w k s cell ∧ elems.length = s.len ∧ Rows.uptoBulkAll (elems.map (·.1)) + 1 ≤ Rows.uptoBulk x.1 ∧ ∀ i, i < s.len → (cell i).length = k ∧ ∃ m y, m < fuel ∧ elems[i]? = some y ∧ DataW.trod enc P w base spare held m e (cell i) = some y := by
  rcases DataW.trod_slice ht h with ⟨rfl, rfl⟩ | ⟨a, len, cap, elems, rest, n, hn, rfl, rfl, hb, hl, hm, hlen, hel, _, _⟩
  · exact ⟨Sl.z, fun _ => [], [], rfl, ⟨Nat.le_refl _, Nat.zero_le _, fun _ => ⟨rfl, rfl⟩, fun i hi => absurd hi (by simp [Sl.z])⟩, rfl, by simp [Rows.uptoBulk, Rows.uptoBulkAll], fun i hi => absurd hi (by simp [Sl.z])⟩
  · have hi : ∀ i, i < len → ∃ cs' : List Value, cs'.length = k ∧ (∃ m y, m < fuel ∧ elems[i]? = some y ∧ DataW.trod enc P w base spare held m e cs' = some y) ∧ ∀ j, j < k → w.cell? ((a.add (i * k)).add j) = cs'[j]? := fun i hil => by
      have h1 := hel i hil
      rw [List.getElem?_eq_getElem (by omega), hk] at h1
      obtain ⟨cs', hc, ht'⟩ := Option.bind_eq_some_iff.1 h1
      obtain ⟨_, hcl, hat⟩ := World.cells?_some hc
      exact ⟨cs', hcl, ⟨n, _, by omega, List.getElem?_eq_getElem (by omega), ht'⟩, fun j hj => by rw [hat j hj, List.getElem?_eq_getElem (by omega)]⟩
    obtain ⟨u, hu⟩ := Go.Deep.choose_lt hi
    obtain ⟨b, off, spot⟩ := a
    refine ⟨⟨some ⟨b, off, spot⟩, len, cap⟩, u, elems, rfl, ⟨hl, hm, (fun h => by cases h), fun i hil => ?_⟩, hlen, by simp only [Rows.uptoBulk]; omega, fun i hil => ⟨(hu i hil).1, (hu i hil).2.1⟩⟩
    have hil2 : i < len := hil
    have h0 := (hu i hil).2.2 0 hk0
    have hln := (hu i hil).1
    rw [List.getElem?_eq_getElem (by omega)] at h0
    have hspot : spot = none := by
      have h1 := (hu 0 (by omega)).2.2 0 hk0
      have hl1 := (hu 0 (by omega)).1
      rw [List.getElem?_eq_getElem (by omega), Nat.zero_mul, Go.Deep.add_add] at h1
      simpa [Addr.add] using World.cell?_spot h1
    subst hspot
    have hadd : ∀ j, (⟨b, off, none⟩ : Addr).add j = ⟨b, off + j, none⟩ := fun j => by unfold Addr.add; split <;> simp_all
    have hadd2 : ∀ o j, (⟨b, o, none⟩ : Addr).add j = ⟨b, o + j, none⟩ := fun o j => by unfold Addr.add; split <;> simp_all
    refine ⟨b, off, rfl, cells_below (p := ⟨b, off + i * k + 0, none⟩) (by rw [hadd, hadd2] at h0; exact h0), fun j hj => ?_⟩
    have h3 := (hu i hil).2.2 j hj
    rwa [hadd, hadd2] at h3
end
end Go.Proofs.YtbnhmjecjeifdaaDoor
