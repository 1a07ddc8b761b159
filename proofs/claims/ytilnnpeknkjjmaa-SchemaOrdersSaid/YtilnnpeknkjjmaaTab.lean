/-
  Slices of structs as arguments: what their cells hold.
-/
import Derived.Test.YtilnnpeknkjjmaaTree
set_option linter.unusedVariables false
namespace Go.Proofs.Ytilnnpeknkjjmaa
open Go Go.RowKit Go.ChangeShapes Go.WideShapes Go.Joins Go.Deep
/-- A slice's three parts. -/
structure Sl where
  a : Option Addr
  len : Nat
  cap : Nat
def Sl.v (s : Sl) : Value := .slice s.a s.len s.cap
def Sl.z : Sl := ⟨none, 0, 0⟩
/-- The slice's elements are k cells each, and these are they. -/
def SlAt (w : World) (k : Nat) (s : Sl) (cell : Nat → List Value) : Prop :=
  s.len ≤ s.cap ∧ s.cap ≤ maxLen ∧ (s.a = none → s.len = 0 ∧ s.cap = 0) ∧ ∀ i, i < s.len → ∃ b off, s.a = some ⟨b, off, none⟩ ∧ b < w.heap.size ∧ ∀ j, j < k → w.cell? ⟨b, off + i * k + j, none⟩ = (cell i)[j]?
theorem SlAt.later {w w' : World} {k : Nat} {s : Sl} {cell : Nat → List Value} (h : SlAt w k s cell) (hb : Below w.heap.size w w') : SlAt w' k s cell := by
  refine ⟨h.1, h.2.1, h.2.2.1, fun i hi => ?_⟩
  obtain ⟨b, off, ha, hlt, hc⟩ := h.2.2.2 i hi
  exact ⟨b, off, ha, Nat.lt_of_lt_of_le hlt hb.size, fun j hj => by rw [hb.cell (p := ⟨b, _, none⟩) hlt]; exact hc j hj⟩
section
variable {H : Type} {enc : TypeId × Value → H} {w : World} {base : Nat} {spare : Nat → Bool} {held : Bool}
theorem open_sl {P : Program} {t e : TypeId} {k fuel : Nat} {cs : List Value} {x : DataW H × List MemPlace} (ht : P.underlying t = some (.slice e)) (hk : P.cellsOf e = k) (hk0 : 0 < k) (h : DataW.trod enc P w base spare held fuel t cs = some x) :
    ∃ (s : Sl) (cell : Nat → List Value), cs = [s.v] ∧ SlAt w k s cell ∧ ∀ i, i < s.len → (cell i).length = k ∧ ∃ m y, m < fuel ∧ DataW.trod enc P w base spare held m e (cell i) = some y := by
  rcases DataW.trod_slice ht h with ⟨rfl, _⟩ | ⟨a, len, cap, elems, rest, n, hn, rfl, rfl, hb, hl, hm, hlen, hel, _, _⟩
  · exact ⟨Sl.z, fun _ => [], rfl, ⟨Nat.le_refl _, Nat.zero_le _, fun _ => ⟨rfl, rfl⟩, fun i hi => absurd hi (by simp [Sl.z])⟩, fun i hi => absurd hi (by simp [Sl.z])⟩
  · have hi : ∀ i, i < len → ∃ cs' : List Value, cs'.length = k ∧ (∃ m y, m < fuel ∧ DataW.trod enc P w base spare held m e cs' = some y) ∧ ∀ j, j < k → w.cell? ((a.add (i * k)).add j) = cs'[j]? := fun i hil => by
      have h1 := hel i hil
      rw [List.getElem?_eq_getElem (by omega), hk] at h1
      obtain ⟨cs', hc, ht'⟩ := Option.bind_eq_some_iff.1 h1
      obtain ⟨_, hcl, hat⟩ := World.cells?_some hc
      exact ⟨cs', hcl, ⟨n, _, by omega, ht'⟩, fun j hj => by rw [hat j hj, List.getElem?_eq_getElem (by omega)]⟩
    obtain ⟨u, hu⟩ := Go.Deep.choose_lt hi
    obtain ⟨b, off, spot⟩ := a
    refine ⟨⟨some ⟨b, off, spot⟩, len, cap⟩, u, rfl, ⟨hl, hm, (fun h => by cases h), fun i hil => ?_⟩, fun i hil => ⟨(hu i hil).1, (hu i hil).2.1⟩⟩
    have hil2 : i < len := hil
    have h0 := (hu i hil).2.2 0 hk0
    have hln := (hu i hil).1
    rw [List.getElem?_eq_getElem (by omega)] at h0
    have hspot : spot = none := by
      have h1 := (hu 0 (by omega)).2.2 0 hk0
      have hl1 := (hu 0 (by omega)).1
      rw [List.getElem?_eq_getElem (by omega), Nat.zero_mul, Go.Deep.add_add] at h1
      simpa [Addr.add] using World.cell?_spot h1
    subst hspot
    have hadd : ∀ (o j : Nat), (⟨b, o, none⟩ : Addr).add j = ⟨b, o + j, none⟩ := fun o j => by unfold Addr.add; split <;> simp_all
    refine ⟨b, off, rfl, ?_, fun j hj => ?_⟩
    · rw [hadd, hadd] at h0
      exact cells_below h0
    · have := (hu i hil).2.2 j hj
      rw [hadd, hadd] at this
      exact this
end
end Go.Proofs.Ytilnnpeknkjjmaa
