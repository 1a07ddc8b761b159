/-
  Slices of values that came in: what they hold, and how they stand in a row of cells.
-/
import Derived.Test.YtihdfomkphbdnaaLists
import Derived.Deep.Slices
import Derived.Deep.Strs
import Derived.Deep.Fields
import Derived.ProofKit
import Derived.Laws.AppendOwn
set_option linter.unusedVariables false
namespace Go.Proofs.Ytihdfomkphbdnaa
open Go Go.RowKit Go.ChangeShapes Go.WideShapes

theorem cells_lt {w : World} {p : Addr} {v : Value} (h : w.cell? p = some v) : p.block < w.heap.size := by
  rcases Nat.lt_or_ge p.block w.heap.size with h' | h'
  · exact h'
  · simp [World.cell?, Array.getElem?_eq_none h'] at h
theorem list3 {α : Type} {l : List α} (h : l.length = 3) : ∃ a b c, l = [a, b, c] := by
  match l, h with
  | [a, b, c], _ => exact ⟨a, b, c, rfl⟩
instance : Inhabited Vl := ⟨Vl.z⟩
theorem cellsVl : Try.prog.cellsOf 40 = 3 := by kernel_rfl
theorem cellsInt : Try.prog.cellsOf 3 = 1 := by kernel_rfl
theorem cellsInt64 : Try.prog.cellsOf 2 = 1 := by kernel_rfl
theorem cellsStr : Try.prog.cellsOf 9 = 1 := by kernel_rfl

section
variable {H : Type} {enc : TypeId × Value → H} {w : World} {spare : Nat → Bool} {held : Bool}
theorem open_vals {r : Reach} {b0 : Nat} {v : Value} {d : DataW H} {p : List MemPlace} (hval : Value.okWide Try.prog w r b0 24 v) (h : DataW.Trod enc Try.prog w 0 spare held 24 v d p) :
    ∃ (a : Option Addr) (len cap : Nat) (l : List Vl), v = .slice a len cap ∧ len ≤ cap ∧ cap ≤ maxLen ∧ (a = none → len = 0 ∧ cap = 0) ∧ Holds w a len l := by
  obtain ⟨a, len, cap, rfl⟩ := okWide_slice Try.underlying24 hval
  obtain ⟨fuel, hf⟩ := h
  rcases Go.Deep.open_slice Try.underlying24 hf with ⟨hcs, _⟩ | ⟨x, l', c', m, n, D, Pl, hcs, hb, hl, hm, hmm, _, hi⟩
  · simp [Value.cells] at hcs
    obtain ⟨rfl, rfl, rfl⟩ := hcs
    exact ⟨none, 0, 0, [], rfl, Nat.le_refl _, Nat.zero_le _, fun _ => ⟨rfl, rfl⟩, rfl, .inl rfl⟩
  · simp [Value.cells] at hcs
    obtain ⟨rfl, rfl, rfl⟩ := hcs
    have hel : ∀ i, i < len → ∃ u : Vl, w.cell? (x.add (i * 3)) = some (.int .i64 u.k) ∧ w.cell? (x.add (i * 3 + 1)) = some (.int .i64 u.n) ∧ w.cell? (x.add (i * 3 + 2)) = some (.string u.s) := fun i hil => by
      obtain ⟨cs', hc, ht⟩ := hi i (by rw [hmm]; split <;> omega)
      rw [cellsVl] at hc
      obtain ⟨_, hcl, hat⟩ := World.cells?_some hc
      obtain ⟨c0, c1, c2, rfl⟩ := list3 hcl
      obtain ⟨y0, y1, y2, n', _, _, t0, t1, t2⟩ := Go.Deep.trod_struct3 Try.underlying40 ht
      rw [cellsInt] at t0
      rw [cellsInt64] at t1
      rw [cellsStr] at t2
      obtain ⟨k, e0, _⟩ := DataW.trod_int Try.underlying3 t0
      obtain ⟨nn, e1, _⟩ := DataW.trod_int Try.underlying2 t1
      obtain ⟨s, e2, _⟩ := DataW.trod_string Try.underlying9 t2
      simp at e0 e1 e2
      subst e0 e1 e2
      have a0 := hat 0 (by omega)
      have a1 := hat 1 (by omega)
      have a2 := hat 2 (by omega)
      rw [Go.Deep.add_add] at a0 a1 a2
      exact ⟨⟨k, nn, s⟩, a0, a1, a2⟩
    obtain ⟨u, hu⟩ := Go.Deep.choose_lt hel
    refine ⟨some x, len, cap, (List.range len).map u, rfl, hl, hm, (fun h => by cases h), by simp, ?_⟩
    by_cases h0 : len = 0
    · exact .inl h0
    · right
      obtain ⟨b, off, spot⟩ := x
      have hz := (hu 0 (by omega)).1
      have hspot : spot = none := by simpa [Addr.add] using World.cell?_spot hz
      subst hspot
      have hadd : ∀ j, (⟨b, off, none⟩ : Addr).add j = ⟨b, off + j, none⟩ := fun j => by unfold Addr.add; split <;> simp_all
      refine ⟨b, off, rfl, cells_lt hz |> fun h => by rw [hadd] at h; exact h, fun i hi' => ?_⟩
      have hg : ((List.range len).map u).getD i Vl.z = u i := by simp [List.getD, hi']
      rw [hg]
      obtain ⟨h1, h2, h3⟩ := hu i hi'
      rw [hadd] at h1 h2 h3
      exact ⟨h1, h2, h3⟩
end

/-- The cells of a list of values. -/
def flatV : List Vl → List Value
  | [] => []
  | u :: l => .int .i64 u.k :: .int .i64 u.n :: .string u.s :: flatV l
theorem flatV_length (l : List Vl) : (flatV l).length = l.length * 3 := by
  induction l with
  | nil => rfl
  | cons u l ih => simp [flatV, ih]; omega
theorem flatV_append (l m : List Vl) : flatV (l ++ m) = flatV l ++ flatV m := by
  induction l with
  | nil => rfl
  | cons u l ih => simp [flatV, ih]
theorem flatV_at (l : List Vl) : ∀ i, i < l.length → (flatV l)[i * 3]? = some (.int .i64 (l.getD i Vl.z).k) ∧ (flatV l)[i * 3 + 1]? = some (.int .i64 (l.getD i Vl.z).n) ∧ (flatV l)[i * 3 + 2]? = some (.string (l.getD i Vl.z).s) := by
  induction l with
  | nil => intro i h; simp at h
  | cons u l ih =>
    intro i h
    cases i with
    | zero => simp [flatV]
    | succ i =>
      have h2 := ih i (by simpa using h)
      rw [show (i + 1) * 3 = i * 3 + 3 by omega]
      simpa [flatV, List.getD] using h2
theorem flatV_one (l : List Vl) : ∀ u ∈ flatV l, u.oneCell' = true := by
  induction l with
  | nil => intro u h; simp [flatV] at h
  | cons x l ih =>
    intro u h
    simp only [flatV, List.mem_cons] at h
    rcases h with rfl | rfl | rfl | h
    · rfl
    · rfl
    · rfl
    · exact ih u h
theorem Holds.flat {w : World} {b off len : Nat} {l : List Vl} (h : ∀ i, i < len → w.cell? ⟨b, off + i * 3, none⟩ = some (.int .i64 (l.getD i Vl.z).k) ∧ w.cell? ⟨b, off + i * 3 + 1, none⟩ = some (.int .i64 (l.getD i Vl.z).n) ∧ w.cell? ⟨b, off + i * 3 + 2, none⟩ = some (.string (l.getD i Vl.z).s)) (hl : l.length = len) :
    ∀ j u, (flatV l)[j]? = some u → w.cell? ((⟨b, off, none⟩ : Addr).add j) = some u := by
  intro j u hj
  have hjl : j < len * 3 := by
    have := (List.getElem?_eq_some_iff.1 hj).1
    rw [flatV_length, hl] at this
    exact this
  have hadd : (⟨b, off, none⟩ : Addr).add j = ⟨b, off + j, none⟩ := by unfold Addr.add; split <;> simp_all
  rw [hadd]
  obtain ⟨f0, f1, f2⟩ := flatV_at l (j / 3) (by omega)
  obtain ⟨g0, g1, g2⟩ := h (j / 3) (by omega)
  have h3 : j % 3 = 0 ∨ j % 3 = 1 ∨ j % 3 = 2 := by omega
  rcases h3 with h3 | h3 | h3
  · have e : j / 3 * 3 = j := by omega
    rw [e] at f0 g0
    rw [hj] at f0
    rw [g0, ← f0]
  · have e : j / 3 * 3 + 1 = j := by omega
    rw [e] at f1
    rw [Nat.add_assoc, e] at g1
    rw [hj] at f1
    rw [g1, ← f1]
  · have e : j / 3 * 3 + 2 = j := by omega
    rw [e] at f2
    rw [Nat.add_assoc, e] at g2
    rw [hj] at f2
    rw [g2, ← f2]
/-- A row of one's own that holds these cells, as a slice that holds these values. -/
theorem Holds.own {w : World} {base n : Nat} {v : Value} {l : List Vl} (h : w.ownsRow base 40 3 v n (flatV l)) : ∃ a cap, v = .slice a n cap ∧ n ≤ cap ∧ cap ≤ maxLen ∧ Holds w a n l := by
  have hlen : l.length = n := by have := h.1; rw [flatV_length] at this; omega
  rcases h.2 with ⟨rfl, h0⟩ | ⟨g, cap, cur, rfl, hb, hh, hn, hc, hs, ht⟩
  · subst h0; exact ⟨none, 0, rfl, Nat.le_refl _, Nat.zero_le _, hlen, .inl rfl⟩
  · refine ⟨some ⟨g, 0, none⟩, cap, rfl, hn, hc, hlen, ?_⟩
    by_cases h0 : n = 0
    · exact .inl h0
    · right
      refine ⟨g, 0, rfl, (Array.getElem?_eq_some_iff.1 hh).1, fun i hi => ?_⟩
      have hcell := World.ownsRow.cells h (g := g) rfl
      obtain ⟨f0, f1, f2⟩ := flatV_at l i (by omega)
      have c0 := hcell _ _ f0
      have c1 := hcell _ _ f1
      have c2 := hcell _ _ f2
      have hadd : ∀ j, (⟨g, 0, none⟩ : Addr).add j = ⟨g, 0 + j, none⟩ := fun j => by unfold Addr.add; split <;> simp_all
      rw [hadd] at c0 c1 c2
      exact ⟨c0, c1, c2⟩
end Go.Proofs.Ytihdfomkphbdnaa
