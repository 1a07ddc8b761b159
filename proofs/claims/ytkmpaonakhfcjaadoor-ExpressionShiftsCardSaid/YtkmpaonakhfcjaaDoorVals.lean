/-
  A list of values as an argument.
-/
import Derived.Test.YtkmpaonakhfcjaaDoorTab
import Derived.Test.YtkmpaonakhfcjaaDoorRKids
set_option linter.unusedVariables false
namespace Go.Proofs.YtkmpaonakhfcjaaDoor
open Go Go.RowKit Go.ChangeShapes Go.WideShapes Go.Joins Go.Deep
theorem cellsVl : Tryd.prog.cellsOf 39 = 3 := by kernel_rfl
theorem list3v {α : Type} {l : List α} (h : l.length = 3) : ∃ a b c, l = [a, b, c] := by
  match l, h with
  | [a, b, c], _ => exact ⟨a, b, c, rfl⟩
/-- An argument list of values. -/
def ValsAt (w : World) (s : Sl) (row : List Vl) : Prop := RowIs w s.a s.len s.cap row ∧ (s.a = none → s.cap = 0)
theorem row_news {w : World} {ad : Addr} {len cap : Nat} {row : List Vl} (h : RowIs w (some ad) len cap row) : ∀ j u, (flatV row)[j]? = some u → w.cell? (ad.add j) = some u := by
  intro j u hu
  have hj : j < row.length * 3 := by
    have := (List.getElem?_eq_some_iff.1 hu).1
    rwa [flatV_length] at this
  have hl := h.1
  obtain ⟨b, off, ha, hb, hc⟩ := h.2.2.2.2.resolve_left (by omega)
  obtain rfl := Option.some.inj ha
  have hadd : ∀ o : Nat, (⟨b, off, none⟩ : Addr).add o = ⟨b, off + o, none⟩ := fun o => by unfold Addr.add; split <;> simp_all
  rw [hadd]
  obtain ⟨h0, h1, h2⟩ := hc (j / 3) (by omega)
  obtain ⟨f0, f1, f2⟩ := flatV_at row (j / 3) (by omega)
  rcases (by omega : j % 3 = 0 ∨ j % 3 = 1 ∨ j % 3 = 2) with e | e | e
  · have ej : j = j / 3 * 3 := by omega
    rw [ej, f0] at hu; rw [ej, h0]; exact hu
  · have ej : j = j / 3 * 3 + 1 := by omega
    rw [ej, f1] at hu; rw [ej, ← Nat.add_assoc, h1]; exact hu
  · have ej : j = j / 3 * 3 + 2 := by omega
    rw [ej, f2] at hu; rw [ej, ← Nat.add_assoc, h2]; exact hu
theorem flatV_one (l : List Vl) : ∀ u ∈ flatV l, u.oneCell' = true := by
  induction l with
  | nil => intro u h; simp [flatV] at h
  | cons r l ih =>
    intro u h
    simp only [flatV, List.mem_append] at h
    rcases h with h | h
    · simp only [Vl.cells, List.mem_cons, List.not_mem_nil, or_false] at h
      rcases h with rfl | rfl | rfl <;> rfl
    · exact ih u h
section
variable {H : Type} {enc : TypeId × Value → H} {w : World} {base : Nat} {spare : Nat → Bool} {held : Bool}
theorem one_struct3v {P : Program} {t : TypeId} {f0 f1 f2 : Field} {fuel : Nat} {cs : List Value} {x : DataW H × List MemPlace} (ht : P.underlying t = some (.struct #[f0, f1, f2])) (hone : oneCellFields P #[f0, f1, f2] = true) (hC : P.cellsOf t = 3)
    (h : DataW.trod enc P w base spare held fuel t cs = some x) : ∃ c0 c1 c2 y0 y1 y2 n, fuel = n + 1 ∧ cs = [c0, c1, c2] ∧ DataW.trod enc P w base spare held n f0.type [c0] = some y0 ∧ DataW.trod enc P w base spare held n f1.type [c1] = some y1 ∧ DataW.trod enc P w base spare held n f2.type [c2] = some y2 := by
  obtain ⟨xs, n, hn, _, hl, hlen, hg⟩ := DataW.trod_struct ht h
  obtain ⟨c0, c1, c2, rfl⟩ := list3v (hl.trans hC)
  obtain ⟨o0, k0⟩ := hone_of hone 0 f0 rfl
  obtain ⟨o1, k1⟩ := hone_of hone 1 f1 rfl
  obtain ⟨o2, k2⟩ := hone_of hone 2 f2 rfl
  match xs, hlen with
  | [y0, y1, y2], _ => exact ⟨c0, c1, c2, y0, y1, y2, n, hn, rfl, by simpa [o0, k0] using hg 0 f0 rfl, by simpa [o1, k1] using hg 1 f1 rfl, by simpa [o2, k2] using hg 2 f2 rfl⟩
set_option maxRecDepth 100000 in
theorem open_vls {r : Reach} {b0 : Nat} {v : Value} {d : DataW H} {p : List MemPlace} (hval : Value.okWide Tryd.prog w r b0 32 v) (h : DataW.Trod enc Tryd.prog w base spare held 32 v d p) :
    ∃ (s : Sl) (row : List Vl), v = .slice s.a s.len s.cap ∧ ValsAt w s row := by
  obtain ⟨a0, len0, cap0, rfl⟩ := okWide_slice Tryd.underlying32 hval
  obtain ⟨fuel, hf⟩ := h
  obtain ⟨s, cell, hs, hat, hc⟩ := open_sl Tryd.underlying32 cellsVl (by omega) hf
  have hi : ∀ i, i < s.len → ∃ c : Vl, cell i = c.cells ∧ c.s.size ≤ maxLen := fun i hi => by
    obtain ⟨_, m, y, _, ht⟩ := hc i hi
    obtain ⟨c0, c1, c2, y0, y1, y2, n, _, e, t0, t1, t2⟩ := one_struct3v Tryd.underlying39 (by kernel_rfl) cellsVl ht
    obtain ⟨k0, e0, _, f0⟩ := DataW.trod_int Tryd.underlying3 t0
    obtain ⟨k1, e1, _, f1⟩ := DataW.trod_int Tryd.underlying2 t1
    obtain ⟨k2, e2, _, f2⟩ := DataW.trod_string Tryd.underlying9 t2
    simp only [List.cons.injEq, and_true] at e0 e1 e2
    subst e0 e1 e2
    exact ⟨⟨k0, k1, k2⟩, e, f2⟩
  obtain ⟨f, hf2⟩ := Go.Deep.choose_lt hi
  simp [Value.cells, Sl.v] at hs
  obtain ⟨rfl, rfl, rfl⟩ := hs
  have hg : ∀ i, i < s.len → ((List.range s.len).map f).getD i Vl.z = f i := fun i hi => by simp [List.getD, hi]
  refine ⟨s, (List.range s.len).map f, rfl, ⟨by simp, hat.1, hat.2.1, ?_, ?_⟩, fun h => (hat.2.2.1 h).2⟩
  · intro v hv
    simp only [List.mem_map, List.mem_range] at hv
    obtain ⟨i, hi, rfl⟩ := hv
    exact (hf2 i hi).2
  · by_cases h0 : s.len = 0
    · exact .inl h0
    · right
      obtain ⟨b, off, ha, hb, _⟩ := hat.2.2.2 0 (by omega)
      refine ⟨b, off, ha, hb, fun i hi => ?_⟩
      obtain ⟨b', off', ha', _, hcell⟩ := hat.2.2.2 i hi
      obtain ⟨rfl, rfl⟩ : b' = b ∧ off' = off := by
        rw [ha] at ha'
        simp only [Option.some.injEq, Addr.mk.injEq, and_true] at ha'
        exact ⟨ha'.1.symm, ha'.2.symm⟩
      rw [hg i hi]
      have e := (hf2 i hi).1
      refine ⟨?_, ?_, ?_⟩
      · have := hcell 0 (by omega); rw [e] at this; exact this
      · have := hcell 1 (by omega); rw [e] at this; exact this
      · have := hcell 2 (by omega); rw [e] at this; exact this
end
end Go.Proofs.YtkmpaonakhfcjaaDoor
