/-
  A schema as an argument of a law.
-/
import Derived.Test.YtilnnpeknkjjmaaSchema
set_option linter.unusedVariables false
namespace Go.Proofs.Ytilnnpeknkjjmaa
open Go Go.RowKit Go.ChangeShapes Go.WideShapes Go.Joins Go.Deep
theorem cellsS : Try.prog.cellsOf 24 = 1 := by kernel_rfl
section
variable {H : Type} {enc : TypeId × Value → H} {w : World} {base : Nat} {spare : Nat → Bool} {held : Bool}
theorem one_struct1 {P : Program} {t : TypeId} {f0 : Field} {fuel : Nat} {cs : List Value} {x : DataW H × List MemPlace} (ht : P.underlying t = some (.struct #[f0])) (hone : oneCellFields P #[f0] = true) (hC : P.cellsOf t = 1)
    (h : DataW.trod enc P w base spare held fuel t cs = some x) : ∃ c0 y0 n, fuel = n + 1 ∧ cs = [c0] ∧ DataW.trod enc P w base spare held n f0.type [c0] = some y0 := by
  obtain ⟨xs, n, hn, _, hl, hlen, hg⟩ := DataW.trod_struct ht h
  obtain ⟨c0, rfl⟩ := list1' (hl.trans hC)
  obtain ⟨o0, k0⟩ := hone_of hone 0 f0 rfl
  match xs, hlen with
  | [y0], _ => exact ⟨c0, y0, n, hn, rfl, by simpa [o0, k0] using hg 0 f0 rfl⟩
set_option maxRecDepth 100000 in
theorem open_schema {r : Reach} {b0 : Nat} {v : Value} {d : DataW H} {p : List MemPlace} (hval : Value.okWide Try.prog w r b0 24 v) (h : DataW.Trod enc Try.prog w base spare held 24 v d p) :
    ∃ (sl : Sl) (tb : Nat → Tb), v = .agg #[.slice sl.a sl.len sl.cap] ∧ TabsAt w sl tb := by
  obtain ⟨cs, rfl, hsz⟩ := okWide_struct Try.underlying24 hval
  obtain ⟨fuel, hf⟩ := h
  obtain ⟨c0, y0, m, hnm, hcs, t0⟩ := one_struct1 Try.underlying24 (by kernel_rfl) cellsS hf
  obtain ⟨sl, tb, e0, hk⟩ := open_tabs t0
  simp only [List.cons.injEq, and_true] at e0
  subst e0
  refine ⟨sl, tb, ?_, hk⟩
  obtain ⟨l⟩ := cs
  simp [Value.cells] at hcs
  simp [hcs, Sl.v]
end
end Go.Proofs.Ytilnnpeknkjjmaa
