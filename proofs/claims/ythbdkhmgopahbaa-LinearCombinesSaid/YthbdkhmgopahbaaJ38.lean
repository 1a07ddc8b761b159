/-
  An argument that is a list of numbers, opened.
-/
import Derived.Test.YthbdkhmgopahbaaJ35
set_option linter.unusedVariables false
namespace Go.Proofs.Ythbdkhmgopahbaa
open Go Go.RowKit Go.Deep Go.ChangeShapes Go.WideShapes
set_option maxRecDepth 100000 in
theorem open_numsA {H : Type} {enc : TypeId × Value → H} {w : World} {base : Nat} {spare : Nat → Bool} {held : Bool} {r : Reach} {b0 : Nat} {v : Value} {d : DataW H} {p : List MemPlace} (hval : Value.okWide Try.prog w r b0 22 v) (h : DataW.Trod enc Try.prog w base spare held 22 v d p) :
    ∃ (a : Option Addr) (len cap : Nat), v = .slice a len cap ∧ NumsA w a len := by
  obtain ⟨a0, len0, cap0, rfl⟩ := okWide_slice Try.underlying22 hval
  obtain ⟨fuel, hf⟩ := h
  refine ⟨a0, len0, cap0, rfl, ?_⟩
  rcases DataW.trod_slice Try.underlying22 hf with ⟨hc, _⟩ | ⟨a, len, cap, elems, rest, n, hn, hc, _, hb, hl, hm, hlen, hel, _, _⟩
  · simp [Value.cells] at hc
    obtain ⟨rfl, rfl, rfl⟩ := hc
    exact ⟨Nat.zero_le _, .inl rfl⟩
  · simp [Value.cells] at hc
    obtain ⟨rfl, rfl, rfl⟩ := hc
    refine ⟨by omega, ?_⟩
    by_cases h0 : len0 = 0
    · exact .inl h0
    · have hi : ∀ i, i < len0 → ∃ n : Int, (Lit.int .i64 n).wf = true ∧ w.cell? (a.add i) = some (.int .i64 n) := fun i hil => by
        have h1 := hel i hil
        rw [List.getElem?_eq_getElem (by omega), show Try.prog.cellsOf 3 = 1 by kernel_rfl, Nat.mul_one] at h1
        obtain ⟨cs', hc, ht⟩ := Option.bind_eq_some_iff.1 h1
        obtain ⟨_, hcl, hat⟩ := World.cells?_some hc
        obtain ⟨k0, e0, _, f0⟩ := DataW.trod_int Try.underlying3 ht
        subst e0
        have := hat 0 (by omega)
        rw [Go.Deep.add_add] at this
        exact ⟨k0, f0, this⟩
      obtain ⟨b, off, spot⟩ := a
      obtain ⟨n0, _, hq0⟩ := hi 0 (by omega)
      have hspot : spot = none := by simpa [Addr.add] using World.cell?_spot hq0
      subst hspot
      have hadd : ∀ j, (⟨b, off, none⟩ : Addr).add j = ⟨b, off + j, none⟩ := fun j => by unfold Addr.add; split <;> simp_all
      refine .inr ⟨b, off, rfl, cell_lt hq0, fun i hil => ?_⟩
      obtain ⟨n, hn, hq⟩ := hi i hil
      rw [hadd] at hq
      exact ⟨n, hn, hq⟩
end Go.Proofs.Ythbdkhmgopahbaa
