/-
  An array of six small integers, as the reader reads it: taken apart.
-/
import Derived.Test.YthlaejodajdioaaFBase
import Derived.WalkKit
import Derived.ProofKit
import Derived.OpenShut
import Derived.Lib.SmallJoins
set_option linter.unusedVariables false
namespace Go.Proofs.Ythlaejodajdioaa
open Go Go.RowKit
theorem array6 {α : Type} {cs : Array α} (h : cs.size = 6) : ∃ c0 c1 c2 c3 c4 c5, cs = #[c0, c1, c2, c3, c4, c5] := by
  obtain ⟨l⟩ := cs
  match l, h with
  | [c0, c1, c2, c3, c4, c5], _ => exact ⟨c0, c1, c2, c3, c4, c5, rfl⟩
theorem open_six {H : Type} {enc : TypeId × Value → H} {W : World} {r : Reach} {b0 base : Nat} {spare : Nat → Bool} {held : Bool} {v : Value} {d : DataW H} {p : List MemPlace}
    (hv : Value.okWide Try.prog W r b0 30 v) (h : DataW.Trod enc Try.prog W base spare held 30 v d p) :
    ∃ a0 a1 a2 a3 a4 a5 : Int, v = .agg #[.int .i16 a0, .int .i16 a1, .int .i16 a2, .int .i16 a3, .int .i16 a4, .int .i16 a5] ∧ (Lit.int .i16 a0).wf = true ∧ (Lit.int .i16 a1).wf = true ∧ (Lit.int .i16 a2).wf = true ∧ (Lit.int .i16 a3).wf = true ∧ (Lit.int .i16 a4).wf = true ∧ (Lit.int .i16 a5).wf = true := by
  have ht := Try.underlying30
  have hC : Try.prog.cellsOf 30 = 6 := by kernel_rfl
  have hE : Try.prog.cellsOf 29 = 1 := by kernel_rfl
  simp only [Value.okWide, ht] at hv
  obtain ⟨cs, rfl, hsz, _⟩ := hv
  obtain ⟨c0, c1, c2, c3, c4, c5, rfl⟩ := array6 (hsz.trans hC)
  obtain ⟨fuel, hf⟩ := h
  obtain ⟨xs, m, _, _, _, hl, hx⟩ := DataW.trod_array ht hf
  rw [hE] at hx
  have key : ∀ (i : Nat) (c : Value), i < 6 → (([c0, c1, c2, c3, c4, c5].drop (i * 1)).take 1) = [c] → ∃ a, c = .int .i16 a ∧ (Lit.int .i16 a).wf = true := by
    intro i c hi hc
    have h1 := hx i hi
    rw [show (Value.agg #[c0, c1, c2, c3, c4, c5]).cells.toList = [c0, c1, c2, c3, c4, c5] from rfl, hc] at h1
    rw [List.getElem?_eq_getElem (by omega)] at h1
    obtain ⟨a, ha, _, wa⟩ := DataW.trod_int Try.underlying29 h1
    exact ⟨a, List.cons.inj ha |>.1, wa⟩
  obtain ⟨a0, rfl, w0⟩ := key 0 c0 (by omega) rfl
  obtain ⟨a1, rfl, w1⟩ := key 1 c1 (by omega) rfl
  obtain ⟨a2, rfl, w2⟩ := key 2 c2 (by omega) rfl
  obtain ⟨a3, rfl, w3⟩ := key 3 c3 (by omega) rfl
  obtain ⟨a4, rfl, w4⟩ := key 4 c4 (by omega) rfl
  obtain ⟨a5, rfl, w5⟩ := key 5 c5 (by omega) rfl
  exact ⟨a0, a1, a2, a3, a4, a5, rfl, w0, w1, w2, w3, w4, w5⟩
end Go.Proofs.Ythlaejodajdioaa
