/-
  What the walks of laws over the tape use: its calls by their numbers, and the list of numbers that it is made of.
-/
import Derived.Test.YtkmpaonakhfcjaaDoorExprAll
set_option linter.unusedVariables false
namespace Go.Proofs.YtkmpaonakhfcjaaDoor
open Go Go.RowKit Go.Deep
theorem ExprOf.use {d B : Nat} (h : ExprOf d B) (T m : Nat) (ty : List Int) (k : Int) (a : Option Addr) (len cap : Nat) (w : World) (dd : Int) (hd : dd = (d : Nat)) (h1 : TapeAt T m w) (h2 : IntsAt T w a len cap ty) (h3 : IsTy k) (h4 : m + B ≤ 2 ^ 60) (h5 : len ≤ 1000) :
    Calls Tryd.prog 9 #[.pointer (some ⟨T, 0, none⟩), .slice a len cap, .int .i64 k, .int .i64 dd] w fun r w' => MadeBy T (m + B) d ty k w r w' := by
  subst hd; exact h.call T m ty k a len cap w h1 h2 h3 h4 h5
theorem Types_use (T m most : Nat) (mm : Int) (w : World) (h : TapeAt T m w) (h1 : 1 ≤ most) (h2 : most ≤ 100) (hm : m ≤ 2 ^ 60) (hmm : mm = (most : Nat)) :
    Calls Tryd.prog 7 #[.pointer (some ⟨T, 0, none⟩), .int .i64 mm] w fun e w' => ∃ (l : List Int) (a : Option Addr) (cap : Nat), e = .returned (.slice a l.length cap) ∧ 1 ≤ l.length ∧ l.length ≤ most ∧ TyL l ∧ IntsAt T w' a l.length cap l ∧ Tq T (m + 1 + most) w w' := by
  subst hmm; exact Types_calls T m most w h h1 h2 hm
theorem OpsTab.tp {T : Nat} {w w' : World} (h : OpsTab w) (hb : Tp T w w') (hT : 0 ≠ T) : OpsTab w' := by
  refine ⟨Nat.lt_of_lt_of_le h.1 hb.size, fun i hi => ?_⟩
  obtain ⟨h0, h1, h2, h3, h4⟩ := h.2 i hi
  have key : ∀ o, w'.cell? ⟨0, o, none⟩ = w.cell? ⟨0, o, none⟩ := fun o => hb.cell o h.1 hT
  exact ⟨by rw [key]; exact h0, by rw [key]; exact h1, by rw [key]; exact h2, by rw [key]; exact h3, by rw [key]; exact h4⟩
/-- An argument list of numbers. -/
def NumsAt (w : World) (a : Option Addr) (len : Nat) : Prop := len ≤ maxLen ∧ (len = 0 ∨ ∃ b off, a = some ⟨b, off, none⟩ ∧ b < w.heap.size ∧ ∀ i, i < len → ∃ n : Int, (Lit.int .i64 n).wf = true ∧ w.cell? ⟨b, off + i, none⟩ = some (.int .i64 n))
theorem tape_new {w : World} {a : Option Addr} {len cap : Nat} (h : NumsAt w a len) : TapeAt w.heap.size 0 (w.alloc (.cells #[.slice a len cap, .int .i64 0] 25)) := by
  refine ⟨a, len, cap, 0, heap_alloc_new w _, Nat.le_refl _, h.1, h.2.imp id ?_⟩
  rintro ⟨b, off, rfl, hb, hc⟩
  refine ⟨b, off, rfl, hb, fun i hi => ?_⟩
  obtain ⟨n, hn, hq⟩ := hc i hi
  exact ⟨n, hn, by rw [World.cell?_of_block (w := w) (Below.heap_alloc _ _ _ hb)]; exact hq⟩
end Go.Proofs.YtkmpaonakhfcjaaDoor
