/-
  Same, Contains and Few where they are true.
-/
import Derived.Test.YtihdfomkphbdnaaBOpen
set_option linter.unusedVariables false
namespace Go.Proofs.Ytihdfomkphbdnaa
open Go Go.RowKit
theorem Rwx.later {w w' : World} {a : Option Addr} {len cap : Nat} {l : List Rw} (h : Rwx w a len cap l) (hb : Below w.heap.size w w') : Rwx w' a len cap l := by
  refine ⟨h.ln, h.le, h.cp, h.nn, fun r hr => ⟨(h.ok r hr).holds.later hb, (h.ok r hr).le, (h.ok r hr).cap⟩, h.at_.imp id ?_⟩
  rintro ⟨b, off, ha, hlt, hc⟩
  exact ⟨b, off, ha, Nat.lt_of_lt_of_le hlt hb.size, fun i hi => by rw [hb.cell (p := ⟨b, _, none⟩) hlt]; exact hc i hi⟩
theorem Few_true (a : Option Addr) (n c : Nat) (l : List Rw) (w : World) (h : Rwx w a n c l) (hf : fewB n l = true) : Calls Try.prog 8 #[.slice a n c] w fun e w' => e = .returned (.bool true) ∧ Cls w w' := by
  have := Few_calls a n c l w h
  rwa [hf] at this
theorem Few_false (a : Option Addr) (n c : Nat) (l : List Rw) (w : World) (h : Rwx w a n c l) (hf : fewB n l = false) : Calls Try.prog 8 #[.slice a n c] w fun e w' => e = .returned (.bool false) ∧ Cls w w' := by
  have := Few_calls a n c l w h
  rwa [hf] at this
theorem Same_true (a : Option Addr) (n c : Nat) (l : List Rw) (a' : Option Addr) (n' c' : Nat) (l' : List Rw) (w : World) (h : Rws w a n l) (h' : Rws w a' n' l') (hn : n ≤ 10000) (hn' : n' ≤ 10000) (hc : ∀ r, (vss l).count r = (vss l').count r) :
    Calls Try.prog 12 #[.slice a n c, .slice a' n' c'] w fun e w' => e = .returned (.bool true) ∧ Cls w w' := by
  have := Same_calls a n c l a' n' c' l' w h h' hn hn'
  rwa [eqB_iff.2 hc] at this
theorem Contains_true (a : Option Addr) (n c : Nat) (l : List Rw) (a' : Option Addr) (n' c' : Nat) (l' : List Rw) (w : World) (h : Rws w a n l) (h' : Rws w a' n' l') (hn : n ≤ 10000) (hn' : n' ≤ 10000) (hc : ∀ r, (vss l').count r ≤ (vss l).count r) :
    Calls Try.prog 13 #[.slice a n c, .slice a' n' c'] w fun e w' => e = .returned (.bool true) ∧ Cls w w' := by
  have := Contains_calls a n c l a' n' c' l' w h h' hn hn'
  rwa [geB_iff.2 hc] at this
end Go.Proofs.Ytihdfomkphbdnaa
