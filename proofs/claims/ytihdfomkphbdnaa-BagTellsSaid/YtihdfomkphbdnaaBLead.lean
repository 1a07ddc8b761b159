/-
  How many rows at the beginning are the same as a row: slices.IndexFunc with its closure; the least row of two lists.
-/
import Derived.Test.YtihdfomkphbdnaaBRow
import Derived.LoopTactic
import Derived.BigQuiet
set_option linter.unusedVariables false
namespace Go.Proofs.Ytihdfomkphbdnaa
open Go Go.RowKit
theorem lead_hit : ∀ {X : List Row} {r : Row} {j : Nat}, (∀ k, k < j → X.getD k [] = r) → j < X.length → X.getD j [] ≠ r → lead X r = j
  | [], _, _, _, h, _ => by simp at h
  | a :: X, r, 0, _, _, h => by
    have : ¬ a = r := by simpa using h
    simp [lead, this]
  | a :: X, r, j + 1, h, hl, hn => by
    have e : a = r := by simpa using h 0 (by omega)
    have := lead_hit (X := X) (r := r) (j := j) (fun k hk => by simpa using h (k + 1) (by omega)) (by simpa using hl) (by simpa using hn)
    subst e
    have e2 : lead (a :: X) a = lead X a + 1 := by simp [lead]
    omega
theorem lead_all : ∀ {X : List Row} {r : Row}, (∀ k, k < X.length → X.getD k [] = r) → lead X r = X.length
  | [], _, _ => rfl
  | a :: X, r, h => by
    have e : a = r := by simpa using h 0 (by simp)
    have := lead_all (X := X) (r := r) (fun k hk => by simpa using h (k + 1) (by simpa using hk))
    subst e
    have e2 : lead (a :: X) a = lead X a + 1 := by simp [lead]
    simp; omega
theorem vss_len (l : List Rw) : (vss l).length = l.length := by simp [vss]
theorem vss_getD (l : List Rw) (k : Nat) : (vss l).getD k [] = (l.getD k default).vs := by
  unfold vss
  by_cases h : k < l.length
  · simp [List.getD, h]
  · simp [List.getD, Nat.le_of_not_lt h]; rfl
/-- What slices.IndexFunc gives. -/
def idxL (X : List Row) (r : Row) : Int := if lead X r = X.length then -1 else (lead X r : Nat)
set_option maxHeartbeats 1000000 in
theorem notSame_calls (B : Nat) (r s : Rw) (w : World) (h : r.Ok w) (h' : s.Ok w) (hB : w.cell? ⟨B, 0, none⟩ = some s.enc) :
    Calls Try.prog 53 #[r.enc, .pointer (some ⟨B, 0, none⟩)] w fun e w' => e = .returned (.bool (!sameR r.vs s.vs)) ∧ Cls w w' := by
  have C := same_calls r s w h h'
  clear h h'
  obtain ⟨ra, len, cap, vs⟩ := r
  obtain ⟨ra', len', cap', vs'⟩ := s
  simp only [Rw.enc] at *
  go_enter Try.func53, Try.ntmps53
  go_wp2_with (go_at_call 43; refine C.mono ?_; rintro e _ ⟨rfl, y, rfl⟩)
  go_ret
  exact ⟨rfl, y, rfl⟩
end Go.Proofs.Ytihdfomkphbdnaa
