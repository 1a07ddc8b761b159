/-
  The table of the operators: what find and uses give.
-/
import Derived.Test.YtbnhmjecjeifdaaDoorTree
import Derived.BigQuiet
set_option linter.unusedVariables false
namespace Go.Proofs.YtbnhmjecjeifdaaDoor
open Go Go.RowKit Go.Deep
def hasL : List Int := [0, 1, 192, 8, 16, 10, 4, 4, 4, 0, 48]
def kidsL : List Int := [0, 0, 0, 1, 1, 2, 2, 2, 2, 1, 1]
/-- The table reads as it stands in the program. -/
def OpT (w : World) : Prop := 0 < w.heap.size ∧ ∀ i, i < 11 → (∃ s : ByteArray, w.cell? ⟨0, i * 3, none⟩ = some (.string s)) ∧ w.cell? ⟨0, i * 3 + 1, none⟩ = some (.int .i64 (hasL.getD i 0)) ∧ w.cell? ⟨0, i * 3 + 2, none⟩ = some (.int .i64 (kidsL.getD i 0))
theorem OpT.later {w w' : World} (h : OpT w) (hb : Below w.heap.size w w') : OpT w' := by
  refine ⟨Nat.lt_of_lt_of_le h.1 hb.size, fun i hi => ?_⟩
  obtain ⟨⟨s, h0⟩, h1, h2⟩ := h.2 i hi
  have key : ∀ o, w'.cell? ⟨0, o, none⟩ = w.cell? ⟨0, o, none⟩ := fun o => hb.cell (p := ⟨0, o, none⟩) h.1
  exact ⟨⟨s, by rw [key]; exact h0⟩, by rw [key]; exact h1, by rw [key]; exact h2⟩
def hasO (op : Int) : Int := if 1 ≤ op ∧ op < 11 then hasL.getD op.toNat 0 else 0
def kidsO (op : Int) : Int := if 1 ≤ op ∧ op < 11 then kidsL.getD op.toNat 0 else 0
def okO (op : Int) : Bool := decide (1 ≤ op ∧ op < 11)
set_option maxHeartbeats 1000000 in
theorem findO_calls (op : Int) (w : World) (ht : OpT w) :
    Calls Tryd.prog 103 #[.int .i64 op] w fun r w' => ∃ s : ByteArray, r = .returned (.tuple #[.agg #[.string s, .int .i64 (hasO op), .int .i64 (kidsO op)], .bool (okO op)]) ∧ Cls w w' := by
  by_cases h : 1 ≤ op ∧ op < 11
  · obtain ⟨hg, hc⟩ := ht
    obtain ⟨n, rfl⟩ : ∃ n : Nat, op = n := ⟨op.toNat, by omega⟩
    obtain ⟨⟨s, q0⟩, q1, q2⟩ := hc n (by omega)
    have HH : Hid (hasO (n : Int) = hasL.getD n 0 ∧ kidsO (n : Int) = kidsL.getD n 0 ∧ okO (n : Int) = true) := Lib.hid (by unfold hasO kidsO okO; rw [if_pos h, if_pos h]; exact ⟨by simp, by simp, by simp; omega⟩)
    have b1 : decide ((n : Int) < 1) = false := by simp; omega
    have b2 : decide (11 ≤ (n : Int)) = false := by simp; omega
    have hn : n < 11 := by omega
    clear hc h
    generalize hasL.getD n 0 = ha at *
    generalize kidsL.getD n 0 = hk at *
    go_enter Tryd.func103, Tryd.ntmps103
    go_wp2_with fail
    refine ret_ex rfl ?_
    obtain ⟨e1, e2, e3⟩ := HH.out
    simp [results, Tryd.results103, go_sem, e1, e2, e3]
    refine Cls.of ?_
    repeat first | with_reducible exact Below.refl _ _ | with_reducible refine Below.setCell ?_ (by first | omega | (simp; done) | (simp; omega)) _ | with_reducible refine Below.alloc ?_ (by first | omega | (simp; done) | (simp; omega)) _ | with_reducible refine Below.drew ?_ | with_reducible refine Ext.on _ ?_ (by first | omega | (simp; done) | (simp; omega))
  · have HH : Hid (hasO op = 0 ∧ kidsO op = 0 ∧ okO op = false) := Lib.hid (by unfold hasO kidsO okO; rw [if_neg h, if_neg h]; exact ⟨rfl, rfl, by simp; omega⟩)
    rcases (by omega : op < 1 ∨ 11 ≤ op) with h1 | h1
    · have b1 : decide (op < 1) = true := by simp; omega
      clear h h1 ht
      go_enter Tryd.func103, Tryd.ntmps103
      go_wp2_with fail
      refine ret_ex rfl ?_
      obtain ⟨e1, e2, e3⟩ := HH.out
      simp [results, Tryd.results103, go_sem, e1, e2, e3]
      refine Cls.of ?_
      repeat first | with_reducible exact Below.refl _ _ | with_reducible refine Below.setCell ?_ (by first | omega | (simp; done) | (simp; omega)) _ | with_reducible refine Below.alloc ?_ (by first | omega | (simp; done) | (simp; omega)) _ | with_reducible refine Below.drew ?_ | with_reducible refine Ext.on _ ?_ (by first | omega | (simp; done) | (simp; omega))
    · have b1 : decide (op < 1) = false := by simp; omega
      have b2 : decide (11 ≤ op) = true := by simp; omega
      clear h h1 ht
      go_enter Tryd.func103, Tryd.ntmps103
      go_wp2_with fail
      refine ret_ex rfl ?_
      obtain ⟨e1, e2, e3⟩ := HH.out
      simp [results, Tryd.results103, go_sem, e1, e2, e3]
      refine Cls.of ?_
      repeat first | with_reducible exact Below.refl _ _ | with_reducible refine Below.setCell ?_ (by first | omega | (simp; done) | (simp; omega)) _ | with_reducible refine Below.alloc ?_ (by first | omega | (simp; done) | (simp; omega)) _ | with_reducible refine Below.drew ?_ | with_reducible refine Ext.on _ ?_ (by first | omega | (simp; done) | (simp; omega))
end Go.Proofs.YtbnhmjecjeifdaaDoor
