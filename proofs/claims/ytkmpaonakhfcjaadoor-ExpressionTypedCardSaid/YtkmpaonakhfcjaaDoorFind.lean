/-
  The table of operations, and what find, takes, column and literal give.
-/
import Derived.Test.YtkmpaonakhfcjaaDoorOps
import Derived.Test.YtkmpaonakhfcjaaDoorTree
import Derived.Laws.Entries
set_option linter.unusedVariables false
namespace Go.Proofs.YtkmpaonakhfcjaaDoor
open Go Go.RowKit
/-- A row of the table: the word, what the operation has, and its types. -/
structure ORow where
  word : List UInt8
  has : Int
  first : Int
  others : Int
  gives : Int
def ORow.z : ORow := ⟨[], 0, 0, 0, 0⟩
def opsRows : List ORow := [⟨[], 0, 0, 0, 0⟩, ⟨[], 0, 0, 0, 0⟩, ⟨[], 1, 0, 0, 1⟩, ⟨[], 1, 0, 0, 2⟩, ⟨[], 2, 0, 0, 3⟩, ⟨[], 3, 0, 0, 0⟩, ⟨[97, 100, 100], 5, 1, 1, 1⟩, ⟨[115, 117, 98], 5, 1, 1, 1⟩, ⟨[109, 117, 108], 5, 1, 1, 1⟩, ⟨[100, 105, 118], 5, 1, 1, 1⟩, ⟨[109, 111, 100], 5, 1, 1, 1⟩, ⟨[110, 101, 103], 4, 1, 0, 1⟩, ⟨[99, 111, 110, 99, 97, 116], 5, 3, 3, 3⟩, ⟨[108, 101, 110, 103, 116, 104], 4, 3, 0, 1⟩, ⟨[101, 113], 5, (-1), (-1), 2⟩, ⟨[110, 101], 5, (-1), (-1), 2⟩, ⟨[108, 116], 5, (-1), (-1), 2⟩, ⟨[108, 101], 5, (-1), (-1), 2⟩, ⟨[103, 116], 5, (-1), (-1), 2⟩, ⟨[103, 101], 5, (-1), (-1), 2⟩, ⟨[115, 97, 109, 101], 5, (-1), (-1), 2⟩, ⟨[105, 115, 110, 117, 108, 108], 4, (-1), 0, 2⟩, ⟨[97, 110, 100], 5, 2, 2, 2⟩, ⟨[111, 114], 5, 2, 2, 2⟩, ⟨[110, 111, 116], 4, 2, 0, 2⟩, ⟨[105, 115, 116, 114, 117, 101], 4, 2, 0, 2⟩, ⟨[99, 97, 115, 101], 6, 2, (-1), (-1)⟩, ⟨[99, 111, 97, 108, 101, 115, 99, 101], 5, (-1), (-1), (-1)⟩, ⟨[105, 110], 7, (-1), (-1), 2⟩]
def oRow (n : Nat) : ORow := opsRows.getD n ORow.z
/-- The table's variable holds these rows. -/
def OpsTab (w : World) : Prop := 0 < w.heap.size ∧ ∀ i, i < 29 → w.cell? ⟨0, i * 5, none⟩ = some (.string ⟨(oRow i).word.toArray⟩) ∧ w.cell? ⟨0, i * 5 + 1, none⟩ = some (.int .i64 (oRow i).has) ∧ w.cell? ⟨0, i * 5 + 2, none⟩ = some (.int .i64 (oRow i).first) ∧
  w.cell? ⟨0, i * 5 + 3, none⟩ = some (.int .i64 (oRow i).others) ∧ w.cell? ⟨0, i * 5 + 4, none⟩ = some (.int .i64 (oRow i).gives)
theorem OpsTab.later {w w' : World} (h : OpsTab w) (hb : Below w.heap.size w w') : OpsTab w' := by
  refine ⟨Nat.lt_of_lt_of_le h.1 hb.size, fun i hi => ?_⟩
  obtain ⟨h0, h1, h2, h3, h4⟩ := h.2 i hi
  have key : ∀ o, w'.cell? ⟨0, o, none⟩ = w.cell? ⟨0, o, none⟩ := fun o => hb.cell (p := ⟨0, o, none⟩) h.1
  exact ⟨by rw [key]; exact h0, by rw [key]; exact h1, by rw [key]; exact h2, by rw [key]; exact h3, by rw [key]; exact h4⟩
set_option maxHeartbeats 1000000 in
theorem find_yes (n : Nat) (w : World) (h1 : 1 ≤ n) (h2 : n < 29) (ht : OpsTab w) :
    Calls Tryd.prog 31 #[.int .i64 (n : Nat)] w fun r w' => r = .returned (.tuple #[.agg #[.string ⟨(oRow n).word.toArray⟩, .int .i64 (oRow n).has, .int .i64 (oRow n).first, .int .i64 (oRow n).others, .int .i64 (oRow n).gives], .bool true]) ∧ Cls w w' := by
  obtain ⟨hg, hc⟩ := ht
  obtain ⟨q0, q1, q2, q3, q4⟩ := hc n h2
  have b1 : decide ((n : Int) < 1) = false := by simp; omega
  have b2 : decide (29 ≤ (n : Int)) = false := by simp; omega
  clear hc
  go_enter Tryd.func31, Tryd.ntmps31
  go_wp2_with fail
  refine ret_ex rfl ?_
  simp [results, Tryd.results31, go_sem]
  refine Cls.of ?_
  repeat first | with_reducible exact Below.refl _ _ | with_reducible assumption | with_reducible refine Below.setCell ?_ (by first | omega | (simp; done) | (simp; omega)) _ | with_reducible refine Below.alloc ?_ (by first | omega | (simp; done) | (simp; omega)) _ | with_reducible refine Below.drew ?_ | with_reducible refine Ext.on _ ?_ (by first | omega | (simp; done) | (simp; omega))
set_option maxHeartbeats 1000000 in
theorem find_no (n : Int) (w : World) (h : n < 1 ∨ 29 ≤ n) :
    Calls Tryd.prog 31 #[.int .i64 n] w fun r w' => r = .returned (.tuple #[.agg #[.string ⟨#[]⟩, .int .i64 0, .int .i64 0, .int .i64 0, .int .i64 0], .bool false]) ∧ Cls w w' := by
  rcases h with h | h
  · have b1 : decide (n < 1) = true := by simp; omega
    clear h
    go_enter Tryd.func31, Tryd.ntmps31
    go_wp2_with fail
    refine ret_ex rfl ?_
    simp [results, Tryd.results31, go_sem]
    refine Cls.of ?_
    repeat first | with_reducible exact Below.refl _ _ | with_reducible assumption | with_reducible refine Below.setCell ?_ (by first | omega | (simp; done) | (simp; omega)) _ | with_reducible refine Below.alloc ?_ (by first | omega | (simp; done) | (simp; omega)) _ | with_reducible refine Below.drew ?_ | with_reducible refine Ext.on _ ?_ (by first | omega | (simp; done) | (simp; omega))
  · have b1 : decide (n < 1) = false := by simp; omega
    have b2 : decide (29 ≤ n) = true := by simp; omega
    clear h
    go_enter Tryd.func31, Tryd.ntmps31
    go_wp2_with fail
    refine ret_ex rfl ?_
    simp [results, Tryd.results31, go_sem]
    refine Cls.of ?_
    repeat first | with_reducible exact Below.refl _ _ | with_reducible assumption | with_reducible refine Below.setCell ?_ (by first | omega | (simp; done) | (simp; omega)) _ | with_reducible refine Below.alloc ?_ (by first | omega | (simp; done) | (simp; omega)) _ | with_reducible refine Below.drew ?_ | with_reducible refine Ext.on _ ?_ (by first | omega | (simp; done) | (simp; omega))
/-- May an operation that has this have so many Kids? -/
def takesH (has : Int) (m : Nat) : Bool := if has = 4 then decide (m = 1) else if has = 5 then decide (m = 2) else if has = 6 then decide (m = 3) else if has = 7 then decide (2 ≤ m) else decide (m = 0)
set_option maxHeartbeats 1000000 in
theorem takes_calls (r : ORow) (m : Nat) (w : World) (hr : r.has = 0 ∨ r.has = 1 ∨ r.has = 2 ∨ r.has = 3 ∨ r.has = 4 ∨ r.has = 5 ∨ r.has = 6 ∨ r.has = 7) :
    Calls Tryd.prog 32 #[.agg #[.string ⟨r.word.toArray⟩, .int .i64 r.has, .int .i64 r.first, .int .i64 r.others, .int .i64 r.gives], .int .i64 (m : Nat)] w fun e w' => e = .returned (.bool (takesH r.has m)) ∧ Cls w w' := by
  obtain ⟨word, has, first, others, gives⟩ := r
  simp only at hr ⊢
  rcases hr with rfl | rfl | rfl | rfl | rfl | rfl | rfl | rfl
  all_goals
    go_enter Tryd.func32, Tryd.ntmps32
    go_wp2_with fail
    go_ret
    refine ⟨ret_bool ?_, Cls.of ?_⟩
    · simp [takesH]; first | done | omega | (rw [Bool.eq_iff_iff]; simp; done) | (rw [Bool.eq_iff_iff]; simp; omega)
    · repeat first | with_reducible exact Below.refl _ _ | with_reducible assumption | with_reducible refine Below.setCell ?_ (by first | omega | (simp; done) | (simp; omega)) _ | with_reducible refine Below.alloc ?_ (by first | omega | (simp; done) | (simp; omega)) _ | with_reducible refine Below.drew ?_ | with_reducible refine Ext.on _ ?_ (by first | omega | (simp; done) | (simp; omega))
end Go.Proofs.YtkmpaonakhfcjaaDoor
