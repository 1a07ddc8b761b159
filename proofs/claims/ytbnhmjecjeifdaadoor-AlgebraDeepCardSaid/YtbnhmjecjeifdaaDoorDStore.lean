/-
  A query's block: its fifteen cells, and fifteen stores into it.
-/
import Derived.Test.YtbnhmjecjeifdaaDoorDBox
set_option linter.unusedVariables false
namespace Go.Proofs.YtbnhmjecjeifdaaDoor
open Go Go.RowKit Go.Deep
/-- The fifteen cells of a query's block. -/
theorem fifteen_q {W : World} {b : Nat} {q : Qy} {t : TypeId} (h : W.heap[b]? = some (.cells q.cells.toArray t)) :
    b < W.heap.size ∧ (∀ i, W.frozen? ⟨b, i, none⟩ = false) ∧ W.cell? ⟨b, 0, none⟩ = some (.int .i64 q.p.op) ∧ W.cell? ⟨b, 1, none⟩ = some (.string q.p.table) ∧ W.cell? ⟨b, 2, none⟩ = some (.int .i64 q.p.kind) ∧ W.cell? ⟨b, 3, none⟩ = some (.bool q.p.all) ∧ W.cell? ⟨b, 4, none⟩ = some (.int .i64 q.p.cond.op) ∧
    W.cell? ⟨b, 5, none⟩ = some (.int .i64 q.p.cond.ty) ∧ W.cell? ⟨b, 6, none⟩ = some (.int .i64 q.p.cond.num) ∧ W.cell? ⟨b, 7, none⟩ = some (.string q.p.cond.text) ∧ W.cell? ⟨b, 8, none⟩ = some (.int .i64 q.p.cond.col) ∧ W.cell? ⟨b, 9, none⟩ = some (.slice q.p.ck.a q.p.ck.len q.p.ck.cap) ∧ W.cell? ⟨b, 10, none⟩ = some (.slice q.p.es.a q.p.es.len q.p.es.cap) ∧
    W.cell? ⟨b, 11, none⟩ = some (.slice q.p.gs.a q.p.gs.len q.p.gs.cap) ∧ W.cell? ⟨b, 12, none⟩ = some (.slice q.p.ts.a q.p.ts.len q.p.ts.cap) ∧ W.cell? ⟨b, 13, none⟩ = some (.slice q.p.rs.a q.p.rs.len q.p.rs.cap) ∧ W.cell? ⟨b, 14, none⟩ = some (.slice q.ks.a q.ks.len q.ks.cap) := by
  refine ⟨(Array.getElem?_eq_some_iff.1 h).1, fun i => free_z h i, ?_, ?_, ?_, ?_, ?_, ?_, ?_, ?_, ?_, ?_, ?_, ?_, ?_, ?_, ?_⟩
  all_goals
    rw [cell_of_row _ _ _ _ _ (0, 0) h]
    rfl
/-- Fifteen stores into a block of fifteen cells. -/
theorem store15 {W : World} {b : Nat} {a0 a1 a2 a3 a4 a5 a6 a7 a8 a9 a10 a11 a12 a13 a14 u0 u1 u2 u3 u4 u5 u6 u7 u8 u9 u10 u11 u12 u13 u14 : Value} {t : TypeId} (h : W.heap[b]? = some (.cells #[a0, a1, a2, a3, a4, a5, a6, a7, a8, a9, a10, a11, a12, a13, a14] t)) :
    (((((((((((((((W.setCell ⟨b, 0, none⟩ u0).setCell ⟨b, 1, none⟩ u1).setCell ⟨b, 2, none⟩ u2).setCell ⟨b, 3, none⟩ u3).setCell ⟨b, 4, none⟩ u4).setCell ⟨b, 5, none⟩ u5).setCell ⟨b, 6, none⟩ u6).setCell ⟨b, 7, none⟩ u7).setCell ⟨b, 8, none⟩ u8).setCell ⟨b, 9, none⟩ u9).setCell ⟨b, 10, none⟩ u10).setCell ⟨b, 11, none⟩ u11).setCell ⟨b, 12, none⟩ u12).setCell ⟨b, 13, none⟩ u13).setCell ⟨b, 14, none⟩ u14).heap[b]? =
      some (.cells #[u0, u1, u2, u3, u4, u5, u6, u7, u8, u9, u10, u11, u12, u13, u14] t) := by
  simp only [World.setCell, Array.getElem?_modify, h]
  simp
set_option maxHeartbeats 400000 in
theorem step15 {W : World} {b g : Nat} {q : Qy} {t : TypeId} (h : W.heap[b]? = some (.cells q.cells.toArray t)) :
    (((((((((((((((W.setCell ⟨b, 0, none⟩ (.int .i64 9)).setCell ⟨b, 1, none⟩ (.string ⟨#[]⟩)).setCell ⟨b, 2, none⟩ (.int .i64 0)).setCell ⟨b, 3, none⟩ (.bool false)).setCell ⟨b, 4, none⟩ (.int .i64 0)).setCell ⟨b, 5, none⟩ (.int .i64 0)).setCell ⟨b, 6, none⟩ (.int .i64 0)).setCell ⟨b, 7, none⟩ (.string ⟨#[]⟩)).setCell ⟨b, 8, none⟩ (.int .i64 0)).setCell ⟨b, 9, none⟩ (.slice none 0 0)).setCell ⟨b, 10, none⟩ (.slice none 0 0)).setCell ⟨b, 11, none⟩ (.slice none 0 0)).setCell ⟨b, 12, none⟩ (.slice none 0 0)).setCell ⟨b, 13, none⟩ (.slice none 0 0)).setCell ⟨b, 14, none⟩ (.slice (some ⟨g, 0, none⟩) 1 1)).heap.size = W.heap.size ∧ Tp b W (((((((((((((((W.setCell ⟨b, 0, none⟩ (.int .i64 9)).setCell ⟨b, 1, none⟩ (.string ⟨#[]⟩)).setCell ⟨b, 2, none⟩ (.int .i64 0)).setCell ⟨b, 3, none⟩ (.bool false)).setCell ⟨b, 4, none⟩ (.int .i64 0)).setCell ⟨b, 5, none⟩ (.int .i64 0)).setCell ⟨b, 6, none⟩ (.int .i64 0)).setCell ⟨b, 7, none⟩ (.string ⟨#[]⟩)).setCell ⟨b, 8, none⟩ (.int .i64 0)).setCell ⟨b, 9, none⟩ (.slice none 0 0)).setCell ⟨b, 10, none⟩ (.slice none 0 0)).setCell ⟨b, 11, none⟩ (.slice none 0 0)).setCell ⟨b, 12, none⟩ (.slice none 0 0)).setCell ⟨b, 13, none⟩ (.slice none 0 0)).setCell ⟨b, 14, none⟩ (.slice (some ⟨g, 0, none⟩) 1 1)) ∧ (((((((((((((((W.setCell ⟨b, 0, none⟩ (.int .i64 9)).setCell ⟨b, 1, none⟩ (.string ⟨#[]⟩)).setCell ⟨b, 2, none⟩ (.int .i64 0)).setCell ⟨b, 3, none⟩ (.bool false)).setCell ⟨b, 4, none⟩ (.int .i64 0)).setCell ⟨b, 5, none⟩ (.int .i64 0)).setCell ⟨b, 6, none⟩ (.int .i64 0)).setCell ⟨b, 7, none⟩ (.string ⟨#[]⟩)).setCell ⟨b, 8, none⟩ (.int .i64 0)).setCell ⟨b, 9, none⟩ (.slice none 0 0)).setCell ⟨b, 10, none⟩ (.slice none 0 0)).setCell ⟨b, 11, none⟩ (.slice none 0 0)).setCell ⟨b, 12, none⟩ (.slice none 0 0)).setCell ⟨b, 13, none⟩ (.slice none 0 0)).setCell ⟨b, 14, none⟩ (.slice (some ⟨g, 0, none⟩) 1 1)).heap[b]? = some (.cells #[.int .i64 9, .string ⟨#[]⟩, .int .i64 0, .bool false, .int .i64 0, .int .i64 0, .int .i64 0, .string ⟨#[]⟩, .int .i64 0, .slice none 0 0, .slice none 0 0, .slice none 0 0, .slice none 0 0, .slice none 0 0, .slice (some ⟨g, 0, none⟩) 1 1] t) := by
  have h' : W.heap[b]? = some (.cells #[.int .i64 q.p.op, .string q.p.table, .int .i64 q.p.kind, .bool q.p.all, .int .i64 q.p.cond.op, .int .i64 q.p.cond.ty, .int .i64 q.p.cond.num, .string q.p.cond.text, .int .i64 q.p.cond.col, .slice q.p.ck.a q.p.ck.len q.p.ck.cap, .slice q.p.es.a q.p.es.len q.p.es.cap, .slice q.p.gs.a q.p.gs.len q.p.gs.cap, .slice q.p.ts.a q.p.ts.len q.p.ts.cap, .slice q.p.rs.a q.p.rs.len q.p.rs.cap, .slice q.ks.a q.ks.len q.ks.cap] t) := h
  refine ⟨?_, ?_, store15 h'⟩
  · simp only [World.setCell, Array.size_modify]
  · exact (Tp.setCell (p := ⟨b, 14, none⟩) (Tp.setCell (p := ⟨b, 13, none⟩) (Tp.setCell (p := ⟨b, 12, none⟩) (Tp.setCell (p := ⟨b, 11, none⟩) (Tp.setCell (p := ⟨b, 10, none⟩) (Tp.setCell (p := ⟨b, 9, none⟩) (Tp.setCell (p := ⟨b, 8, none⟩) (Tp.setCell (p := ⟨b, 7, none⟩) (Tp.setCell (p := ⟨b, 6, none⟩) (Tp.setCell (p := ⟨b, 5, none⟩) (Tp.setCell (p := ⟨b, 4, none⟩) (Tp.setCell (p := ⟨b, 3, none⟩) (Tp.setCell (p := ⟨b, 2, none⟩) (Tp.setCell (p := ⟨b, 1, none⟩) (Tp.setCell (p := ⟨b, 0, none⟩) (Tp.refl b W) (.inr rfl) _) (.inr rfl) _) (.inr rfl) _) (.inr rfl) _) (.inr rfl) _) (.inr rfl) _) (.inr rfl) _) (.inr rfl) _) (.inr rfl) _) (.inr rfl) _) (.inr rfl) _) (.inr rfl) _) (.inr rfl) _) (.inr rfl) _) (.inr rfl) _)
end Go.Proofs.YtbnhmjecjeifdaaDoor
