/-
  A tape without numbers: every number that it gives is 0.
-/
import Derived.Test.YtbnhmjecjeifdaaDoorTape
import Derived.BigQuiet
import Derived.Test.YtbnhmjecjeifdaaDoorTree
set_option linter.unusedVariables false
namespace Go.Proofs.YtbnhmjecjeifdaaDoor
open Go Go.RowKit Go.Deep
/-- Block T holds a tape without numbers, which has been read p times. -/
def TapeZ (T p : Nat) (w : World) : Prop := w.heap[T]? = some (.cells #[.slice none 0 0, .int .i64 (p : Nat)] 34)
theorem TapeZ.lt {T p : Nat} {w : World} (h : TapeZ T p w) : T < w.heap.size := (Array.getElem?_eq_some_iff.1 h).1
theorem TapeZ.upto {T p : Nat} {w w' : World} (h : TapeZ T p w) (hb : Below (T + 1) w w') : TapeZ T p w' := (hb.block T (by omega)).trans h
theorem TapeZ.later {T p : Nat} {w w' : World} (h : TapeZ T p w) (hb : Below w.heap.size w w') : TapeZ T p w' := h.upto (hb.mono h.lt)
/-- A later world of w, but for the tape at T, which has been read p times. -/
structure LatZ (T p : Nat) (w : World) where
  val : World
  tp : Tp T w val
  at_ : TapeZ T p val
namespace LatZ
variable {T p : Nat} {w : World}
@[go_sem] theorem cell (x : LatZ T p w) {b : Nat} (o : Nat) (h : b < w.heap.size) (hT : b ≠ T) : x.val.cell? ⟨b, o, none⟩ = w.cell? ⟨b, o, none⟩ := x.tp.cell o h hT
@[go_sem] theorem frozen (x : LatZ T p w) {b : Nat} (o : Nat) (h : b < w.heap.size) (hT : b ≠ T) : x.val.frozen? ⟨b, o, none⟩ = w.frozen? ⟨b, o, none⟩ := x.tp.frozen o h hT
theorem size (x : LatZ T p w) : w.heap.size ≤ x.val.heap.size := x.tp.size
theorem lts (x : LatZ T p w) {b : Nat} (h : b < w.heap.size) : b < x.val.heap.size ∧ b < x.val.heap.size + 1 ∧ b < x.val.heap.size + 1 + 1 ∧ b < x.val.heap.size + 1 + 1 + 1 ∧ b < x.val.heap.size + 1 + 1 + 1 + 1 := by
  have := x.size
  refine ⟨?_, ?_, ?_, ?_, ?_⟩ <;> omega
theorem on {w0 : World} (x : LatZ T p w) (h : Tp T w0 w) : Tp T w0 x.val := h.trans x.tp
end LatZ
/-- What a call does that reads the tape. -/
def TqZ (T p : Nat) (w w' : World) : Prop := ∃ x : LatZ T p w, w' = x.val
theorem TqZ.of {T p : Nat} {w w' : World} (h : Tp T w w') (h' : TapeZ T p w') : TqZ T p w w' := ⟨⟨w', h, h'⟩, rfl⟩
set_option maxHeartbeats 4000000 in
set_option maxRecDepth 20000 in
theorem Next_zero (T p : Nat) (n : Int) (w : World) (h : TapeZ T p w) (hm : p < 2 ^ 62) (hn : 1 ≤ n) :
    Calls Tryd.prog 17 #[.pointer (some ⟨T, 0, none⟩), .int .i64 n] w fun e w' => e = .returned (.int .i64 0) ∧ TqZ T (p + 1) w w' := by
  have d1 : decide (n < 1) = false := by simp; omega
  have hT := h.lt
  have c0 : w.cell? ⟨T, 0, none⟩ = some (.slice none 0 0) := by rw [cell_of_row _ _ _ _ _ (0, 0) h]; rfl
  have c1 : w.cell? ⟨T, 1, none⟩ = some (.int .i64 (p : Nat)) := by rw [cell_of_row _ _ _ _ _ (0, 0) h]; rfl
  have h' : w.heap[T]? = some (.cells #[.slice none 0 0, .int .i64 (p : Nat)] 34) := h
  have f1 : w.frozen? ⟨T, 1, none⟩ = false := by simp [World.frozen?, h']
  have E1 := Lib.hid h
  clear h h' hn
  have d2 : decide ((p : Int) < 0) = false := by simp
  go_enter Tryd.func17, Tryd.ntmps17
  go_wp2_with fail
  refine wp_region_ext (by kernel_rfl) (by kernel_rfl) ?_
  repeat (go_big_quiet_step (fail))
  refine wpQuiet_nil ?_
  rintro _ ⟨x, rfl⟩
  go_wp2_with fail
  go_ret
  refine ⟨rfl, TqZ.of (Tp.setCell (p := ⟨T, 1, none⟩) ((Tp.refl _ _).ext x) (.inr rfl) _) ?_⟩
  have hx : x.val.heap[T]? = some (.cells #[.slice none 0 0, .int .i64 (p : Nat)] 34) := (x.below.block T hT).trans E1.out
  unfold TapeZ
  simp only [World.setCell, Array.getElem?_modify, hx]
  simp
theorem heap_alloc_at {b : Nat} (w : World) (o : Obj) (h : b = w.heap.size) : (w.alloc o).heap[b]? = some o := by
  subst h
  exact heap_alloc_new w o
theorem free_z {w : World} {b : Nat} {cs : Array Value} {t : TypeId} (h : w.heap[b]? = some (.cells cs t (0, 0))) (i : Nat) : w.frozen? ⟨b, i, none⟩ = false := by simp [World.frozen?, h]
/-- The cells of a block that is known whole. -/
theorem one_z {W : World} {b : Nat} {a0 : Value} {t : TypeId} (h : W.heap[b]? = some (.cells #[a0] t)) : b < W.heap.size ∧ W.frozen? ⟨b, 0, none⟩ = false ∧ W.cell? ⟨b, 0, none⟩ = some a0 := by
  refine ⟨(Array.getElem?_eq_some_iff.1 h).1, free_z h _, ?_⟩
  rw [cell_of_row _ _ _ _ _ (0, 0) h]
  rfl
theorem three_z {W : World} {b : Nat} {a0 a1 a2 : Value} {t : TypeId} (h : W.heap[b]? = some (.cells #[a0, a1, a2] t)) :
    b < W.heap.size ∧ W.frozen? ⟨b, 0, none⟩ = false ∧ W.frozen? ⟨b, 1, none⟩ = false ∧ W.frozen? ⟨b, 2, none⟩ = false ∧ W.cell? ⟨b, 0, none⟩ = some a0 ∧ W.cell? ⟨b, 1, none⟩ = some a1 ∧ W.cell? ⟨b, 2, none⟩ = some a2 := by
  refine ⟨(Array.getElem?_eq_some_iff.1 h).1, free_z h _, free_z h _, free_z h _, ?_, ?_, ?_⟩
  all_goals
    rw [cell_of_row _ _ _ _ _ (0, 0) h]
    rfl
theorem six_z {W : World} {b : Nat} {a0 a1 a2 a3 a4 a5 : Value} {t : TypeId} (h : W.heap[b]? = some (.cells #[a0, a1, a2, a3, a4, a5] t)) :
    b < W.heap.size ∧ W.frozen? ⟨b, 0, none⟩ = false ∧ W.frozen? ⟨b, 1, none⟩ = false ∧ W.frozen? ⟨b, 2, none⟩ = false ∧ W.frozen? ⟨b, 3, none⟩ = false ∧ W.frozen? ⟨b, 4, none⟩ = false ∧ W.frozen? ⟨b, 5, none⟩ = false ∧
    W.cell? ⟨b, 0, none⟩ = some a0 ∧ W.cell? ⟨b, 1, none⟩ = some a1 ∧ W.cell? ⟨b, 2, none⟩ = some a2 ∧ W.cell? ⟨b, 3, none⟩ = some a3 ∧ W.cell? ⟨b, 4, none⟩ = some a4 ∧ W.cell? ⟨b, 5, none⟩ = some a5 := by
  refine ⟨(Array.getElem?_eq_some_iff.1 h).1, free_z h _, free_z h _, free_z h _, free_z h _, free_z h _, free_z h _, ?_, ?_, ?_, ?_, ?_, ?_⟩
  all_goals
    rw [cell_of_row _ _ _ _ _ (0, 0) h]
    rfl
end Go.Proofs.YtbnhmjecjeifdaaDoor
