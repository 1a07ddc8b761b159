/-
  The law of the field, walked.
-/
import Derived.Test.YthlaejodajdioaaFField
import Derived.Laws.StructEq
import Derived.WalkKit
import Derived.Deep.CutBlock
import Derived.Deep.DeepCutAuto
import Derived.Test.YthlaejodajdioaaNew
set_option linter.unusedVariables false
namespace Go.Proofs.Ythlaejodajdioaa
open Go Go.RowKit Go.Deep
theorem eqIn_fr (n d n' d' : Int) (w : World) : (Op.equalIn 10000 23 (.agg #[.int .i64 n, .int .i64 d]) (.agg #[.int .i64 n', .int .i64 d'])).run Try.prog w = .ok (n == n' && d == d') w := by
  have hS : Try.prog.underlying 23 = some (.struct (Try.prog.fieldsOf 23)) := by kernel_rfl
  have hp : Try.prog.stoodInHeld 23 = false := by kernel_rfl
  have u2 := Try.underlying2
  have a2 := Try.isAgg2
  have z2 := Try.sizeOf2
  rw [show (10000 : Nat) = 9999 + 1 from rfl, run_equalIn_agg w 9999 _ _ _ hS hp]
  simp only [Program.fieldsOf, Try.underlying23]
  go_simp
  by_cases h1 : n = n' <;> by_cases h2 : d = d' <;> simp [h1, h2]
def OfP (n d : Int) (r : Value) : Prop := ∀ W : World, Calls Try.prog 17 #[.int .i64 n, .int .i64 d] W fun e w' => e = .returned r ∧ Cls W w'
def VaP (n d : Int) : Prop := ∀ W : World, Calls Try.prog 10 #[.agg #[.int .i64 n, .int .i64 d]] W fun e w' => e = .returned (.bool true) ∧ Cls W w'
def X3 (k : Nat) (n0 d0 n1 d1 n2 d2 : Int) : Array Value := match k with
  | 0 => #[.int .i64 0, .int .i64 0, .int .i64 0, .int .i64 0, .int .i64 0, .int .i64 0]
  | 1 => #[.int .i64 n0, .int .i64 d0, .int .i64 0, .int .i64 0, .int .i64 0, .int .i64 0]
  | 2 => #[.int .i64 n0, .int .i64 d0, .int .i64 n1, .int .i64 d1, .int .i64 0, .int .i64 0]
  | _ => #[.int .i64 n0, .int .i64 d0, .int .i64 n1, .int .i64 d1, .int .i64 n2, .int .i64 d2]
/-- The law's variables after k turns. -/
structure FI (l0 l1 l2 l3 l4 l5 n0 d0 n1 d1 n2 d2 : Int) (w wr : World) (k : Nat) : Prop where
  box : wr.heap[w.heap.size]? = some (.cells #[.int .i16 l0, .int .i16 l1, .int .i16 l2, .int .i16 l3, .int .i16 l4, .int .i16 l5] 30)
  arr : wr.heap[w.heap.size + 1]? = some (.cells (X3 k n0 d0 n1 d1 n2 d2) 31)
  bel : Below w.heap.size w wr
theorem new_at_0 (w : World) (o o' : Obj) : ((w.alloc o).alloc o').heap[w.heap.size]? = some o := by
  have := ((Below.refl (w.heap.size + 1) (w.alloc o)).alloc (by simp) o').block w.heap.size (by omega)
  exact this.trans (heap_alloc_new w o)
theorem new_at_1 (w : World) (o o' : Obj) : ((w.alloc o).alloc o').heap[w.heap.size + 1]? = some o' := by
  have := heap_alloc_new (w.alloc o) o'
  simpa using this
theorem FI.next {l0 l1 l2 l3 l4 l5 n0 d0 n1 d1 n2 d2 : Int} {w wr W : World} {k : Nat} (h : FI l0 l1 l2 l3 l4 l5 n0 d0 n1 d1 n2 d2 w wr k) (y : Below wr.heap.size wr W) (i : Nat) (v v' : Value)
    (hX : ((X3 k n0 d0 n1 d1 n2 d2).setIfInBounds i v).setIfInBounds (i + 1) v' = X3 (k + 1) n0 d0 n1 d1 n2 d2) :
    FI l0 l1 l2 l3 l4 l5 n0 d0 n1 d1 n2 d2 w ((W.setCell ⟨w.heap.size + 1, i, none⟩ v).setCell ⟨w.heap.size + 1, i + 1, none⟩ v') (k + 1) := by
  have g0 := (Array.getElem?_eq_some_iff.1 h.box).1
  have g1 := (Array.getElem?_eq_some_iff.1 h.arr).1
  refine ⟨?_, ?_, ?_⟩
  · rw [heap_setCell_other _ _ _ _ (by show w.heap.size ≠ w.heap.size + 1; omega), heap_setCell_other _ _ _ _ (by show w.heap.size ≠ w.heap.size + 1; omega), y.block _ g0]
    exact h.box
  · have e1 := heap_setCell_same W (w.heap.size + 1) i _ _ v ((y.block _ g1).trans h.arr)
    have e2 := heap_setCell_same _ (w.heap.size + 1) (i + 1) _ _ v' e1
    rw [e2, hX]
  · have b : Below w.heap.size w W := h.bel.trans (y.mono (by omega))
    exact (b.setCell (by show w.heap.size ≤ w.heap.size + 1; omega) _).setCell (by show w.heap.size ≤ w.heap.size + 1; omega) _
theorem six_z {W : World} {b : Nat} {a0 a1 a2 a3 a4 a5 : Value} {t : TypeId} (h : W.heap[b]? = some (.cells #[a0, a1, a2, a3, a4, a5] t)) :
    b < W.heap.size ∧ (W.frozen? ⟨b, 0, none⟩ = false ∧ W.frozen? ⟨b, 1, none⟩ = false ∧ W.frozen? ⟨b, 2, none⟩ = false ∧ W.frozen? ⟨b, 3, none⟩ = false ∧ W.frozen? ⟨b, 4, none⟩ = false ∧ W.frozen? ⟨b, 5, none⟩ = false) ∧ W.cell? ⟨b, 0, none⟩ = some a0 ∧ W.cell? ⟨b, 1, none⟩ = some a1 ∧ W.cell? ⟨b, 2, none⟩ = some a2 ∧ W.cell? ⟨b, 3, none⟩ = some a3 ∧ W.cell? ⟨b, 4, none⟩ = some a4 ∧ W.cell? ⟨b, 5, none⟩ = some a5 := by
  refine ⟨(Array.getElem?_eq_some_iff.1 h).1, ⟨by simp [World.frozen?, h], by simp [World.frozen?, h], by simp [World.frozen?, h], by simp [World.frozen?, h], by simp [World.frozen?, h], by simp [World.frozen?, h]⟩, ?_, ?_, ?_, ?_, ?_, ?_⟩
  all_goals
    rw [cell_of_row _ _ _ _ _ (0, 0) h]
    rfl
set_option maxHeartbeats 16000000 in
set_option maxRecDepth 20000 in
theorem field_core (l0 l1 l2 l3 l4 l5 n0 d0 n1 d1 n2 d2 p q L M A B C E X Y : Int) (w : World) (w0 : IntKind.i64.wrap l0 = l0) (w1 : IntKind.i64.wrap l1 = l1) (w2 : IntKind.i64.wrap l2 = l2) (w3 : IntKind.i64.wrap l3 = l3) (w4 : IntKind.i64.wrap l4 = l4) (w5 : IntKind.i64.wrap l5 = l5)
    (O0 : ((l1 == 0) = true ∧ Hid (OfP l0 1 (.tuple #[.agg #[.int .i64 n0, .int .i64 d0], .int .i64 0]))) ∨ ((l1 == 0) = false ∧ Hid (OfP l0 l1 (.tuple #[.agg #[.int .i64 n0, .int .i64 d0], .int .i64 0]))))
    (O1 : ((l3 == 0) = true ∧ Hid (OfP l2 1 (.tuple #[.agg #[.int .i64 n1, .int .i64 d1], .int .i64 0]))) ∨ ((l3 == 0) = false ∧ Hid (OfP l2 l3 (.tuple #[.agg #[.int .i64 n1, .int .i64 d1], .int .i64 0]))))
    (O2 : ((l5 == 0) = true ∧ Hid (OfP l4 1 (.tuple #[.agg #[.int .i64 n2, .int .i64 d2], .int .i64 0]))) ∨ ((l5 == 0) = false ∧ Hid (OfP l4 l5 (.tuple #[.agg #[.int .i64 n2, .int .i64 d2], .int .i64 0]))))
    (V0 : Hid (VaP n0 d0)) (V1 : Hid (VaP n1 d1)) (V2 : Hid (VaP n2 d2))
    (P1 : Hid (Op2 7 n0 d0 n1 d1 (.tuple #[.agg #[.int .i64 p, .int .i64 q], .int .i64 0]))) (P2 : Hid (Op2 13 p q n2 d2 (.tuple #[.agg #[.int .i64 L, .int .i64 M], .int .i64 0])))
    (P3 : Hid (Op2 13 n0 d0 n2 d2 (.tuple #[.agg #[.int .i64 A, .int .i64 B], .int .i64 0]))) (P4 : Hid (Op2 13 n1 d1 n2 d2 (.tuple #[.agg #[.int .i64 C, .int .i64 E], .int .i64 0])))
    (P5 : Hid (Op2 7 A B C E (.tuple #[.agg #[.int .i64 L, .int .i64 M], .int .i64 0]))) (P6 : Hid (Op2 11 p q n1 d1 (.tuple #[.agg #[.int .i64 n0, .int .i64 d0], .int .i64 0])))
    (P7 : (n1 = 0 ∧ Hid (Op2 15 n0 d0 n1 d1 (.tuple #[.agg #[.int .i64 0, .int .i64 0], .int .i64 1]))) ∨ ((n1 == 0) = false ∧ Hid (Op2 15 n0 d0 n1 d1 (.tuple #[.agg #[.int .i64 X, .int .i64 Y], .int .i64 0])) ∧ Hid (Op2 13 X Y n1 d1 (.tuple #[.agg #[.int .i64 n0, .int .i64 d0], .int .i64 0])))) :
    Calls Try.prog 4 #[.agg #[.int .i16 l0, .int .i16 l1, .int .i16 l2, .int .i16 l3, .int .i16 l4, .int .i16 l5]] w fun e w' => e = .returned (.bool true) ∧ Cls w w' := by
  go_enter Try.func4, Try.ntmps4
  go_wp2_with fail
  go_loopw [4] (fun i wr => ∃ k : Nat, k ≤ 3 ∧ i = .int .i64 k ∧ Hid (FI l0 l1 l2 l3 l4 l5 n0 d0 n1 d1 n2 d2 w wr k)) (fun i _ => (3 - intOf i).toNat)
  case atStart =>
    refine ⟨0, by omega, rfl, Lib.hid ⟨?_, ?_, ?_⟩⟩
    · exact new_at_0 w _ _
    · exact new_at_1 w _ _
    · exact ((Below.refl _ _).alloc (Nat.le_refl _) _).alloc (by simp) _
  case round =>
    obtain ⟨k, hk, rfl, hI⟩ := hrel
    rcases (by omega : k = 0 ∨ k = 1 ∨ k = 2 ∨ k = 3) with rfl | rfl | rfl | rfl
    · obtain ⟨b0, ⟨b1, b2, b3, b4, b5, b6⟩, c0, c1, c2, c3, c4, c5⟩ := six_z hI.out.box
      obtain ⟨f0, ⟨f1, f2, f3, f4, f5, f6⟩, x0, x1, x2, x3, x4, x5⟩ := six_z hI.out.arr
      have G2 := Lib.hid (fun W => V0.out W)
      clear O1 V1 O2 V2 V0 P1 P2 P3 P4 P5 P6 P7
      rcases O0 with ⟨he, C1⟩ | ⟨he, C1⟩
      all_goals
        have G1 := Lib.hid (fun W => C1.out W)
        clear C1
        go_wp2_with (first | (go_at_call 17; (with_reducible refine (G1.out _).mono ?_); rintro e _ ⟨rfl, ⟨y1, rfl⟩⟩; have y1s := y1.size; (try simp at y1s); have y1a : w.heap.size < y1.val.heap.size := (by omega); have y1b : w.heap.size + 1 < y1.val.heap.size := (by omega)) | (go_at_call 10; (with_reducible refine (G2.out _).mono ?_); rintro e _ ⟨rfl, ⟨y2, rfl⟩⟩; have y2s := y2.size; (try simp at y2s); have y2a : w.heap.size < y2.val.heap.size := (by omega); have y2b : w.heap.size + 1 < y2.val.heap.size := (by omega)))
        refine ⟨⟨1, by omega, rfl, Lib.hid (hI.out.next (y2.on (Below.alloc y1.below (by omega) _) (by first | omega | (simp; omega))) 0 _ _ rfl)⟩, by decide⟩
    · obtain ⟨b0, ⟨b1, b2, b3, b4, b5, b6⟩, c0, c1, c2, c3, c4, c5⟩ := six_z hI.out.box
      obtain ⟨f0, ⟨f1, f2, f3, f4, f5, f6⟩, x0, x1, x2, x3, x4, x5⟩ := six_z hI.out.arr
      have G2 := Lib.hid (fun W => V1.out W)
      clear O0 V0 O2 V2 V1 P1 P2 P3 P4 P5 P6 P7
      rcases O1 with ⟨he, C1⟩ | ⟨he, C1⟩
      all_goals
        have G1 := Lib.hid (fun W => C1.out W)
        clear C1
        go_wp2_with (first | (go_at_call 17; (with_reducible refine (G1.out _).mono ?_); rintro e _ ⟨rfl, ⟨y1, rfl⟩⟩; have y1s := y1.size; (try simp at y1s); have y1a : w.heap.size < y1.val.heap.size := (by omega); have y1b : w.heap.size + 1 < y1.val.heap.size := (by omega)) | (go_at_call 10; (with_reducible refine (G2.out _).mono ?_); rintro e _ ⟨rfl, ⟨y2, rfl⟩⟩; have y2s := y2.size; (try simp at y2s); have y2a : w.heap.size < y2.val.heap.size := (by omega); have y2b : w.heap.size + 1 < y2.val.heap.size := (by omega)))
        refine ⟨⟨2, by omega, rfl, Lib.hid (hI.out.next (y2.on (Below.alloc y1.below (by omega) _) (by first | omega | (simp; omega))) 2 _ _ rfl)⟩, by decide⟩
    · obtain ⟨b0, ⟨b1, b2, b3, b4, b5, b6⟩, c0, c1, c2, c3, c4, c5⟩ := six_z hI.out.box
      obtain ⟨f0, ⟨f1, f2, f3, f4, f5, f6⟩, x0, x1, x2, x3, x4, x5⟩ := six_z hI.out.arr
      have G2 := Lib.hid (fun W => V2.out W)
      clear O0 V0 O1 V1 V2 P1 P2 P3 P4 P5 P6 P7
      rcases O2 with ⟨he, C1⟩ | ⟨he, C1⟩
      all_goals
        have G1 := Lib.hid (fun W => C1.out W)
        clear C1
        go_wp2_with (first | (go_at_call 17; (with_reducible refine (G1.out _).mono ?_); rintro e _ ⟨rfl, ⟨y1, rfl⟩⟩; have y1s := y1.size; (try simp at y1s); have y1a : w.heap.size < y1.val.heap.size := (by omega); have y1b : w.heap.size + 1 < y1.val.heap.size := (by omega)) | (go_at_call 10; (with_reducible refine (G2.out _).mono ?_); rintro e _ ⟨rfl, ⟨y2, rfl⟩⟩; have y2s := y2.size; (try simp at y2s); have y2a : w.heap.size < y2.val.heap.size := (by omega); have y2b : w.heap.size + 1 < y2.val.heap.size := (by omega)))
        refine ⟨⟨3, by omega, rfl, Lib.hid (hI.out.next (y2.on (Below.alloc y1.below (by omega) _) (by first | omega | (simp; omega))) 4 _ _ rfl)⟩, by decide⟩
    · obtain ⟨b0, ⟨b1, b2, b3, b4, b5, b6⟩, c0, c1, c2, c3, c4, c5⟩ := six_z hI.out.box
      obtain ⟨f0, ⟨f1, f2, f3, f4, f5, f6⟩, x0, x1, x2, x3, x4, x5⟩ := six_z hI.out.arr
      have G1 := Lib.hid (fun W => P1.out W)
      have G2 := Lib.hid (fun W => P2.out W)
      have G3 := Lib.hid (fun W => P3.out W)
      have G4 := Lib.hid (fun W => P4.out W)
      have G5 := Lib.hid (fun W => P5.out W)
      have G6 := Lib.hid (fun W => P6.out W)
      have Q1 : ∀ W, _ := eqIn_fr L M L M
      have Q2 : ∀ W, _ := eqIn_fr n0 d0 n0 d0
      simp only [beq_self_eq_true, Bool.and_self] at Q1 Q2
      have HB := Lib.hid hI.out.bel
      clear O0 O1 O2 V0 V1 V2 P1 P2 P3 P4 P5 P6 hI
      rcases P7 with ⟨hn, R1⟩ | ⟨hn, R1, R2⟩
      · subst hn
        have G7 := Lib.hid (fun W => R1.out W)
        clear R1
        go_wp2_with (first | (go_at_call 7; (with_reducible refine (G1.out _).mono ?_); rintro e _ ⟨rfl, ⟨y1, rfl⟩⟩; have y1s := y1.size; (try simp at y1s); have y1a : w.heap.size < y1.val.heap.size := (by omega); have y1b : w.heap.size + 1 < y1.val.heap.size := (by omega)) | (go_at_call 13; (with_reducible refine (G2.out _).mono ?_); rintro e _ ⟨rfl, ⟨y2, rfl⟩⟩; have y2s := y2.size; (try simp at y2s); have y2a : w.heap.size < y2.val.heap.size := (by omega); have y2b : w.heap.size + 1 < y2.val.heap.size := (by omega); have y2c : y1.val.heap.size < y2.val.heap.size := (by omega)) | (go_at_call 13; (with_reducible refine (G3.out _).mono ?_); rintro e _ ⟨rfl, ⟨y3, rfl⟩⟩; have y3s := y3.size; (try simp at y3s); have y3a : w.heap.size < y3.val.heap.size := (by omega); have y3b : w.heap.size + 1 < y3.val.heap.size := (by omega); have y3c : y1.val.heap.size < y3.val.heap.size := (by omega); have y3d : y2.val.heap.size < y3.val.heap.size := (by omega)) | (go_at_call 13; (with_reducible refine (G4.out _).mono ?_); rintro e _ ⟨rfl, ⟨y4, rfl⟩⟩; have y4s := y4.size; (try simp at y4s); have y4a : w.heap.size < y4.val.heap.size := (by omega); have y4b : w.heap.size + 1 < y4.val.heap.size := (by omega); have y4c : y1.val.heap.size < y4.val.heap.size := (by omega); have y4d : y2.val.heap.size < y4.val.heap.size := (by omega); have y4e : y3.val.heap.size < y4.val.heap.size := (by omega)) | (go_at_call 7; (with_reducible refine (G5.out _).mono ?_); rintro e _ ⟨rfl, ⟨y5, rfl⟩⟩; have y5s := y5.size; (try simp at y5s); have y5a : w.heap.size < y5.val.heap.size := (by omega); have y5b : w.heap.size + 1 < y5.val.heap.size := (by omega); have y5c : y1.val.heap.size < y5.val.heap.size := (by omega); have y5d : y2.val.heap.size < y5.val.heap.size := (by omega); have y5e : y3.val.heap.size < y5.val.heap.size := (by omega); have y5f : y4.val.heap.size < y5.val.heap.size := (by omega)) | (go_at_call 11; (with_reducible refine (G6.out _).mono ?_); rintro e _ ⟨rfl, ⟨y6, rfl⟩⟩; have y6s := y6.size; (try simp at y6s); have y6a : w.heap.size < y6.val.heap.size := (by omega); have y6b : w.heap.size + 1 < y6.val.heap.size := (by omega); have y6c : y1.val.heap.size < y6.val.heap.size := (by omega); have y6d : y2.val.heap.size < y6.val.heap.size := (by omega); have y6e : y3.val.heap.size < y6.val.heap.size := (by omega); have y6f : y4.val.heap.size < y6.val.heap.size := (by omega); have y6g : y5.val.heap.size < y6.val.heap.size := (by omega)) | (go_at_call 15; (with_reducible refine (G7.out _).mono ?_); rintro e _ ⟨rfl, ⟨y7, rfl⟩⟩; have y7s := y7.size; (try simp at y7s); have y7a : w.heap.size < y7.val.heap.size := (by omega); have y7b : w.heap.size + 1 < y7.val.heap.size := (by omega); have y7c : y1.val.heap.size < y7.val.heap.size := (by omega); have y7d : y2.val.heap.size < y7.val.heap.size := (by omega); have y7e : y3.val.heap.size < y7.val.heap.size := (by omega); have y7f : y4.val.heap.size < y7.val.heap.size := (by omega); have y7g : y5.val.heap.size < y7.val.heap.size := (by omega); have y7h : y6.val.heap.size < y7.val.heap.size := (by omega)))
        go_ret
        refine ⟨rfl, Cls.of ?_⟩
        have C1 := y1.on HB.out (by omega)
        have C2 := y2.on (C1.alloc (by omega) _) (by first | omega | (simp; omega))
        have C3 := y3.on (C2.alloc (by omega) _) (by first | omega | (simp; omega))
        have C4 := y4.on (C3.alloc (by omega) _) (by first | omega | (simp; omega))
        have C5 := y5.on (C4.alloc (by omega) _) (by first | omega | (simp; omega))
        have C6 := y6.on (C5.alloc (by omega) _) (by first | omega | (simp; omega))
        have C7 := y7.on (C6.alloc (by omega) _) (by first | omega | (simp; omega))
        exact C7.alloc (by omega) _
      · have G7 := Lib.hid (fun W => R1.out W)
        have G8 := Lib.hid (fun W => R2.out W)
        clear R1 R2
        go_wp2_with (first | (go_at_call 7; (with_reducible refine (G1.out _).mono ?_); rintro e _ ⟨rfl, ⟨y1, rfl⟩⟩; have y1s := y1.size; (try simp at y1s); have y1a : w.heap.size < y1.val.heap.size := (by omega); have y1b : w.heap.size + 1 < y1.val.heap.size := (by omega)) | (go_at_call 13; (with_reducible refine (G2.out _).mono ?_); rintro e _ ⟨rfl, ⟨y2, rfl⟩⟩; have y2s := y2.size; (try simp at y2s); have y2a : w.heap.size < y2.val.heap.size := (by omega); have y2b : w.heap.size + 1 < y2.val.heap.size := (by omega); have y2c : y1.val.heap.size < y2.val.heap.size := (by omega)) | (go_at_call 13; (with_reducible refine (G3.out _).mono ?_); rintro e _ ⟨rfl, ⟨y3, rfl⟩⟩; have y3s := y3.size; (try simp at y3s); have y3a : w.heap.size < y3.val.heap.size := (by omega); have y3b : w.heap.size + 1 < y3.val.heap.size := (by omega); have y3c : y1.val.heap.size < y3.val.heap.size := (by omega); have y3d : y2.val.heap.size < y3.val.heap.size := (by omega)) | (go_at_call 13; (with_reducible refine (G4.out _).mono ?_); rintro e _ ⟨rfl, ⟨y4, rfl⟩⟩; have y4s := y4.size; (try simp at y4s); have y4a : w.heap.size < y4.val.heap.size := (by omega); have y4b : w.heap.size + 1 < y4.val.heap.size := (by omega); have y4c : y1.val.heap.size < y4.val.heap.size := (by omega); have y4d : y2.val.heap.size < y4.val.heap.size := (by omega); have y4e : y3.val.heap.size < y4.val.heap.size := (by omega)) | (go_at_call 7; (with_reducible refine (G5.out _).mono ?_); rintro e _ ⟨rfl, ⟨y5, rfl⟩⟩; have y5s := y5.size; (try simp at y5s); have y5a : w.heap.size < y5.val.heap.size := (by omega); have y5b : w.heap.size + 1 < y5.val.heap.size := (by omega); have y5c : y1.val.heap.size < y5.val.heap.size := (by omega); have y5d : y2.val.heap.size < y5.val.heap.size := (by omega); have y5e : y3.val.heap.size < y5.val.heap.size := (by omega); have y5f : y4.val.heap.size < y5.val.heap.size := (by omega)) | (go_at_call 11; (with_reducible refine (G6.out _).mono ?_); rintro e _ ⟨rfl, ⟨y6, rfl⟩⟩; have y6s := y6.size; (try simp at y6s); have y6a : w.heap.size < y6.val.heap.size := (by omega); have y6b : w.heap.size + 1 < y6.val.heap.size := (by omega); have y6c : y1.val.heap.size < y6.val.heap.size := (by omega); have y6d : y2.val.heap.size < y6.val.heap.size := (by omega); have y6e : y3.val.heap.size < y6.val.heap.size := (by omega); have y6f : y4.val.heap.size < y6.val.heap.size := (by omega); have y6g : y5.val.heap.size < y6.val.heap.size := (by omega)) | (go_at_call 15; (with_reducible refine (G7.out _).mono ?_); rintro e _ ⟨rfl, ⟨y7, rfl⟩⟩; have y7s := y7.size; (try simp at y7s); have y7a : w.heap.size < y7.val.heap.size := (by omega); have y7b : w.heap.size + 1 < y7.val.heap.size := (by omega); have y7c : y1.val.heap.size < y7.val.heap.size := (by omega); have y7d : y2.val.heap.size < y7.val.heap.size := (by omega); have y7e : y3.val.heap.size < y7.val.heap.size := (by omega); have y7f : y4.val.heap.size < y7.val.heap.size := (by omega); have y7g : y5.val.heap.size < y7.val.heap.size := (by omega); have y7h : y6.val.heap.size < y7.val.heap.size := (by omega)) | (go_at_call 13; (with_reducible refine (G8.out _).mono ?_); rintro e _ ⟨rfl, ⟨y8, rfl⟩⟩; have y8s := y8.size; (try simp at y8s); have y8a : w.heap.size < y8.val.heap.size := (by omega); have y8b : w.heap.size + 1 < y8.val.heap.size := (by omega); have y8c : y1.val.heap.size < y8.val.heap.size := (by omega); have y8d : y2.val.heap.size < y8.val.heap.size := (by omega); have y8e : y3.val.heap.size < y8.val.heap.size := (by omega); have y8f : y4.val.heap.size < y8.val.heap.size := (by omega); have y8g : y5.val.heap.size < y8.val.heap.size := (by omega); have y8h : y6.val.heap.size < y8.val.heap.size := (by omega); have y8i : y7.val.heap.size < y8.val.heap.size := (by omega)))
        go_ret
        refine ⟨rfl, Cls.of ?_⟩
        have C1 := y1.on HB.out (by omega)
        have C2 := y2.on (C1.alloc (by omega) _) (by first | omega | (simp; omega))
        have C3 := y3.on (C2.alloc (by omega) _) (by first | omega | (simp; omega))
        have C4 := y4.on (C3.alloc (by omega) _) (by first | omega | (simp; omega))
        have C5 := y5.on (C4.alloc (by omega) _) (by first | omega | (simp; omega))
        have C6 := y6.on (C5.alloc (by omega) _) (by first | omega | (simp; omega))
        have C7 := y7.on (C6.alloc (by omega) _) (by first | omega | (simp; omega))
        have C8 := y8.on (C7.alloc (by omega) _) (by first | omega | (simp; omega))
        exact C8.alloc (by omega) _
theorem of_fact (num den : Int) (hn : -32768 ≤ num ∧ num ≤ 32767) (hd : -32768 ≤ den ∧ den ≤ 32767) (h0 : den ≠ 0) :
    ∃ (n : Int) (d : Nat), OfP num den (.tuple #[.agg #[.int .i64 n, .int .i64 (d : Nat)], .int .i64 0]) ∧ vaB n d = true ∧ n.natAbs ≤ 32768 ∧ d ≤ 32768 := by
  have hD : 0 < den.natAbs := by omega
  have x1 := frI_le (turned num den) den.natAbs
  rw [turned_abs] at x1
  have x2 := frd_le (turned num den) den.natAbs
  refine ⟨frI (turned num den) den.natAbs, frd (turned num den) den.natAbs, fun W => ?_, fr_va hD (by omega) (by omega), by omega, by omega⟩
  have := Of_calls num den W (by unfold In64; omega) (by unfold In64; omega) h0
  rwa [frV_ok (by omega) (by omega)] at this
theorem va_fact {n d : Int} (h : vaB n d = true) : VaP n d := fun W => by
  have := rValid_calls n d W
  rwa [h] at this
theorem of_two (a b : Int) (ha : -32768 ≤ a ∧ a ≤ 32767) (hb : -32768 ≤ b ∧ b ≤ 32767) :
    ∃ (n : Int) (d : Nat), (((b == 0) = true ∧ Hid (OfP a 1 (.tuple #[.agg #[.int .i64 n, .int .i64 (d : Nat)], .int .i64 0]))) ∨ ((b == 0) = false ∧ Hid (OfP a b (.tuple #[.agg #[.int .i64 n, .int .i64 (d : Nat)], .int .i64 0])))) ∧ vaB n d = true ∧ n.natAbs ≤ 32768 ∧ d ≤ 32768 := by
  by_cases h : b = 0
  · obtain ⟨n, d, h1, h2⟩ := of_fact a 1 ha (by omega) (by omega)
    exact ⟨n, d, .inl ⟨by simpa using h, Lib.hid h1⟩, h2⟩
  · obtain ⟨n, d, h1, h2⟩ := of_fact a b ha hb h
    exact ⟨n, d, .inr ⟨by simpa using h, Lib.hid h1⟩, h2⟩
theorem In16.of {n : Int} (h : (Lit.int .i16 n).wf = true) : -32768 ≤ n ∧ n ≤ 32767 := by
  simp [Lit.wf, IntKind.min, IntKind.max, IntKind.bits, IntKind.signed] at h
  omega
theorem wrap_16 {n : Int} (h : -32768 ≤ n ∧ n ≤ 32767) : IntKind.i64.wrap n = n := by
  rw [IntKind.wrap_i64]; omega
theorem fractionField_walk (l0 l1 l2 l3 l4 l5 : Int) (w : World) (h0 : (Lit.int .i16 l0).wf = true) (h1 : (Lit.int .i16 l1).wf = true) (h2 : (Lit.int .i16 l2).wf = true) (h3 : (Lit.int .i16 l3).wf = true) (h4 : (Lit.int .i16 l4).wf = true) (h5 : (Lit.int .i16 l5).wf = true) :
    Calls Try.prog 4 #[.agg #[.int .i16 l0, .int .i16 l1, .int .i16 l2, .int .i16 l3, .int .i16 l4, .int .i16 l5]] w fun e w' => e = .returned (.bool true) ∧ Below w.heap.size w w' := by
  obtain ⟨n0, d0, O0, v0, b0⟩ := of_two l0 l1 (In16.of h0) (In16.of h1)
  obtain ⟨n1, d1, O1, v1, b1⟩ := of_two l2 l3 (In16.of h2) (In16.of h3)
  obtain ⟨n2, d2, O2, v2, b2⟩ := of_two l4 l5 (In16.of h4) (In16.of h5)
  obtain ⟨p, q, L, M, A, B, C, E, X, Y, P1, P2, P3, P4, P5, P6, P7⟩ := field_facts n0 n1 n2 d0 d1 d2 v0 v1 v2 b0 b1 b2
  refine (field_core l0 l1 l2 l3 l4 l5 n0 d0 n1 d1 n2 d2 p q L M A B C E X Y w (wrap_16 (In16.of h0)) (wrap_16 (In16.of h1)) (wrap_16 (In16.of h2)) (wrap_16 (In16.of h3)) (wrap_16 (In16.of h4)) (wrap_16 (In16.of h5)) O0 O1 O2 (Lib.hid (va_fact v0)) (Lib.hid (va_fact v1)) (Lib.hid (va_fact v2)) (Lib.hid P1) (Lib.hid P2) (Lib.hid P3) (Lib.hid P4) (Lib.hid P5) (Lib.hid P6) ?_).mono fun _ _ ⟨he, hc⟩ => ⟨he, hc.below⟩
  rcases P7 with ⟨hn, hP⟩ | ⟨hn, hP, hQ⟩
  · exact .inl ⟨hn, Lib.hid hP⟩
  · exact .inr ⟨by simpa using hn, Lib.hid hP, Lib.hid hQ⟩
end Go.Proofs.Ythlaejodajdioaa
