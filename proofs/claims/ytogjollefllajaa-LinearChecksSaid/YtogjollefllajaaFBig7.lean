/-
  The reference's comparison of fractions.
-/
import Derived.Test.YtogjollefllajaaFBig5
import Derived.Test.YtogjollefllajaaFOrdM
set_option linter.unusedVariables false
namespace Go.Proofs.Ytogjollefllajaa
open Go Go.RowKit Go.Deep
theorem new3_0 (w : World) (o o' o'' : Obj) : (((w.alloc o).alloc o').alloc o'').heap[w.heap.size]? = some o := by
  have := (((Below.refl (w.heap.size + 1) (w.alloc o)).alloc (by simp) o').alloc (by simp) o'').block w.heap.size (by omega)
  exact this.trans (heap_alloc_new w o)
theorem new3_1 (w : World) (o o' o'' : Obj) : (((w.alloc o).alloc o').alloc o'').heap[w.heap.size + 1]? = some o' := by
  have := ((Below.refl (w.heap.size + 1 + 1) ((w.alloc o).alloc o')).alloc (by simp) o'').block (w.heap.size + 1) (by omega)
  have h := heap_alloc_new (w.alloc o) o'
  exact this.trans (by simpa using h)
theorem cell_after2 (W : World) (T : Nat) (c : Addr) (v0 v1 : Value) (h : c.block ≠ T) : ((W.setCell ⟨T, 0, none⟩ v0).setCell ⟨T, 1, none⟩ v1).cell? c = W.cell? c := by
  refine World.cell?_of_block ?_
  rw [heap_setCell_other _ _ _ _ h, heap_setCell_other _ _ _ _ h]
theorem cell_a20 (W : World) (b off : Nat) (v0 v1 : Value) : ((W.setCell ⟨b + 1 + 1, 0, none⟩ v0).setCell ⟨b + 1 + 1, 1, none⟩ v1).cell? ⟨b, off, none⟩ = W.cell? ⟨b, off, none⟩ := cell_after2 _ _ _ _ _ (by show b ≠ b + 1 + 1; omega)
theorem cell_a21 (W : World) (b off : Nat) (v0 v1 : Value) : ((W.setCell ⟨b + 1 + 1, 0, none⟩ v0).setCell ⟨b + 1 + 1, 1, none⟩ v1).cell? ⟨b + 1, off, none⟩ = W.cell? ⟨b + 1, off, none⟩ := cell_after2 _ _ _ _ _ (by show b + 1 ≠ b + 1 + 1; omega)
theorem below2 {B : Nat} {w0 W : World} {T : Nat} (h : Below B w0 W) (hT : B ≤ T) (v0 v1 : Value) : Below B w0 ((W.setCell ⟨T, 0, none⟩ v0).setCell ⟨T, 1, none⟩ v1) := (h.setCell hT v0).setCell hT v1
theorem va_big3 {n d : Int} (h : vaB n d = true) : n.natAbs < 1000000000 ^ 3 ∧ d.natAbs < 1000000000 ^ 3 ∧ 0 < d.natAbs := by
  obtain ⟨h1, h2, h3, h4⟩ := vaB_rng h
  rw [show (1000000000 : Nat) ^ 3 = 1000000000000000000000000000 from rfl]
  omega
theorem pow_big {x k : Nat} (h : x < 1000000000 ^ k) (hk : k ≤ 100) : x < 1000000000 ^ 100 := Nat.lt_of_lt_of_le h (Nat.pow_le_pow_right (by omega) hk)
theorem va_big {n d : Int} (h : vaB n d = true) : n.natAbs < 1000000000 ^ 100 ∧ d.natAbs < 1000000000 ^ 100 ∧ 0 < d.natAbs := by
  obtain ⟨h1, h2, h3⟩ := va_big3 h
  exact ⟨pow_big h1 (by omega), pow_big h2 (by omega), h3⟩
theorem new2_0 (w : World) (o o' : Obj) : ((w.alloc o).alloc o').heap[w.heap.size]? = some o := by
  have := ((Below.refl (w.heap.size + 1) (w.alloc o)).alloc (by simp) o').block w.heap.size (by omega)
  exact this.trans (heap_alloc_new w o)
theorem new2_1 (w : World) (o o' : Obj) : ((w.alloc o).alloc o').heap[w.heap.size + 1]? = some o' := by
  have h := heap_alloc_new (w.alloc o) o'
  simpa using h
theorem sign_fr (N : Int) {D : Nat} (hD : 0 < D) : cmpI (frI N D) 0 = cmpI N 0 := by
  have h1 := frI_neg (N := N) hD
  have h2 := frI_mul N D
  have h3 : (0 : Int) < ((Nat.gcd N.natAbs D : Nat) : Int) := by have := gcd_pos_right (a := N.natAbs) hD; omega
  by_cases h : N < 0
  · rw [show cmpI N 0 = -1 from if_pos h, show cmpI (frI N D) 0 = -1 from if_pos (h1.2 h)]
  · have h4 : ¬ frI N D < 0 := fun e => h (h1.1 e)
    by_cases h5 : N = 0
    · rw [h5, frI_zero]
    · have h6 : frI N D ≠ 0 := fun e => by rw [e, Int.mul_zero] at h2; exact h5 h2.symm
      unfold cmpI
      rw [if_neg h, if_neg h4, if_pos (by omega), if_pos (by omega)]
theorem cmpI_sub (x y : Int) : cmpI (x + -y) 0 = cmpI x y := by unfold cmpI; split <;> (try split) <;> (try split) <;> (try split) <;> omega
end Go.Proofs.Ytogjollefllajaa
