/-
  One walk of the text's order serves every order, in whatever class the region's start is.
-/
import Derived.Test.YtbnhmjecjeifdaaDoorLin
namespace Go.Proofs.YtbnhmjecjeifdaaDoor
open Go Go.RowKit
theorem wp_region_lin_in {P : Program} {C : World → Prop} {id : Nat} {Q : Exit → Act → World → Prop} {a : Act} {w : World} {l : List Oper} (hC : ∀ x : Ext w, C x.val) (hm : P.follows .mixedOrders = true) (hB : linB .any l.toArray = true)
    (h : ∀ x : Ext w, wpLin P l.toArray C (fun a' w' => Q .normal a' w') l a x.val) : (Code.region id l.toArray true).wp P Q a w := by
  obtain ⟨x, hx⟩ := Cls.start w
  refine wp_region_any hm ?_
  have h1 := lexI_of_lin (C := C) l 0 a x.val (by simp) (h x)
  rw [hx]
  refine wpAny_of_lexI (C := C) (Q := fun a' w' => Q .normal a' w') hB (fun _ _ h => h) _ (List.range' 0 l.length) _ a x.val (by simp) List.pairwise_lt_range' (fun j => ?_) (by simp) ?_ (.inr (hC x)) h1
  · rw [List.mem_range'_1]
    simp only [List.size_toArray]
    constructor
    · intro hj
      have : j < l.length := by omega
      exact ⟨this, by simp [this]⟩
    · intro hj; omega
  · intro j oj hj hl
    rw [getD_replicate_false] at hl
    cases hl
end Go.Proofs.YtbnhmjecjeifdaaDoor
