/-
  Worlds that are later ones but for one block: the map that a call has made.
-/
import Derived.Test.YtilnnpeknkjjmaaOReady2
import Derived.Maps.AppendAt
import Derived.OwnWalk
set_option linter.unusedVariables false
namespace Go.Proofs.Ytilnnpeknkjjmaa
open Go Go.RowKit Go.Deep
/-- A later world: all that was there is as it was, but for block T. -/
structure Tp (T : Nat) (w w' : World) : Prop where
  os : w'.os = w.os
  tape : w'.tape = w.tape
  output : w'.output = w.output
  size : w.heap.size ≤ w'.heap.size
  block : ∀ k, k < w.heap.size → k ≠ T → w'.heap[k]? = w.heap[k]?
namespace Tp
theorem refl (T : Nat) (w : World) : Tp T w w := ⟨rfl, rfl, rfl, Nat.le_refl _, fun _ _ _ => rfl⟩
theorem trans {T : Nat} {a b c : World} (h : Tp T a b) (k : Tp T b c) : Tp T a c :=
  ⟨k.os.trans h.os, k.tape.trans h.tape, k.output.trans h.output, Nat.le_trans h.size k.size, fun i hi hT => (k.block i (Nat.lt_of_lt_of_le hi h.size) hT).trans (h.block i hi hT)⟩
theorem ofBelow {T : Nat} {w w' : World} (h : Below w.heap.size w w') : Tp T w w' := ⟨h.os, h.tape, h.output, h.size, fun k hk _ => h.block k hk⟩
theorem ext {T : Nat} {w0 w : World} (h : Tp T w0 w) (x : Ext w) : Tp T w0 x.val := h.trans (ofBelow x.below)
theorem drew {T : Nat} {w0 w : World} (h : Tp T w0 w) : Tp T w0 w.drew := h.trans (ofBelow (Below.refl _ _).drew)
theorem alloc {T : Nat} {w0 w : World} (h : Tp T w0 w) (o : Obj) : Tp T w0 (w.alloc o) := h.trans (ofBelow ((Below.refl _ _).alloc (Nat.le_refl _) o))
theorem setCell {T : Nat} {w0 w : World} (h : Tp T w0 w) {p : Addr} (hp : w0.heap.size ≤ p.block ∨ p.block = T) (u : Value) : Tp T w0 (w.setCell p u) :=
  ⟨h.os, h.tape, h.output, by simpa [World.setCell] using h.size, fun k hk hT => (Below.heap_setCell _ _ _ _ (by rcases hp with hp | hp <;> omega)).trans (h.block k hk hT)⟩
theorem toBelow {T B : Nat} {w w' : World} (h : Tp T w w') (hB : B ≤ w.heap.size) (hT : B ≤ T) : Below B w w' := ⟨h.os, h.tape, h.output, h.size, fun k hk => h.block k (by omega) (by omega)⟩
theorem cell {T : Nat} {w w' : World} (h : Tp T w w') {b : Nat} (o : Nat) (hb : b < w.heap.size) (hT : b ≠ T) : w'.cell? ⟨b, o, none⟩ = w.cell? ⟨b, o, none⟩ := World.cell?_of_block (w := w) (h.block b hb hT)
theorem frozen {T : Nat} {w w' : World} (h : Tp T w w') {b : Nat} (o : Nat) (hb : b < w.heap.size) (hT : b ≠ T) : w'.frozen? ⟨b, o, none⟩ = w.frozen? ⟨b, o, none⟩ := World.frozen?_of_block (w := w) (h.block b hb hT)
end Tp

theorem Tp.grown {T : Nat} {a w w' : World} {row : Option Nat} (h : Tp T a w) (hg : w.grownBy w' row) (hr : ∀ k, row = some k → a.heap.size ≤ k) : Tp T a w' :=
  ⟨hg.os.trans h.os, hg.tape.trans h.tape, hg.output.trans h.output, Nat.le_trans h.size hg.size, fun k hk hT => (hg.block k (Nat.lt_of_lt_of_le hk h.size) (fun e => by have := hr k e.symm; omega)).trans (h.block k hk hT)⟩
theorem own_tp {T : Nat} {w w' : World} {base size n : Nat} {e : TypeId} {v : Value} {xs : List Value} (h : w.ownsRow base e size v n xs) (hb : Tp T w w') (hT : T < base) : w'.ownsRow base e size v n xs := by
  refine ⟨h.1, h.2.imp id ?_⟩
  rintro ⟨g, cap, cur, hv, hg, hh, rest⟩
  exact ⟨g, cap, cur, hv, hg, (hb.block g (Array.getElem?_eq_some_iff.1 hh).1 (by omega)).trans hh, rest⟩
theorem SlAt.tp {T k : Nat} {w w' : World} {s : Sl} {c : Nat → List Value} (h : SlAt w k s c) (hb : Tp T w w') (hT : ∀ b off, s.a = some ⟨b, off, none⟩ → b ≠ T) : SlAt w' k s c := by
  refine ⟨h.1, h.2.1, h.2.2.1, fun i hi => ?_⟩
  obtain ⟨b, off, ha, hlt, hc⟩ := h.2.2.2 i hi
  exact ⟨b, off, ha, Nat.lt_of_lt_of_le hlt hb.size, fun j hj => by rw [hb.cell _ hlt (hT b off ha)]; exact hc j hj⟩
theorem Tp.turn {T : Nat} {a w w' : World} (h : Tp T a w) (hg : w.grownBy w' (some T)) : Tp T a w' :=
  ⟨hg.os.trans h.os, hg.tape.trans h.tape, hg.output.trans h.output, Nat.le_trans h.size hg.size, fun k hk hT => (hg.block k (Nat.lt_of_lt_of_le hk h.size) (fun e => hT (Option.some.inj e))).trans (h.block k hk hT)⟩
theorem own_turn {T : Nat} {w w' : World} {base size n : Nat} {e : TypeId} {v : Value} {xs : List Value} (h : w.ownsRow base e size v n xs) (hg : w.grownBy w' (some T)) (hT : ∀ k, v.ownBlock = some k → k ≠ T) : w'.ownsRow base e size v n xs := by
  refine ⟨h.1, h.2.imp id ?_⟩
  rintro ⟨g, cap, cur, hv, hg', hh, rest⟩
  exact ⟨g, cap, cur, hv, hg', (hg.block g (Array.getElem?_eq_some_iff.1 hh).1 (fun e => hT g (by rw [hv]; rfl) (Option.some.inj e))).trans hh, rest⟩
/-- A row is not a map. -/
theorem own_not_map {w : World} {base size n B c m : Nat} {e : TypeId} {v : Value} {xs : List Value} {f : Nat → Option Value} (h : w.ownsRow base e size v n xs) (hm : MapIs w B c m f) : ∀ k, v.ownBlock = some k → k ≠ B := by
  rintro k hk rfl
  obtain ⟨D, ⟨es, clock, hb, _⟩, _⟩ := hm
  rcases h.2 with ⟨rfl, _⟩ | ⟨g, cap, cur, rfl, _, hh, _⟩
  · simp [Value.ownBlock] at hk
  · simp [Value.ownBlock] at hk
    subst hk
    rw [hb] at hh
    cases hh
theorem sl_not_map {w : World} {B c m : Nat} {s : Sl} {g : Nat → Int} {f : Nat → Option Value} (h : SlAt w 1 s (intC g)) (hl : 0 < s.len) (hm : MapIs w B c m f) : ∀ b off, s.a = some ⟨b, off, none⟩ → b ≠ B := by
  rintro b off ha rfl
  obtain ⟨D, ⟨es, clock, hb, _⟩, _⟩ := hm
  obtain ⟨b', o', ha', _, hc⟩ := h.2.2.2 0 hl
  rw [ha] at ha'
  simp only [Option.some.injEq, Addr.mk.injEq, and_true] at ha'
  obtain ⟨rfl, rfl⟩ := ha'
  have := hc 0 (by omega)
  simp [World.cell?, hb, intC] at this
theorem SlAt.turn {w w' : World} {B c m : Nat} {s : Sl} {g : Nat → Int} {f : Nat → Option Value} (h : SlAt w 1 s (intC g)) (hm : MapIs w B c m f) (ht : Tp B w w') : SlAt w' 1 s (intC g) := by
  by_cases hl : 0 < s.len
  · exact h.tp ht (sl_not_map h hl hm)
  · exact ⟨h.1, h.2.1, h.2.2.1, fun i hi => absurd hi (by omega)⟩
theorem RowsAt.turn {sl : Sl} {tb : Nat → Tb} {f f' : Nat → Option Value} {s : Nat → Sl} {w w' : World} {B c m : Nat} (h : RowsAt sl tb f s w) (hm : MapIs w B c m f) (ht : Tp B w w') (hf : ∀ j, j < sl.len → f' j = f j ∨ f' j = none) : RowsAt sl tb f' s w' := fun j hj => by
  rcases hf j hj with e | e
  · rw [e]
    exact (h j hj).imp id fun ⟨h1, h2, h3⟩ => ⟨h1, h2, h3.turn hm ht⟩
  · exact .inl e
end Go.Proofs.Ytilnnpeknkjjmaa
