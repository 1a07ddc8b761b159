/-
  What lies in memory while the tape without numbers makes a schema.
-/
import Derived.Test.YtbnhmjecjeifdaaDoorDExpr
import Derived.Test.YtbnhmjecjeifdaaDoorShift
set_option linter.unusedVariables false
namespace Go.Proofs.YtbnhmjecjeifdaaDoor
open Go Go.RowKit Go.Deep
def nilS : Value := .slice none 0 0
/-- The two boxes of the result, the table that is made (block xb), its key's number (block pb), and the tape. -/
structure Fz (T p : Nat) (w : World) (xb pb : Nat) (cs us ks : Value) (wr : World) : Prop where
  tp : Tp T w wr
  tape : TapeZ T p wr
  tlt : T < w.heap.size
  b2 : wr.heap[w.heap.size]? = some (.cells #[.slice none 0 0] 37)
  b3 : wr.heap[w.heap.size + 1]? = some (.cells #[.slice none 0 0] 37)
  xlo : w.heap.size + 2 ≤ xb
  x : wr.heap[xb]? = some (.cells #[.string ⟨#[116, 48]⟩, cs, .slice (some ⟨pb, 0, none⟩) 1 1, us, .slice none 0 0, ks] 47)
  plo : w.heap.size + 2 ≤ pb
  pr : wr.heap[pb]? = some (.cells #[.int .i64 0] 3)
namespace Fz
variable {T p q xb pb : Nat} {w wr : World} {cs us ks : Value}
theorem below {w' : World} (h : Fz T p w xb pb cs us ks wr) (hb : Below wr.heap.size wr w') : Fz T p w xb pb cs us ks w' :=
  ⟨h.tp.trans (Tp.ofBelow hb), h.tape.later hb, h.tlt, (hb.block _ (Array.getElem?_eq_some_iff.1 h.b2).1).trans h.b2, (hb.block _ (Array.getElem?_eq_some_iff.1 h.b3).1).trans h.b3, h.xlo, (hb.block _ (Array.getElem?_eq_some_iff.1 h.x).1).trans h.x, h.plo, (hb.block _ (Array.getElem?_eq_some_iff.1 h.pr).1).trans h.pr⟩
theorem next (h : Fz T p w xb pb cs us ks wr) (z : LatZ T q wr) : Fz T q w xb pb cs us ks z.val := by
  have hT := h.tlt
  have h1 := h.xlo
  have h2 := h.plo
  exact ⟨h.tp.trans z.tp, z.at_, h.tlt, (z.tp.block _ (Array.getElem?_eq_some_iff.1 h.b2).1 (by omega)).trans h.b2, (z.tp.block _ (Array.getElem?_eq_some_iff.1 h.b3).1 (by omega)).trans h.b3, h.xlo, (z.tp.block _ (Array.getElem?_eq_some_iff.1 h.x).1 (by omega)).trans h.x, h.plo, (z.tp.block _ (Array.getElem?_eq_some_iff.1 h.pr).1 (by omega)).trans h.pr⟩
theorem grown {w' : World} {row : Option Nat} (h : Fz T p w xb pb cs us ks wr) (hg : wr.grownBy w' row) (hr : ∀ k, row = some k → w.heap.size + 2 ≤ k ∧ k ≠ xb ∧ k ≠ pb) : Fz T p w xb pb cs us ks w' := by
  have hT := h.tlt
  have hl := fun (k : Nat) (hk : row = some k) => (hr k hk).1
  refine ⟨h.tp.grown hg (fun k hk => by have := hl k hk; omega), ?_, h.tlt, (hg.block _ (Array.getElem?_eq_some_iff.1 h.b2).1 fun e => by have := hl _ e.symm; omega).trans h.b2, (hg.block _ (Array.getElem?_eq_some_iff.1 h.b3).1 fun e => by have := hl _ e.symm; omega).trans h.b3, h.xlo, (hg.block _ (Array.getElem?_eq_some_iff.1 h.x).1 fun e => (hr _ e.symm).2.1 rfl).trans h.x, h.plo, (hg.block _ (Array.getElem?_eq_some_iff.1 h.pr).1 fun e => (hr _ e.symm).2.2 rfl).trans h.pr⟩
  exact (hg.block _ h.tape.lt fun e => by have := hl _ e.symm; omega).trans h.tape
theorem keep {w' : World} (h : Fz T p w xb pb cs us ks wr) (htp : Tp T w w') (hT : w'.heap[T]? = wr.heap[T]?) (h2 : w'.heap[w.heap.size]? = wr.heap[w.heap.size]?) (h3 : w'.heap[w.heap.size + 1]? = wr.heap[w.heap.size + 1]?) (hp : w'.heap[pb]? = wr.heap[pb]?) {cs' us' ks' : Value}
    (hx : w'.heap[xb]? = some (.cells #[.string ⟨#[116, 48]⟩, cs', .slice (some ⟨pb, 0, none⟩) 1 1, us', .slice none 0 0, ks'] 47)) : Fz T p w xb pb cs' us' ks' w' :=
  ⟨htp, hT.trans h.tape, h.tlt, h2.trans h.b2, h3.trans h.b3, h.xlo, hx, h.plo, hp.trans h.pr⟩
theorem ne (h : Fz T p w xb pb cs us ks wr) : pb ≠ xb := by
  intro e
  have h1 := h.pr
  rw [e, h.x] at h1
  simp at h1
theorem set1 (h : Fz T p w xb pb cs us ks wr) (v : Value) : Fz T p w xb pb v us ks (wr.setCell ⟨xb, 1, none⟩ v) := by
  have hT := h.tlt
  have h1 := h.xlo
  have h2 := h.ne
  refine h.keep (h.tp.setCell (.inl (by show w.heap.size ≤ xb; omega)) v) (Below.heap_setCell _ _ _ _ (by show T ≠ xb; omega)) (Below.heap_setCell _ _ _ _ (by show w.heap.size ≠ xb; omega)) (Below.heap_setCell _ _ _ _ (by show w.heap.size + 1 ≠ xb; omega)) (Below.heap_setCell _ _ _ _ h2) ?_
  simp only [World.setCell, Array.getElem?_modify, h.x]
  simp
theorem set3 (h : Fz T p w xb pb cs us ks wr) (v : Value) : Fz T p w xb pb cs v ks (wr.setCell ⟨xb, 3, none⟩ v) := by
  have hT := h.tlt
  have h1 := h.xlo
  have h2 := h.ne
  refine h.keep (h.tp.setCell (.inl (by show w.heap.size ≤ xb; omega)) v) (Below.heap_setCell _ _ _ _ (by show T ≠ xb; omega)) (Below.heap_setCell _ _ _ _ (by show w.heap.size ≠ xb; omega)) (Below.heap_setCell _ _ _ _ (by show w.heap.size + 1 ≠ xb; omega)) (Below.heap_setCell _ _ _ _ h2) ?_
  simp only [World.setCell, Array.getElem?_modify, h.x]
  simp
theorem set5 (h : Fz T p w xb pb cs us ks wr) (v : Value) : Fz T p w xb pb cs us v (wr.setCell ⟨xb, 5, none⟩ v) := by
  have hT := h.tlt
  have h1 := h.xlo
  have h2 := h.ne
  refine h.keep (h.tp.setCell (.inl (by show w.heap.size ≤ xb; omega)) v) (Below.heap_setCell _ _ _ _ (by show T ≠ xb; omega)) (Below.heap_setCell _ _ _ _ (by show w.heap.size ≠ xb; omega)) (Below.heap_setCell _ _ _ _ (by show w.heap.size + 1 ≠ xb; omega)) (Below.heap_setCell _ _ _ _ h2) ?_
  simp only [World.setCell, Array.getElem?_modify, h.x]
  simp
end Fz
/-- A row's block is none of another type. -/
theorem own_ne_z {w : World} {base size n : Nat} {e : TypeId} {v : Value} {xs : List Value} (h : w.ownsRow base e size v n xs) {b : Nat} {cs : Array Value} {t : TypeId} (hb : w.heap[b]? = some (.cells cs t)) (ht : t ≠ e) : ∀ k, v.ownBlock = some k → k ≠ b := by
  rintro k hk rfl
  rcases h.2 with ⟨rfl, _⟩ | ⟨g, cap, cur, rfl, _, hh, _⟩
  · simp [Value.ownBlock] at hk
  · simp [Value.ownBlock] at hk
    subst hk
    rw [hb] at hh
    simp only [Option.some.injEq, Obj.cells.injEq] at hh
    exact ht hh.2.1
theorem own_slice_z {w : World} {base size n : Nat} {e : TypeId} {v : Value} {xs : List Value} (h : w.ownsRow base e size v (n + 1) xs) : ∃ g c, v = .slice (some ⟨g, 0, none⟩) (n + 1) c := by
  rcases h.2 with ⟨_, h0⟩ | ⟨g, cap, cur, rfl, _⟩
  · cases h0
  · exact ⟨_, _, rfl⟩
theorem own_block {w w' : World} {base size n : Nat} {e : TypeId} {v : Value} {xs : List Value} (h : w.ownsRow base e size v n xs) (hb : ∀ k, v.ownBlock = some k → w'.heap[k]? = w.heap[k]?) : w'.ownsRow base e size v n xs := by
  refine ⟨h.1, h.2.imp id ?_⟩
  rintro ⟨g, cap, cur, hv, hg, hh, rest⟩
  exact ⟨g, cap, cur, hv, hg, (hb g (by rw [hv]; rfl)).trans hh, rest⟩
theorem own_next {T q : Nat} {w : World} {base size n : Nat} {e : TypeId} {v : Value} {xs : List Value} (h : w.ownsRow base e size v n xs) (z : LatZ T q w) (hT : T < base) : z.val.ownsRow base e size v n xs := own_tp h z.tp hT
theorem own_set {w : World} {base size n xb o : Nat} {e : TypeId} {v u : Value} {xs : List Value} (h : w.ownsRow base e size v n xs) (hx : ∀ k, v.ownBlock = some k → k ≠ xb) : (w.setCell ⟨xb, o, none⟩ u).ownsRow base e size v n xs :=
  own_block h fun k hk => Below.heap_setCell _ _ _ _ (hx k hk)
def idC : List Value := [.string ⟨#[105, 100]⟩, .int .i64 1, .bool false]
def c0C : List Value := [.string ⟨#[99, 48]⟩, .int .i64 1, .bool true]
theorem infoCl : (Tryd.prog.info? 49).map (fun i => (i.zero, i.size, i.bytes)) = some (some (.agg #[.string ⟨#[]⟩, .int .i64 0, .bool false]), 3, 32) := by kernel_rfl
theorem infoIs : (Tryd.prog.info? 31).map (fun i => (i.zero, i.size, i.bytes)) = some (some (.slice none 0 0), 1, 24) := by kernel_rfl
theorem infoTb : (Tryd.prog.info? 47).map (fun i => (i.zero, i.size, i.bytes)) = some (some (.agg #[.string ⟨#[]⟩, .slice none 0 0, .slice none 0 0, .slice none 0 0, .slice none 0 0, .slice none 0 0]), 6, 136) := by kernel_rfl
theorem start_z {T p : Nat} {w Y : World} (hT : T < w.heap.size) (ht : Tp T w Y) (h2 : Y.heap[w.heap.size]? = some (.cells #[.slice none 0 0] 37)) (h3 : Y.heap[w.heap.size + 1]? = some (.cells #[.slice none 0 0] 37))
    (z : LatZ T p (((Y.alloc (.cells #[.string ⟨#[105, 100]⟩, .int .i64 1, .bool false] 49)).alloc (.cells #[.int .i64 0] 3)).alloc (.cells #[.string ⟨#[116, 48]⟩, .slice (some ⟨Y.heap.size, 0, none⟩) 1 1, .slice (some ⟨Y.heap.size + 1, 0, none⟩) 1 1, .slice none 0 0, .slice none 0 0, .slice none 0 0] 47))) :
    Fz T p w (Y.heap.size + 1 + 1) (Y.heap.size + 1) (.slice (some ⟨Y.heap.size, 0, none⟩) 1 1) (.slice none 0 0) (.slice none 0 0) z.val ∧ z.val.ownsRow (w.heap.size + 2) 49 3 (.slice (some ⟨Y.heap.size, 0, none⟩) 1 1) 1 idC := by
  have s3 := (Array.getElem?_eq_some_iff.1 h3).1
  have zs := z.size
  simp at zs
  have hb : Below Y.heap.size Y (((Y.alloc (.cells #[.string ⟨#[105, 100]⟩, .int .i64 1, .bool false] 49)).alloc (.cells #[.int .i64 0] 3)).alloc (.cells #[.string ⟨#[116, 48]⟩, .slice (some ⟨Y.heap.size, 0, none⟩) 1 1, .slice (some ⟨Y.heap.size + 1, 0, none⟩) 1 1, .slice none 0 0, .slice none 0 0, .slice none 0 0] 47)) := by
    repeat first | with_reducible exact Below.refl _ _ | with_reducible refine Below.setCell ?_ (by first | omega | (simp; done) | (simp; omega)) _ | with_reducible refine Below.alloc ?_ (by first | omega | (simp; done) | (simp; omega)) _ | with_reducible refine Below.drew ?_ | with_reducible refine Ext.on _ ?_ (by first | omega | (simp; done) | (simp; omega))
  refine ⟨⟨(ht.trans (Tp.ofBelow hb)).trans z.tp, z.at_, hT, (z.tp.block _ (by simp; omega) (by omega)).trans ((hb.block _ (by omega)).trans h2), (z.tp.block _ (by simp; omega) (by omega)).trans ((hb.block _ (by omega)).trans h3), by omega, (z.tp.block _ (by simp) (by omega)).trans (heap_alloc_at _ _ (by simp)), by omega,
    (z.tp.block _ (by simp) (by omega)).trans ((Below.heap_alloc _ _ _ (by simp)).trans (heap_alloc_at _ _ (by simp)))⟩, ?_⟩
  refine own_next (own_block (World.ownsRow_lit (size := 3) Y idC.toArray 1 (by omega) (by unfold maxLen; omega) rfl) fun k hk => ?_) z (by omega)
  have hk2 : k = Y.heap.size := by
    have : some Y.heap.size = some k := hk
    injection this with e
    exact e.symm
  subst hk2
  exact (Below.heap_alloc _ _ _ (by simp; omega)).trans (Below.heap_alloc _ _ _ (by simp))
/-- A world in which block b is as it was. -/
structure Kept (b : Nat) (w : World) where
  val : World
  same : val.heap[b]? = w.heap[b]?
instance (b : Nat) (w : World) : Nonempty (Kept b w) := ⟨⟨w, rfl⟩⟩
@[go_sem] theorem Kept.cell {b : Nat} {w : World} (x : Kept b w) (o : Nat) : x.val.cell? ⟨b, o, none⟩ = w.cell? ⟨b, o, none⟩ := World.cell?_of_block (w := w) x.same
theorem kept_start {b : Nat} {w : World} (hb : b < w.heap.size) (x : Ext w) : ∃ y : Kept b w, x.val = y.val := ⟨⟨x.val, x.below.block b hb⟩, rfl⟩
end Go.Proofs.YtbnhmjecjeifdaaDoor
