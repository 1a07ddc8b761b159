/-
  What Parse gives: the only valid value whose text the string is, else an error.
-/
import Derived.Test.YtmjaieceknhnbaaDoorCand
set_option linter.unusedVariables false
namespace Go.Proofs.YtmjaieceknhnbaaDoor
open Go Go.RowKit Lib
/-- What is asked of both Parses. -/
def ParseIs (l : List UInt8) (e : Ending) : Prop :=
  (∃ k n t, vB k n t = true ∧ txt k n t = l ∧ e = .returned (.tuple #[.agg #[.int .i64 k, .int .i64 n, .string t], .int .i64 0])) ∨
  ((∀ k n t, vB k n t = true → txt k n t ≠ l) ∧ e = .returned (.tuple #[.agg #[.int .i64 0, .int .i64 0, .string ByteArray.empty], .int .i64 2]))
theorem only_b {l : List UInt8} {k n : Int} {t : ByteArray} (h : Only l k n t false) : ∀ k n t, vB k n t = true → txt k n t ≠ l := fun k' n' t' hv ht => by
  have := (h k' n' t' hv ht).2.2.2
  simp at this
theorem only_v {l : List UInt8} {k n : Int} {t : ByteArray} {b : Bool} (h : Only l k n t b) (hv : vB k n t = false) : ∀ k n t, vB k n t = true → txt k n t ≠ l := fun k' n' t' hv' ht => by
  obtain ⟨rfl, rfl, rfl, _⟩ := h k' n' t' hv' ht
  rw [hv] at hv'; simp at hv'
theorem only_t {l : List UInt8} {k n : Int} {t : ByteArray} {b : Bool} (h : Only l k n t b) (hv : txt k n t ≠ l) : ∀ k n t, vB k n t = true → txt k n t ≠ l := fun k' n' t' hv' ht => by
  obtain ⟨rfl, rfl, rfl, _⟩ := h k' n' t' hv' ht
  exact hv ht
theorem only_b' {l : List UInt8} {k n : Int} {t : ByteArray} {b : Bool} (h : Only l k n t b) (hb : ¬ b = true) : ∀ k n t, vB k n t = true → txt k n t ≠ l := by
  cases b
  · exact only_b h
  · exact absurd rfl hb
theorem only_v' {l : List UInt8} {k n : Int} {t : ByteArray} {b : Bool} (h : Only l k n t b) (hb : ¬ vB k n t = true) : ∀ k n t, vB k n t = true → txt k n t ≠ l := only_v h (by simpa using hb)
theorem only_t' {s : ByteArray} {k n : Int} {t : ByteArray} {b : Bool} (h : Only s.data.toList k n t b) (hb : (!(txt k n t == s.toList)) = true) : ∀ k n t, vB k n t = true → txt k n t ≠ s.data.toList := by
  refine only_t h fun e => ?_
  rw [toList_data, e] at hb
  simp at hb
theorem same_t {s : ByteArray} {k n : Int} {t : ByteArray} (hb : (!(txt k n t == s.toList)) = false) : txt k n t = s.data.toList := by
  rw [toList_data] at hb
  simpa using hb
set_option maxHeartbeats 4000000 in
theorem Parse_calls (s : ByteArray) (w : World) (hs : s.size ≤ 281474976710656) (he : Errs w) (htab : Tab w) :
    Calls Tryd.prog 8 #[.string s] w fun e w' => ParseIs s.data.toList e ∧ Cls w w' := by
  have HS := Lib.hid hs
  clear hs
  have HT : Hid (∀ w', Below w.heap.size w w' → Tab w') := Lib.hid (fun w' hw => htab.later hw)
  have HE := Lib.hid (he.later ((Below.refl _ _).alloc (Nat.le_refl _) (.cells #[.int .i64 0, .int .i64 0, .string ⟨#[]⟩] 23)))
  clear htab he
  go_enter Tryd.func8, Tryd.ntmps8
  go_wp2_with (first | (go_at_call 28; ((with_reducible refine (cand_calls _ _ HS.out HE.out).mono ?_); rintro e _ ⟨k, n, t, b, rfl, hz, ho, y, rfl⟩; obtain ⟨l1, l2, l3, l4, l5⟩ := y.lts (b := w.heap.size) (by simp); have hz' : t.size ≤ maxLen := by unfold maxLen; omega)) | (go_at_call 29; ((with_reducible refine (Valid_calls _ _ _ _ hz').mono ?_); rintro e _ ⟨rfl, y2, rfl⟩; obtain ⟨m1, m2, _, _, _⟩ := y2.lts (b := w.heap.size) (by simp; omega); obtain ⟨q1, q2, _, _, _⟩ := y2.lts (b := y.val.heap.size) (by simp))) | (go_at_call 10; ((with_reducible refine (Text_calls _ _ _ _ hz' (HT.out _ (by (repeat first | with_reducible exact Below.refl _ _ | with_reducible refine Below.setCell ?_ (by first | omega | (simp; done) | (simp; omega)) _ | with_reducible refine Below.alloc ?_ (by first | omega | (simp; done) | (simp; omega)) _ | with_reducible refine Below.drew ?_ | with_reducible refine Ext.on _ ?_ (by first | omega | (simp; done) | (simp; omega)))))).mono ?_); rintro e _ ⟨rfl, y3, rfl⟩; obtain ⟨r1, r2, _, _, _⟩ := y3.lts (b := w.heap.size) m1)))
  all_goals
    try have c0 : (y3.val.cell? ⟨w.heap.size, 0, none⟩).isSome = true := by rw [y3.cell 0 m1, y2.cell 0 (by simp; omega)]; simp [go_sem, l1]
    try have c1 : (y3.val.cell? ⟨w.heap.size, 1, none⟩).isSome = true := by rw [y3.cell 1 m1, y2.cell 1 (by simp; omega)]; simp [go_sem, l1]
    try have c2 : (y3.val.cell? ⟨w.heap.size, 2, none⟩).isSome = true := by rw [y3.cell 2 m1, y2.cell 2 (by simp; omega)]; simp [go_sem, l1]
    try have d0 : (y2.val.cell? ⟨w.heap.size, 0, none⟩).isSome = true := by rw [y2.cell 0 (by simp; omega)]; simp [go_sem, l1]
    try have d1 : (y2.val.cell? ⟨w.heap.size, 1, none⟩).isSome = true := by rw [y2.cell 1 (by simp; omega)]; simp [go_sem, l1]
    try have d2 : (y2.val.cell? ⟨w.heap.size, 2, none⟩).isSome = true := by rw [y2.cell 2 (by simp; omega)]; simp [go_sem, l1]
    have e0 : (y.val.cell? ⟨w.heap.size, 0, none⟩).isSome = true := by rw [y.cell 0 (by simp)]; simp [go_sem]
    have e1 : (y.val.cell? ⟨w.heap.size, 1, none⟩).isSome = true := by rw [y.cell 1 (by simp)]; simp [go_sem]
    have e2 : (y.val.cell? ⟨w.heap.size, 2, none⟩).isSome = true := by rw [y.cell 2 (by simp)]; simp [go_sem]
    refine ret_ex rfl ?_
    first | simp [results, Tryd.results8, go_sem, c0, c1, c2] | simp [results, Tryd.results8, go_sem, d0, d1, d2] | simp [results, Tryd.results8, go_sem, e0, e1, e2, l1] | simp [results, Tryd.results8, go_sem]
    refine ⟨?_, Cls.of ?_⟩
  all_goals first
    | ((repeat first | with_reducible exact Below.refl _ _ | with_reducible refine Below.setCell ?_ (by first | omega | (simp; done) | (simp; omega)) _ | with_reducible refine Below.alloc ?_ (by first | omega | (simp; done) | (simp; omega)) _ | with_reducible refine Below.drew ?_ | with_reducible refine Ext.on _ ?_ (by first | omega | (simp; done) | (simp; omega))); done)
    | exact .inr ⟨only_b' ho (by assumption), rfl⟩
    | exact .inr ⟨only_v' ho (by assumption), rfl⟩
    | exact .inr ⟨only_v ho (by assumption), rfl⟩
    | exact .inr ⟨only_t' ho (by assumption), rfl⟩
    | exact .inl ⟨_, _, _, by assumption, same_t (by assumption), rfl⟩
end Go.Proofs.YtmjaieceknhnbaaDoor
