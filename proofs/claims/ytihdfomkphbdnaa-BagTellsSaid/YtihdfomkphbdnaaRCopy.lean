/-
  A copy of a whole row of values: make and copy; the reference's copied.
-/
import Derived.Test.YtihdfomkphbdnaaBRef1
import Derived.Laws.CopyOwn
import Derived.Laws.MakeOwn
set_option linter.unusedVariables false
namespace Go.Proofs.Ytihdfomkphbdnaa
open Go Go.RowKit
theorem run_copy_whole {P : Program} (w : World) (dT sT ty elem : TypeId) (k : Nat) (g n c1 c2 : Nat) (a : Addr) (cur : Array Value) (t : TypeId) (cs : List Value)
    (hu : P.underlying dT = some (.slice elem)) (hs : (P.info? elem).map (·.size) = some k)
    (hg : w.heap[g]? = some (.cells cur t (0, 0))) (hn : cs.length = n * k)
    (hsrc : ∀ j v, cs[j]? = some v → w.cell? (a.add j) = some v) (hfit : cs.length = cur.size) (h1 : ∀ v ∈ cs, v.oneCell' = true) :
    (Builtin.copy_ #[dT, sT] ty #[.slice (some ⟨g, 0, none⟩) n c1, .slice (some a) n c2]).run P w = .ok (goInt n) (w.setRow g cs.toArray) := by
  have hl := run_loadCells_list (P := P) w a cs hsrc
  have hst := run_storeCells_at P g 0 t cs 0 cur w hg (by omega) h1
  have e : (cur.toList.take (0 + 0) ++ cs ++ cur.toList.drop (0 + 0 + cs.length)).toArray = cs.toArray := by
    rw [hfit]; simp
  rw [e] at hst
  cases hq : P.info? elem with
  | none => simp [hq] at hs
  | some i =>
    have hi : i.size = k := by simpa [hq] using hs
    simp [Builtin.copy_, run_underlying hu, Builtin.lenOf, Builtin.firstCells, sizeOf, typeInfo, hq, hi, ← hn, hl, hst]
theorem run_copy_nil' {P : Program} (w : World) (dT sT ty elem : TypeId) (a : Addr) (c1 c2 : Nat) (hu : P.underlying dT = some (.slice elem)) (k : Nat) (hs : (P.info? elem).map (·.size) = some k) :
    (Builtin.copy_ #[dT, sT] ty #[.slice (some a) 0 c1, .slice none 0 c2]).run P w = .ok (goInt 0) w := by
  cases hq : P.info? elem with
  | none => simp [hq] at hs
  | some i => simp [Builtin.copy_, run_underlying hu, Builtin.lenOf, Builtin.firstCells, sizeOf, typeInfo, hq, storeCells]
set_option maxHeartbeats 2000000 in
theorem copied_calls (r : Rw) (w : World) (h : r.Ok w) :
    Calls Try.prog 37 #[r.enc] w fun e w' => ∃ r' : Rw, e = .returned r'.enc ∧ r'.vs = r.vs ∧ r'.len = r.len ∧ r'.Ok w' ∧ (∀ x, r'.a = some x → w.heap.size ≤ x.block) ∧ Below w.heap.size w w' := by
  obtain ⟨ra, len, cap, vs⟩ := r
  obtain ⟨hh, hle, hcap, hsm⟩ := h
  simp only at hh hle hcap hsm
  simp only [Rw.enc]
  obtain ⟨i0, hi, hz0, hz1, hz2⟩ := info_parts infoV
  have hmk : ∀ W, Sem.run Try.prog (Instr.makeSlice 24 (.int .i64 (len : Int)) (.int .i64 (len : Int))) W = .ok (.slice (some ⟨W.heap.size, 0, none⟩) len len) (W.alloc (.cells (madeCells (Value.agg #[.int .i64 0, .int .i64 0, .string ⟨#[]⟩]).cells (len * 3)) 40)) := fun W => by
    have := run_make (P := Try.prog) W 24 40 i0 _ Try.underlying24 hi hz0 .i64 .i64 (len : Int) (len : Int) (by omega) (by omega) (by rw [hz2]; omega) (by omega)
    rw [hz1] at this
    simpa using this
  cases ra with
  | none =>
    have h0 : len = 0 := by
      rcases hh.2 with h0 | ⟨_, _, hx, _⟩
      · exact h0
      · cases hx
    have hv : vs = [] := List.eq_nil_of_length_eq_zero (by rw [hh.1, h0])
    subst h0
    clear hh hcap hle
    have hm0 : ∀ W, Sem.run Try.prog (Instr.makeSlice 24 (.int .i64 0) (.int .i64 0)) W = .ok (.slice (some ⟨W.heap.size, 0, none⟩) 0 0) (W.alloc (.cells (madeCells (Value.agg #[.int .i64 0, .int .i64 0, .string ⟨#[]⟩]).cells (0 * 3)) 40)) := hmk
    have hc0 : ∀ W a, Sem.run Try.prog (Builtin.copy_ #[24, 24] 3 #[.slice (some a) 0 0, .slice none 0 cap]) W = .ok (goInt 0) W := fun W a => run_copy_nil' W _ _ _ _ a 0 cap Try.underlying24 3 (by rw [hi, Option.map_some, hz1])
    clear hmk
    go_enter Try.func37, Try.ntmps37
    go_wp2
    go_ret
    exact ⟨⟨some ⟨w.heap.size, 0, none⟩, 0, 0, []⟩, rfl, hv.symm, rfl, ⟨⟨rfl, .inl rfl⟩, Nat.le_refl _, Nat.zero_le _, Nat.zero_le _⟩, (fun x hx => by obtain rfl := Option.some.inj hx; exact Nat.le_refl _), (Below.refl _ _).alloc (Nat.le_refl _) _⟩
  | some x =>
    have HC := Lib.hid hh
    have LN : Hid ((flatV vs).length = len * 3) := Lib.hid (by rw [flatV_length, hh.1])
    clear hh
    unfold maxLen at hcap
    have hcp : ∃ W2, Sem.run Try.prog (Builtin.copy_ #[24, 24] 3 #[.slice (some ⟨w.heap.size, 0, none⟩) len len, .slice (some x) len cap]) (w.alloc (.cells (madeCells #[.int .i64 0, .int .i64 0, .string ⟨#[]⟩] (len * 3)) 40)) = .ok (goInt len) W2 ∧ W2.heap[w.heap.size]? = some (.cells (flatV vs).toArray 40 (0, 0)) ∧ Below w.heap.size w W2 := by
      have hg := heap_alloc_new w (Obj.cells (madeCells #[.int .i64 0, .int .i64 0, .string ⟨#[]⟩] (len * 3)) 40)
      refine ⟨_, run_copy_whole _ _ _ _ 40 3 _ len len cap x _ _ (flatV vs) Try.underlying24 (by rw [hi, Option.map_some, hz1]) hg LN.out (HC.out.later ((Below.refl _ _).alloc (Nat.le_refl _) _)).cells (by rw [LN.out, size_madeCells]) (flatV_one vs), setRow_heap _ _ _ _ _ _ hg, below_setRow ((Below.refl _ _).alloc (Nat.le_refl _) _) (Nat.le_refl _) _⟩
    obtain ⟨W2, hcp, h2, hb⟩ := hcp
    have H2 := Lib.hid h2
    have HB := Lib.hid hb
    clear h2 hb
    go_enter Try.func37, Try.ntmps37
    go_wp2
    go_ret
    refine ⟨⟨some ⟨w.heap.size, 0, none⟩, len, len, vs⟩, rfl, rfl, rfl, ⟨⟨HC.out.1, ?_⟩, Nat.le_refl _, by show len ≤ 2 ^ 63 - 1; omega, hsm⟩, (fun x hx => by obtain rfl := Option.some.inj hx; exact Nat.le_refl _), HB.out⟩
    right
    refine ⟨w.heap.size, 0, rfl, (Array.getElem?_eq_some_iff.1 H2.out).1, fun i hi' => ?_⟩
    obtain ⟨f0, f1, f2⟩ := flatV_at vs i (by rw [HC.out.1]; exact hi')
    refine ⟨?_, ?_, ?_⟩
    · rw [cell_of_row _ _ _ _ _ _ H2.out]; simpa using f0
    · rw [cell_of_row _ _ _ _ _ _ H2.out]; simpa using f1
    · rw [cell_of_row _ _ _ _ _ _ H2.out]; simpa using f2
end Go.Proofs.Ytihdfomkphbdnaa
