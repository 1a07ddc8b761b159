/-
  The tallies of two bags: each different row, ascending, with how often it occurs in both.
-/
import Derived.Test.YtihdfomkphbdnaaBSort
import Derived.Maps.AppendAt
set_option linter.unusedVariables false
namespace Go.Proofs.Ytihdfomkphbdnaa
open Go Go.RowKit
theorem add_none (b off j : Nat) : (⟨b, off, none⟩ : Addr).add j = ⟨b, off + j, none⟩ := by unfold Addr.add; split <;> simp_all
theorem cells_new' (w : World) (l : List Value) (t : TypeId) : ∀ j u, l[j]? = some u → (w.alloc (.cells l.toArray t)).cell? ((⟨w.heap.size, 0, none⟩ : Addr).add j) = some u := by
  intro j u h
  rw [add_none, Nat.zero_add, cell_of_row _ _ _ l.toArray t (0, 0) (heap_alloc_new w _)]
  simpa using h
theorem own_later' {w w' : World} {base size n : Nat} {e : TypeId} {v : Value} {xs : List Value} (h : w.ownsRow base e size v n xs) (hb : Below w.heap.size w w') : w'.ownsRow base e size v n xs := by
  refine ⟨h.1, h.2.imp id ?_⟩
  rintro ⟨g, cap, cur, hv, hg, hh, rest⟩
  exact ⟨g, cap, cur, hv, hg, (hb.block g (Array.getElem?_eq_some_iff.1 hh).1).trans hh, rest⟩
/-- A tally as it lies. -/
structure Tr where
  row : Rw
  m : Nat
  n : Nat
instance : Inhabited Tr := ⟨⟨default, 0, 0⟩⟩
def Tr.tl (t : Tr) : Tl := ⟨t.row.vs, t.m, t.n⟩
def Tr.cells (t : Tr) : List Value := [t.row.enc, .int .i64 t.m, .int .i64 t.n]
def flatT (l : List Tr) : List Value := l.flatMap Tr.cells
theorem flatT_append (l m : List Tr) : flatT (l ++ m) = flatT l ++ flatT m := by simp [flatT]
theorem flatT_length (l : List Tr) : (flatT l).length = l.length * 3 := by
  induction l with
  | nil => rfl
  | cons a l ih => rw [show a :: l = [a] ++ l from rfl, flatT_append, List.length_append, ih]; simp [flatT, Tr.cells]; omega
theorem flatT_one (l : List Tr) : ∀ u ∈ flatT l, u.oneCell' = true := by
  intro u hu
  obtain ⟨t, _, hu⟩ := List.mem_flatMap.1 hu
  simp only [Tr.cells, List.mem_cons, List.not_mem_nil, or_false] at hu
  rcases hu with rfl | rfl | rfl <;> rfl
theorem flatT_at (l : List Tr) : ∀ i, i < l.length → (flatT l)[i * 3]? = some (l.getD i default).row.enc ∧ (flatT l)[i * 3 + 1]? = some (.int .i64 (l.getD i default).m) ∧ (flatT l)[i * 3 + 2]? = some (.int .i64 (l.getD i default).n) := by
  induction l with
  | nil => intro i h; simp at h
  | cons a l ih =>
    intro i h
    cases i with
    | zero => simp [flatT, Tr.cells]
    | succ i =>
      obtain ⟨h0, h1, h2⟩ := ih i (by simpa using h)
      have e : flatT (a :: l) = a.cells ++ flatT l := by simp [flatT]
      have hl : a.cells.length = 3 := rfl
      rw [e, show (i + 1) * 3 = 3 + i * 3 by omega]
      refine ⟨?_, ?_, ?_⟩
      · rw [List.getElem?_append_right (by omega), hl, show 3 + i * 3 - 3 = i * 3 by omega, h0]; simp
      · rw [List.getElem?_append_right (by omega), hl, show 3 + i * 3 + 1 - 3 = i * 3 + 1 by omega, h1]; simp
      · rw [List.getElem?_append_right (by omega), hl, show 3 + i * 3 + 2 - 3 = i * 3 + 2 by omega, h2]; simp
theorem infoT : (Try.prog.info? 37).map (fun i => (i.zero, i.size, i.bytes)) = some (some (.agg #[.slice none 0 0, .int .i64 0, .int .i64 0]), 3, 40) := by kernel_rfl
/-- A slice of rows, of which an address is known. -/
def Sx (w : World) (v : Value) (n : Nat) (l : List Rw) : Prop := ∃ a c, v = .slice a n c ∧ Rws w a n l ∧ n ≤ c ∧ c ≤ maxLen ∧ ((a = none ∧ c = 0) ∨ ∃ b off, a = some ⟨b, off, none⟩)
theorem Sx.later {w w' : World} {v : Value} {n : Nat} {l : List Rw} (h : Sx w v n l) (hb : Below w.heap.size w w') : Sx w' v n l := by
  obtain ⟨a, c, h1, h2, h3⟩ := h
  exact ⟨a, c, h1, h2.later hb, h3⟩
theorem Sx.none_zero {w : World} {n c : Nat} {l : List Rw} (h : Rws w none n l) : n = 0 := by
  rcases h.at_ with h0 | ⟨_, _, hx, _⟩
  · exact h0
  · cases hx
theorem Sx.rest {w : World} {b off n c m : Nat} {l : List Rw} (h : Rws w (some ⟨b, off, none⟩) n l) (h1 : n ≤ c) (h2 : c ≤ maxLen) (hm : m ≤ n) : Sx w (.slice (if c = m then some ⟨b, off, none⟩ else some ⟨b, off + m, none⟩) (n - m) (c - m)) (n - m) (l.drop m) := by
  refine ⟨_, _, rfl, ?_, by omega, by omega, .inr ?_⟩
  · by_cases hmn : m = n
    · subst hmn
      rw [List.drop_of_length_le (by have := h.ln; omega), Nat.sub_self]
      exact Rws.nil w _
    · rw [if_neg (by omega)]
      exact h.drop m (by omega)
  · split
    · exact ⟨b, off, rfl⟩
    · exact ⟨b, off + m, rfl⟩
theorem Sx.rest0 {w : World} {b off n c : Nat} {l : List Rw} (h : Rws w (some ⟨b, off, none⟩) n l) (h1 : n ≤ c) (h2 : c ≤ maxLen) : Sx w (.slice (some ⟨b, off, none⟩) n c) n (l.drop 0) := ⟨_, _, rfl, h, h1, h2, .inr ⟨b, off, rfl⟩⟩
def lenOf : Value → Nat | .slice _ n _ => n | _ => 0
end Go.Proofs.Ytihdfomkphbdnaa
