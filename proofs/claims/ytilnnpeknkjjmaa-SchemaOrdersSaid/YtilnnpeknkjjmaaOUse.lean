/-
  Small facts on blocks and rows; rows of numbers.
-/
import Derived.Test.YtilnnpeknkjjmaaOTp
set_option linter.unusedVariables false
namespace Go.Proofs.Ytilnnpeknkjjmaa
open Go Go.RowKit Go.Deep
theorem heap_alloc_at {b : Nat} (w : World) (o : Obj) (h : b = w.heap.size) : (w.alloc o).heap[b]? = some o := by
  subst h
  exact heap_alloc_new w o
theorem free_z {w : World} {b : Nat} {cs : Array Value} {t : TypeId} (h : w.heap[b]? = some (.cells cs t (0, 0))) (i : Nat) : w.frozen? ⟨b, i, none⟩ = false := by simp [World.frozen?, h]
/-- The cells of a block that is known whole. -/
theorem one_z {W : World} {b : Nat} {a0 : Value} {t : TypeId} (h : W.heap[b]? = some (.cells #[a0] t)) : b < W.heap.size ∧ W.frozen? ⟨b, 0, none⟩ = false ∧ W.cell? ⟨b, 0, none⟩ = some a0 := by
  refine ⟨(Array.getElem?_eq_some_iff.1 h).1, free_z h _, ?_⟩
  rw [cell_of_row _ _ _ _ _ (0, 0) h]
  rfl
theorem three_z {W : World} {b : Nat} {a0 a1 a2 : Value} {t : TypeId} (h : W.heap[b]? = some (.cells #[a0, a1, a2] t)) :
    b < W.heap.size ∧ W.frozen? ⟨b, 0, none⟩ = false ∧ W.frozen? ⟨b, 1, none⟩ = false ∧ W.frozen? ⟨b, 2, none⟩ = false ∧ W.cell? ⟨b, 0, none⟩ = some a0 ∧ W.cell? ⟨b, 1, none⟩ = some a1 ∧ W.cell? ⟨b, 2, none⟩ = some a2 := by
  refine ⟨(Array.getElem?_eq_some_iff.1 h).1, free_z h _, free_z h _, free_z h _, ?_, ?_, ?_⟩
  all_goals
    rw [cell_of_row _ _ _ _ _ (0, 0) h]
    rfl
theorem six_z {W : World} {b : Nat} {a0 a1 a2 a3 a4 a5 : Value} {t : TypeId} (h : W.heap[b]? = some (.cells #[a0, a1, a2, a3, a4, a5] t)) :
    b < W.heap.size ∧ W.frozen? ⟨b, 0, none⟩ = false ∧ W.frozen? ⟨b, 1, none⟩ = false ∧ W.frozen? ⟨b, 2, none⟩ = false ∧ W.frozen? ⟨b, 3, none⟩ = false ∧ W.frozen? ⟨b, 4, none⟩ = false ∧ W.frozen? ⟨b, 5, none⟩ = false ∧
    W.cell? ⟨b, 0, none⟩ = some a0 ∧ W.cell? ⟨b, 1, none⟩ = some a1 ∧ W.cell? ⟨b, 2, none⟩ = some a2 ∧ W.cell? ⟨b, 3, none⟩ = some a3 ∧ W.cell? ⟨b, 4, none⟩ = some a4 ∧ W.cell? ⟨b, 5, none⟩ = some a5 := by
  refine ⟨(Array.getElem?_eq_some_iff.1 h).1, free_z h _, free_z h _, free_z h _, free_z h _, free_z h _, free_z h _, ?_, ?_, ?_, ?_, ?_, ?_⟩
  all_goals
    rw [cell_of_row _ _ _ _ _ (0, 0) h]
    rfl
theorem own_slice_z {w : World} {base size n : Nat} {e : TypeId} {v : Value} {xs : List Value} (h : w.ownsRow base e size v (n + 1) xs) : ∃ g c, v = .slice (some ⟨g, 0, none⟩) (n + 1) c := by
  rcases h.2 with ⟨_, h0⟩ | ⟨g, cap, cur, rfl, _⟩
  · cases h0
  · exact ⟨_, _, rfl⟩
theorem own_block {w w' : World} {base size n : Nat} {e : TypeId} {v : Value} {xs : List Value} (h : w.ownsRow base e size v n xs) (hb : ∀ k, v.ownBlock = some k → w'.heap[k]? = w.heap[k]?) : w'.ownsRow base e size v n xs := by
  refine ⟨h.1, h.2.imp id ?_⟩
  rintro ⟨g, cap, cur, hv, hg, hh, rest⟩
  exact ⟨g, cap, cur, hv, hg, (hb g (by rw [hv]; rfl)).trans hh, rest⟩
theorem infoI_z : (Try.prog.info? 3).map (fun i => (i.zero, i.size, i.bytes)) = some (some (.int .i64 0), 1, 8) := by kernel_rfl
theorem int_one_z (n : Int) : ∀ u ∈ [Value.int .i64 n], u.oneCell' = true := by
  intro u h
  simp only [List.mem_cons, List.not_mem_nil, or_false] at h
  rcases h with rfl; rfl
theorem cells_new_z {b : Nat} (w : World) (l : List Value) (t : TypeId) (hb : b = w.heap.size) : ∀ j u, l[j]? = some u → (w.alloc (.cells l.toArray t)).cell? ((⟨b, 0, none⟩ : Addr).add j) = some u := by
  subst hb
  intro j u h
  have hadd : (⟨w.heap.size, 0, none⟩ : Addr).add j = ⟨w.heap.size, j, none⟩ := by unfold Addr.add; split <;> simp_all
  rw [hadd, cell_of_row _ _ _ l.toArray t (0, 0) (heap_alloc_new w _)]
  simpa using h
theorem own_later_z {w w' : World} {base size n : Nat} {e : TypeId} {v : Value} {xs : List Value} (h : w.ownsRow base e size v n xs) (hb : Below w.heap.size w w') : w'.ownsRow base e size v n xs := by
  refine ⟨h.1, h.2.imp id ?_⟩
  rintro ⟨g, cap, cur, hv, hg, hh, rest⟩
  exact ⟨g, cap, cur, hv, hg, (hb.block g (Array.getElem?_eq_some_iff.1 hh).1).trans hh, rest⟩
def flatN (l : List Nat) : List Value := l.map fun n => .int .i64 (n : Nat)
theorem flatN_go (l : List Nat) (n : Nat) : flatN (l ++ [n]) = flatN l ++ [.int .i64 (n : Nat)] := by simp [flatN]
theorem sl_ofN {w : World} {base n : Nat} {v : Value} {l : List Nat} (h : w.ownsRow base 3 1 v n (flatN l)) (hl : l.length = n) : ∃ s : Sl, v = s.v ∧ s.len = n ∧ SlAt w 1 s (intC fun i => ((l.getD i 0 : Nat) : Int)) := by
  subst hl
  rcases h.2 with ⟨rfl, h0⟩ | ⟨g, cap, cur, rfl, hb, hh, hn, hc, hr, ht⟩
  · exact ⟨Sl.z, rfl, h0.symm, ⟨Nat.le_refl _, Nat.zero_le _, fun _ => ⟨rfl, rfl⟩, fun i hi => absurd hi (by simp [Sl.z])⟩⟩
  · refine ⟨⟨some ⟨g, 0, none⟩, l.length, cap⟩, rfl, rfl, ⟨hn, hc, (fun h => by cases h), fun i hi => ⟨g, 0, rfl, (Array.getElem?_eq_some_iff.1 hh).1, fun j hj => ?_⟩⟩⟩
    have hcell := World.ownsRow.cells h (g := g) rfl
    have hadd : ∀ j, (⟨g, 0, none⟩ : Addr).add j = ⟨g, 0 + j, none⟩ := fun j => by unfold Addr.add; split <;> simp_all
    have c0 := hcell i (.int .i64 ((l.getD i 0 : Nat) : Int)) (by
      have hi' : i < l.length := hi
      simp [flatN, List.getD, hi'])
    rw [hadd] at c0
    obtain rfl : j = 0 := by omega
    rw [Nat.mul_one, Nat.add_zero, c0]; rfl
theorem SlAt.congr_z {w : World} {s : Sl} {g g' : Nat → Int} (h : SlAt w 1 s (intC g)) (hg : ∀ i, i < s.len → g i = g' i) : SlAt w 1 s (intC g') := by
  refine ⟨h.1, h.2.1, h.2.2.1, fun i hi => ?_⟩
  obtain ⟨b, off, ha, hlt, hc⟩ := h.2.2.2 i hi
  exact ⟨b, off, ha, hlt, fun j hj => by rw [hc j hj]; simp only [intC, hg i hi]⟩
end Go.Proofs.Ytilnnpeknkjjmaa
