/-
  The table that the tape without numbers makes, as memory holds it.
-/
import Derived.Test.YtbnhmjecjeifdaaDoorDFrame
import Derived.Laws.OwnMore
import Derived.Test.YtbnhmjecjeifdaaDoorTypes
set_option linter.unusedVariables false
namespace Go.Proofs.YtbnhmjecjeifdaaDoor
open Go Go.RowKit Go.Deep
theorem sl_own {w : World} {base k n g c : Nat} {e : TypeId} {xs : List Value} {cell : Nat → List Value} (h : w.ownsRow base e k (.slice (some ⟨g, 0, none⟩) n c) n xs) (hc : ∀ i, i < n → ∀ j, j < k → xs[i * k + j]? = (cell i)[j]?) : SlAt w k ⟨some ⟨g, 0, none⟩, n, c⟩ cell := by
  have h2 := h.2
  rcases h2 with ⟨hv, _⟩ | ⟨g', cap, cur, hv, hb, hh, hn, hm, _, _⟩
  · simp at hv
  · simp only [Value.slice.injEq, Option.some.injEq, Addr.mk.injEq, and_true, true_and] at hv
    obtain ⟨rfl, rfl⟩ := hv
    refine ⟨hn, hm, fun e => by simp at e, fun i hi => ⟨g, 0, rfl, (Array.getElem?_eq_some_iff.1 hh).1, fun j hj => ?_⟩⟩
    rw [← hc i hi j hj, Nat.zero_add]
    have hlt : i * k + j < n * k := by
      have h3 : (i + 1) * k ≤ n * k := Nat.mul_le_mul_right k hi
      rw [Nat.succ_mul] at h3
      omega
    exact h.cellAt _ hlt
theorem sl_block {w : World} {b : Nat} {v : Value} {t : TypeId} (h : w.heap[b]? = some (.cells #[v] t)) : SlAt w 1 ⟨some ⟨b, 0, none⟩, 1, 1⟩ fun _ => [v] := by
  refine ⟨Nat.le_refl _, by unfold maxLen; show 1 ≤ _; omega, fun e => by simp at e, fun i hi => ⟨b, 0, rfl, (Array.getElem?_eq_some_iff.1 h).1, fun j hj => ?_⟩⟩
  obtain rfl : j = 0 := by omega
  obtain rfl : i = 0 := by
    have : i < 1 := hi
    omega
  rw [cell_of_row _ _ _ _ _ (0, 0) h]
  rfl
theorem sl_nothing {w : World} {k : Nat} {f : Nat → List Value} : SlAt w k Sl.z f := ⟨Nat.le_refl _, Nat.zero_le _, fun _ => ⟨rfl, rfl⟩, fun i hi => absurd hi (Nat.not_lt_zero _)⟩
def colZ (i : Nat) : Cl := if i = 0 then ⟨⟨#[105, 100]⟩, 1, false⟩ else ⟨⟨#[99, 48]⟩, 1, true⟩
def tbZ (g c pb ug uc ub : Nat) (a5 : Option Addr) (l5 c5 : Nat) (chks : List Ex) : Tb :=
  ⟨⟨#[116, 48]⟩, ⟨some ⟨g, 0, none⟩, 2, c⟩, colZ, ⟨some ⟨pb, 0, none⟩, 1, 1⟩, fun _ => 0, ⟨some ⟨ug, 0, none⟩, 1, uc⟩, fun _ => ⟨some ⟨ub, 0, none⟩, 1, 1⟩, fun _ _ => 1, Sl.z, fun _ => Sl.z, fun _ _ => 0, fun _ => ⟨#[]⟩, ⟨a5, l5, c5⟩, chks⟩
theorem tb_of {wr : World} {g c pb ug uc ub base : Nat} {a5 : Option Addr} {l5 c5 : Nat} {chks : List Ex} (hpr : wr.heap[pb]? = some (.cells #[.int .i64 0] 3))
    (hc : wr.ownsRow base 49 3 (.slice (some ⟨g, 0, none⟩) 2 c) 2 (idC ++ c0C)) (hu : wr.ownsRow base 31 1 (.slice (some ⟨ug, 0, none⟩) 1 uc) 1 [.slice (some ⟨ub, 0, none⟩) 1 1]) (hub : wr.heap[ub]? = some (.cells #[.int .i64 1] 3))
    (hk : Kids wr (fun _ => True) a5 l5 c5 chks) : TbAt wr (tbZ g c pb ug uc ub a5 l5 c5 chks) := by
  refine ⟨show (⟨#[116, 48]⟩ : ByteArray).size ≤ maxLen by decide, sl_own hc fun i hi j hj => ?_, fun i hi => ?_, sl_block hpr, sl_own hu fun i hi j hj => ?_, fun i hi => sl_block hub, sl_nothing, fun i hi => absurd hi (Nat.not_lt_zero _), hk⟩
  · rcases (by omega : i = 0 ∨ i = 1) with rfl | rfl <;> rcases (by omega : j = 0 ∨ j = 1 ∨ j = 2) with rfl | rfl | rfl <;> rfl
  · have hi2 : i < 2 := hi
    rcases (by omega : i = 0 ∨ i = 1) with rfl | rfl
    · exact ⟨show (⟨#[105, 100]⟩ : ByteArray).size ≤ maxLen by decide, show (Lit.int .i64 1).wf = true by decide⟩
    · exact ⟨show (⟨#[99, 48]⟩ : ByteArray).size ≤ maxLen by decide, show (Lit.int .i64 1).wf = true by decide⟩
  · obtain rfl : i = 0 := by omega
    obtain rfl : j = 0 := by omega
    rfl
theorem cells_new_b {b : Nat} (w : World) (l : List Value) (t : TypeId) (hb : b = w.heap.size) : ∀ j u, l[j]? = some u → (w.alloc (.cells l.toArray t)).cell? ((⟨b, 0, none⟩ : Addr).add j) = some u := by
  subst hb
  exact cells_new'_s w l t
theorem blk_ne {w : World} {a b : Nat} {c1 c2 : Array Value} {t1 t2 : TypeId} (h1 : w.heap[a]? = some (.cells c1 t1)) (h2 : w.heap[b]? = some (.cells c2 t2)) (h : t1 ≠ t2) : a ≠ b := by
  intro e
  rw [e, h2] at h1
  simp only [Option.some.injEq, Obj.cells.injEq] at h1
  exact h h1.2.1.symm
theorem set_ne {w : World} {b xb i : Nat} {u : Value} {o : Obj} (h : w.heap[b]? = some o) (hb : b ≠ xb) : (w.setCell ⟨xb, i, none⟩ u).heap[b]? = some o := (Below.heap_setCell _ _ _ _ hb).trans h
theorem next_ne {T q b : Nat} {w : World} {cs : Array Value} {t : TypeId} (h : w.heap[b]? = some (.cells cs t)) (z : LatZ T q w) (hb : b ≠ T) : z.val.heap[b]? = some (.cells cs t) := (z.tp.block b (Array.getElem?_eq_some_iff.1 h).1 hb).trans h
/-- Two numbers do not lie in a tape's block. -/
theorem not_tape {T p : Nat} {w : World} {s : Sl} {f : Nat → Int} (h : TapeZ T p w) (hs : SlAt w 1 s (intC f)) (hl : s.len = 2) : ∀ b off, s.a = some ⟨b, off, none⟩ → b ≠ T := by
  rintro b off ha rfl
  obtain ⟨b0, o0, ha0, _, h0⟩ := hs.2.2.2 0 (by omega)
  obtain ⟨b1, o1, ha1, _, h1⟩ := hs.2.2.2 1 (by omega)
  rw [ha] at ha0 ha1
  simp only [Option.some.injEq, Addr.mk.injEq, and_true] at ha0 ha1
  obtain ⟨rfl, rfl⟩ := ha0
  obtain ⟨hbb, rfl⟩ := ha1
  subst hbb
  have e0 := h0 0 (by omega)
  have e1 := h1 0 (by omega)
  rw [cell_of_row _ _ _ _ _ (0, 0) h] at e0 e1
  simp only [intC, List.getElem?_cons_zero] at e0 e1
  match off, e0, e1 with
  | 0, e0, _ => simp at e0
  | n + 1, _, e1 => simp at e1
/-- The null of truths. -/
def nullE : Ex := .mk 1 2 0 ⟨#[]⟩ 0 []
theorem nullE_fine : nullE.fine := ⟨by decide, by decide, by decide, by decide, by decide⟩
def nullR : Rec := ⟨nullE, none, 0, 0⟩
theorem kids_null {w : World} {base : Nat} {v : Value} (h : w.ownsRow base 24 6 v 1 nullR.cells) : ∃ a cap, v = .slice a 1 cap ∧ Kids w (fun _ => True) a 1 cap [nullE] := by
  have h2 : RowOf w base v [nullR] := by
    refine ⟨?_, fun r hr => ?_⟩
    · show w.ownsRow base 24 6 v 1 (nullR.cells ++ [])
      rw [List.append_nil]
      exact h
    · simp only [List.mem_cons, List.not_mem_nil, or_false] at hr
      subst hr
      exact ⟨nullE_fine, .none⟩
  obtain ⟨a, cap, hv, hk⟩ := h2.kids
  exact ⟨a, cap, hv, hk.any⟩
theorem null_one : ∀ u ∈ nullR.cells, u.oneCell' = true := nullR.one
end Go.Proofs.YtbnhmjecjeifdaaDoor
