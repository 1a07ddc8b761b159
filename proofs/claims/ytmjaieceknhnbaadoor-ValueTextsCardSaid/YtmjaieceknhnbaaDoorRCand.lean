/-
  What the reference tries as the value of a text: every valid value with the text is among it.
-/
import Derived.Test.YtmjaieceknhnbaaDoorParse
import Derived.Laws.AppendOwn
import Derived.Laws.OwnMore
import Derived.OwnWalk
import Derived.LoopTactic
import Derived.Laws.Entries
set_option linter.unusedVariables false
namespace Go.Proofs.YtmjaieceknhnbaaDoor
open Go Go.RowKit Lib
/-- Kind, number and text of a candidate. -/
structure Cd where
  k : Int
  n : Int
  t : ByteArray
def Cd.z : Cd := ⟨0, 0, ByteArray.empty⟩
def Cd.cells (c : Cd) : List Value := [.int .i64 c.k, .int .i64 c.n, .string c.t]
def flatC : List Cd → List Value
  | [] => []
  | c :: l => c.cells ++ flatC l
theorem flatC_length (l : List Cd) : (flatC l).length = l.length * 3 := by
  induction l with
  | nil => rfl
  | cons r l ih => simp [flatC, Cd.cells, ih]; omega
theorem flatC_append (l m : List Cd) : flatC (l ++ m) = flatC l ++ flatC m := by
  induction l with
  | nil => rfl
  | cons r l ih => simp [flatC, ih]
theorem flatC_single (c : Cd) : flatC [c] = c.cells := by simp [flatC]
theorem flatC_at (l : List Cd) : ∀ i, i < l.length → (flatC l)[i * 3]? = some (.int .i64 (l.getD i Cd.z).k) ∧ (flatC l)[i * 3 + 1]? = some (.int .i64 (l.getD i Cd.z).n) ∧ (flatC l)[i * 3 + 2]? = some (.string (l.getD i Cd.z).t) := by
  induction l with
  | nil => intro i h; simp at h
  | cons r l ih =>
    intro i h
    cases i with
    | zero => simp [flatC, Cd.cells]
    | succ i =>
      have h2 := ih i (by simpa using h)
      rw [show (i + 1) * 3 = i * 3 + 3 by omega]
      simpa [flatC, Cd.cells, List.getD] using h2
theorem cellsC_one (c : Cd) : ∀ u ∈ c.cells, u.oneCell' = true := by
  intro u h
  simp only [Cd.cells, List.mem_cons, List.not_mem_nil, or_false] at h
  rcases h with rfl | rfl | rfl <;> rfl
theorem cells_new (w : World) (l : List Value) (t : TypeId) : ∀ j u, l[j]? = some u → (w.alloc (.cells l.toArray t)).cell? ((⟨w.heap.size, 0, none⟩ : Addr).add j) = some u := by
  intro j u h
  have hadd : (⟨w.heap.size, 0, none⟩ : Addr).add j = ⟨w.heap.size, j, none⟩ := by unfold Addr.add; split <;> simp_all
  rw [hadd, cell_of_row _ _ _ l.toArray t (0, 0) (heap_alloc_new w _)]
  simpa using h
theorem own_later {w w' : World} {base size n : Nat} {e : TypeId} {v : Value} {xs : List Value} (h : w.ownsRow base e size v n xs) (hb : Below w.heap.size w w') : w'.ownsRow base e size v n xs := by
  refine ⟨h.1, h.2.imp id ?_⟩
  rintro ⟨g, cap, cur, hv, hg, hh, rest⟩
  exact ⟨g, cap, cur, hv, hg, (hb.block g (Array.getElem?_eq_some_iff.1 hh).1).trans hh, rest⟩
/-- A row that is not empty has an address, and its cells read. -/
theorem own_reads {w : World} {base n : Nat} {v : Value} {cs : List Cd} (h : w.ownsRow base 23 3 v n (flatC cs)) (hn : 0 < n) : ∃ g cap, v = .slice (some ⟨g, 0, none⟩) n cap ∧ n ≤ cap ∧ cap ≤ maxLen ∧ g < w.heap.size ∧
    ∀ i, i < n → w.cell? ⟨g, i * 3, none⟩ = some (.int .i64 (cs.getD i Cd.z).k) ∧ w.cell? ⟨g, i * 3 + 1, none⟩ = some (.int .i64 (cs.getD i Cd.z).n) ∧ w.cell? ⟨g, i * 3 + 2, none⟩ = some (.string (cs.getD i Cd.z).t) := by
  have hlen : cs.length = n := by have := h.1; rw [flatC_length] at this; omega
  rcases h.2 with ⟨_, h0⟩ | ⟨g, cap, cur, rfl, hb, hh, hle, hc, hs, ht⟩
  · omega
  · refine ⟨g, cap, rfl, hle, hc, (Array.getElem?_eq_some_iff.1 hh).1, fun i hi => ?_⟩
    have hcell := World.ownsRow.cells h (g := g) rfl
    have hadd : ∀ j, (⟨g, 0, none⟩ : Addr).add j = ⟨g, j, none⟩ := fun j => by unfold Addr.add; split <;> simp_all
    obtain ⟨f0, f1, f2⟩ := flatC_at cs i (by omega)
    have c0 := hcell _ _ f0
    have c1 := hcell _ _ f1
    have c2 := hcell _ _ f2
    rw [hadd] at c0 c1 c2
    exact ⟨c0, c1, c2⟩
theorem infoV : (Tryd.prog.info? 23).map (fun i => (i.zero, i.size, i.bytes)) = some (some (.agg #[.int .i64 0, .int .i64 0, .string ⟨#[]⟩]), 3, 32) := by kernel_rfl
theorem rbool_no (w : World) : Calls Tryd.prog 30 #[.int .i64 0] w fun e w' => e = .returned (.agg #[.int .i64 2, .int .i64 0, .string ⟨#[]⟩]) ∧ Cls w w' := rBool_calls 0 w
theorem rbool_yes (w : World) : Calls Tryd.prog 30 #[.int .i64 1] w fun e w' => e = .returned (.agg #[.int .i64 2, .int .i64 1, .string ⟨#[]⟩]) ∧ Cls w w' := rBool_calls 1 w
def numOf (s : ByteArray) : Int := if s.size ≤ 14 then refInt s.data.toList else 0
def baseC : List Cd := [⟨0, 0, ⟨#[]⟩⟩, ⟨2, 0, ⟨#[]⟩⟩, ⟨2, 1, ⟨#[]⟩⟩]
def textC (s : ByteArray) : Cd := ⟨3, 0, s.extract 1 (s.size - 1)⟩
def intC (s : ByteArray) : Cd := ⟨1, numOf s, ⟨#[]⟩⟩
/-- The candidates in their order. -/
def cands (s : ByteArray) : List Cd := if 2 ≤ s.size then baseC ++ [textC s] ++ [intC s] else baseC ++ [intC s]
theorem cand_all {s : ByteArray} {k n : Int} {t : ByteArray} (hv : vB k n t = true) (ht : txt k n t = s.data.toList) : ⟨k, n, t⟩ ∈ cands s := by
  have hl : s.data.toList.length = s.size := by rw [Array.length_toList]; rfl
  have hbase : ∀ c ∈ baseC, c ∈ cands s := fun c hc => by
    unfold cands
    split
    · simp [hc]
    · simp [hc]
  have hint : intC s ∈ cands s := by unfold cands; split <;> simp
  rcases v_cases hv with ⟨rfl, rfl, rfl, g3⟩ | ⟨rfl, g1, rfl, g3⟩ | ⟨rfl, rfl, rfl, g3⟩ | ⟨rfl, rfl, rfl, g3⟩ | ⟨rfl, rfl, g2, g3⟩ <;> rw [g3] at ht
  · exact hbase _ (by simp [baseC]; rfl)
  · have h14 : s.size ≤ 14 := by rw [← hl, ← ht]; exact itoa_len g1
    have : numOf s = n := by unfold numOf; rw [if_pos h14, ← ht, refInt_itoa]
    have e : (⟨1, n, ByteArray.empty⟩ : Cd) = intC s := by unfold intC; rw [this]; rfl
    rw [e]; exact hint
  · exact hbase _ (by simp [baseC]; rfl)
  · exact hbase _ (by simp [baseC]; rfl)
  · have hz : s.size = t.size + 2 := by
      rw [← hl, ← ht]; simp
    have e : (⟨3, 0, t⟩ : Cd) = textC s := by
      unfold textC
      congr 1
      apply ByteArray.ext
      apply Array.toList_inj.mp
      rw [ByteArray.data_extract, Array.toList_extract, ← ht]
      have : s.size - 1 = t.size + 1 := by omega
      rw [this]
      simp [List.extract_eq_take_drop]
    rw [e]
    unfold cands
    rw [if_pos (by omega)]
    simp
theorem refNum_lt : ∀ (l : List UInt8) (acc : Nat) , (0 : Int) ≤ refNum acc l ∧ refNum acc l < ((acc : Int) + 1) * 10 ^ l.length
  | [], acc => by simp [refNum]; omega
  | c :: r, acc => by
    have hc := c.toNat_lt
    simp only [refNum]
    split
    · rename_i h
      have e : 10 * (acc : Int) + ((c.toNat - 48 : Nat) : Int) = ((10 * acc + (c.toNat - 48) : Nat) : Int) := by omega
      rw [e]
      obtain ⟨h1, h2⟩ := refNum_lt r (10 * acc + (c.toNat - 48))
      refine ⟨h1, Int.lt_of_lt_of_le h2 ?_⟩
      rw [List.length_cons, Int.pow_succ]
      have hp : (0 : Int) ≤ 10 ^ r.length := by exact Int.le_of_lt (Int.pow_pos (by omega))
      calc ((10 * acc + (c.toNat - 48) : Nat) + 1 : Int) * 10 ^ r.length ≤ (10 * (acc + 1)) * 10 ^ r.length := Int.mul_le_mul_of_nonneg_right (by omega) hp
        _ = ((acc : Int) + 1) * (10 ^ r.length * 10) := by rw [Int.mul_comm 10 ((acc : Int) + 1), Int.mul_assoc, Int.mul_comm 10 (10 ^ r.length)]
    · obtain ⟨h1, h2⟩ := refNum_lt r acc
      refine ⟨h1, Int.lt_of_lt_of_le h2 ?_⟩
      rw [List.length_cons, Int.pow_succ]
      have hp : (0 : Int) ≤ 10 ^ r.length := by exact Int.le_of_lt (Int.pow_pos (by omega))
      exact Int.mul_le_mul_of_nonneg_left (by omega) (by omega)
theorem refNum_bd {l : List UInt8} (h : l.length ≤ 13) : 0 ≤ refNum 0 l ∧ refNum 0 l ≤ 9999999999999 := by
  obtain ⟨h1, h2⟩ := refNum_lt l 0
  refine ⟨h1, ?_⟩
  have h3 : (10 : Int) ^ l.length ≤ 10 ^ 13 := by
    have : (10 : Nat) ^ l.length ≤ 10 ^ 13 := Nat.pow_le_pow_right (by decide) h
    exact_mod_cast this
  have e : (10 : Int) ^ 13 = 10000000000000 := by decide
  simp at h1 h2
  omega
theorem refNum_snoc : ∀ (l : List UInt8) (c : UInt8) (acc : Int), refNum acc (l ++ [c]) = if 48 ≤ c.toNat ∧ c.toNat ≤ 57 then 10 * refNum acc l + ((c.toNat - 48 : Nat) : Int) else refNum acc l
  | [], c, acc => by simp [refNum]
  | x :: r, c, acc => by simp only [List.cons_append, refNum]; exact refNum_snoc r c _
theorem refNeg_snoc (l : List UInt8) (c : UInt8) : refNeg (l ++ [c]) = (refNeg l || (c.toNat == 45)) := by simp [refNeg]
end Go.Proofs.YtmjaieceknhnbaaDoor
