/-
  The reference's Eval, for every expression.
-/
import Derived.Test.YtkmpaonakhfcjaaDoorREval1
import Derived.Test.YtkmpaonakhfcjaaDoorREval2
import Derived.Test.YtkmpaonakhfcjaaDoorREval3
import Derived.Test.YtkmpaonakhfcjaaDoorREval4
import Derived.Test.YtkmpaonakhfcjaaDoorREvalIn
import Derived.Test.YtkmpaonakhfcjaaDoorREvalZ
set_option linter.unusedVariables false
namespace Go.Proofs.YtkmpaonakhfcjaaDoor
open Go Go.RowKit
theorem REval_calls : ∀ e : Ex, REvalOf e := by
  refine Ex.ind fun e ih => ?_
  intro a len cap ok ra rlen rcap row w hk hf hsl hr
  have hlen := hk.len_eq
  have hEv := evalE_eq e row
  have hml : (e.kids.map (evalE · row)).length = len := by rw [List.length_map, hlen]
  have hs : ∀ v ∈ e.kids.map (evalE · row), v.s.size ≤ maxLen := by
    intro v hv
    obtain ⟨k, hkm, rfl⟩ := List.mem_map.1 hv
    obtain ⟨i, hi, rfl⟩ := List.mem_iff_getElem.1 hkm
    obtain ⟨a', len', cap', _, hf', hk'⟩ := hk.at_ (i := i) (by omega)
    have := evalE_size row hr.2.2.2.1 _ w ok a' len' cap' hk' hf'
    simpa [List.getD, hi] using this
  by_cases ho : e.op < 1 ∨ 29 ≤ e.op
  · have hz : evalE e row = Vl.z := by
      rw [hEv]; unfold opV
      rcases ho with h | h
      · rw [if_pos h]
      · rw [if_neg (by omega), if_pos h]
    rw [hz]
    exact reval_unknown e a len cap ra rlen rcap w ho
  cases htk : takesO e.op len with
  | false =>
    have hz : evalE e row = Vl.z := by
      rw [hEv]; unfold opV
      rw [if_neg (by omega), if_neg (by omega), if_pos (by rw [hml]; exact htk)]
    rw [hz]
    exact reval_arity e a len cap ra rlen rcap w (by omega) (by omega) htk hk.le hk.max
  | true =>
    have hz : evalE e row = (if e.op = 5 then colV e.col row else if e.op ≤ 4 then litV e.op e.num e.text
        else if e.op = 26 then (if trV ((e.kids.map (evalE · row)).getD 0 Vl.z) = 1 then (e.kids.map (evalE · row)).getD 1 Vl.z else (e.kids.map (evalE · row)).getD 2 Vl.z)
        else if e.op = 28 then inV ((e.kids.map (evalE · row)).getD 0 Vl.z) ((e.kids.map (evalE · row)).drop 1) (tvV 0)
        else if oneB e.op = true then unV e.op ((e.kids.map (evalE · row)).getD 0 Vl.z) else biV e.op ((e.kids.map (evalE · row)).getD 0 Vl.z) ((e.kids.map (evalE · row)).getD 1 Vl.z)) := by
      rw [hEv]; unfold opV
      rw [if_neg (by omega), if_neg (by omega), if_neg (by rw [hml, htk]; exact Bool.noConfusion)]
    have hop : e.op = 1 ∨ e.op = 2 ∨ e.op = 3 ∨ e.op = 4 ∨ e.op = 5 ∨ e.op = 6 ∨ e.op = 7 ∨ e.op = 8 ∨ e.op = 9 ∨ e.op = 10 ∨ e.op = 11 ∨ e.op = 12 ∨ e.op = 13 ∨ e.op = 14 ∨ e.op = 15 ∨ e.op = 16 ∨ e.op = 17 ∨ e.op = 18 ∨ e.op = 19 ∨ e.op = 20 ∨ e.op = 21 ∨ e.op = 22 ∨ e.op = 23 ∨ e.op = 24 ∨ e.op = 25 ∨ e.op = 26 ∨ e.op = 27 ∨ e.op = 28 := by omega
    rcases hop with h | h | h | h | h | h | h | h | h | h | h | h | h | h | h | h | h | h | h | h | h | h | h | h | h | h | h | h
    · -- 1
      have hl : len = 0 := by rw [h] at htk; simpa [takesO, oneB] using htk
      rw [h] at hz
      rw [h]
      exact reval_1 e ih a len cap ok ra rlen rcap row w hk hsl hr h hl hs _ (by rw [hz]; rfl)
    · -- 2
      have hl : len = 0 := by rw [h] at htk; simpa [takesO, oneB] using htk
      rw [h] at hz
      rw [h]
      exact reval_2 e ih a len cap ok ra rlen rcap row w hk hsl hr h hl hs _ (by rw [hz]; rfl)
    · -- 3
      have hl : len = 0 := by rw [h] at htk; simpa [takesO, oneB] using htk
      rw [h] at hz
      rw [h]
      exact reval_3 e ih a len cap ok ra rlen rcap row w hk hsl hr h hl hs _ (by rw [hz]; rfl)
    · -- 4
      have hl : len = 0 := by rw [h] at htk; simpa [takesO, oneB] using htk
      rw [h] at hz
      rw [h]
      exact reval_4 e ih a len cap ok ra rlen rcap row w hk hsl hr h hl hs _ (by rw [hz]; rfl)
    · -- 5
      have hl : len = 0 := by rw [h] at htk; simpa [takesO, oneB] using htk
      rw [h] at hz
      have hz5 : evalE e row = colV e.col row := by rw [hz]; rfl
      by_cases c1 : e.col < 0
      · rw [h]
        exact reval_5a e ih a len cap ok ra rlen rcap row w hk hsl hr h hl hs _ (by rw [hz5]; unfold colV; rw [if_pos c1]) c1
      by_cases c2 : (rlen : Int) ≤ e.col
      · rw [h]
        exact reval_5b e ih a len cap ok ra rlen rcap row w hk hsl hr h hl hs _ (by rw [hz5]; unfold colV; rw [if_neg c1, if_pos (by rw [hr.1]; exact c2)]) ⟨c1, c2⟩
      have hm : e.col = ((e.col.toNat : Nat) : Int) := by omega
      have hv : evalE e row = row.getD e.col.toNat Vl.z := by rw [hz5]; unfold colV; rw [if_neg c1, if_neg (by rw [hr.1]; exact c2)]
      generalize e.col.toNat = m at hm hv
      rw [h, hm]
      exact reval_5c m e ih a len cap ok ra rlen rcap row w hk hsl hr h hl hs _ hv (by omega)
    · -- 6
      have hl : len = 2 := by rw [h] at htk; simpa [takesO, oneB] using htk
      rw [h] at hz
      rw [h]
      exact reval_6 e ih a len cap ok ra rlen rcap row w hk hsl hr h hl hs _ (by rw [hz]; rfl)
    · -- 7
      have hl : len = 2 := by rw [h] at htk; simpa [takesO, oneB] using htk
      rw [h] at hz
      rw [h]
      exact reval_7 e ih a len cap ok ra rlen rcap row w hk hsl hr h hl hs _ (by rw [hz]; rfl)
    · -- 8
      have hl : len = 2 := by rw [h] at htk; simpa [takesO, oneB] using htk
      rw [h] at hz
      rw [h]
      exact reval_8 e ih a len cap ok ra rlen rcap row w hk hsl hr h hl hs _ (by rw [hz]; rfl)
    · -- 9
      have hl : len = 2 := by rw [h] at htk; simpa [takesO, oneB] using htk
      rw [h] at hz
      rw [h]
      exact reval_9 e ih a len cap ok ra rlen rcap row w hk hsl hr h hl hs _ (by rw [hz]; rfl)
    · -- 10
      have hl : len = 2 := by rw [h] at htk; simpa [takesO, oneB] using htk
      rw [h] at hz
      rw [h]
      exact reval_10 e ih a len cap ok ra rlen rcap row w hk hsl hr h hl hs _ (by rw [hz]; rfl)
    · -- 11
      have hl : len = 1 := by rw [h] at htk; simpa [takesO, oneB] using htk
      rw [h] at hz
      rw [h]
      exact reval_11 e ih a len cap ok ra rlen rcap row w hk hsl hr h hl hs _ (by rw [hz]; rfl)
    · -- 12
      have hl : len = 2 := by rw [h] at htk; simpa [takesO, oneB] using htk
      rw [h] at hz
      rw [h]
      exact reval_12 e ih a len cap ok ra rlen rcap row w hk hsl hr h hl hs _ (by rw [hz]; rfl)
    · -- 13
      have hl : len = 1 := by rw [h] at htk; simpa [takesO, oneB] using htk
      rw [h] at hz
      rw [h]
      by_cases c1 : ((e.kids.map (evalE · row)).getD 0 Vl.z).k = 3
      · exact reval_13a e ih a len cap ok ra rlen rcap row w hk hsl hr h hl hs _ (by rw [hz]; rfl) c1
      · exact reval_13b e ih a len cap ok ra rlen rcap row w hk hsl hr h hl hs _ (by rw [hz]; rfl) c1
    · -- 14
      have hl : len = 2 := by rw [h] at htk; simpa [takesO, oneB] using htk
      rw [h] at hz
      rw [h]
      exact reval_14 e ih a len cap ok ra rlen rcap row w hk hsl hr h hl hs _ (by rw [hz]; rfl)
    · -- 15
      have hl : len = 2 := by rw [h] at htk; simpa [takesO, oneB] using htk
      rw [h] at hz
      rw [h]
      exact reval_15 e ih a len cap ok ra rlen rcap row w hk hsl hr h hl hs _ (by rw [hz]; rfl)
    · -- 16
      have hl : len = 2 := by rw [h] at htk; simpa [takesO, oneB] using htk
      rw [h] at hz
      rw [h]
      exact reval_16 e ih a len cap ok ra rlen rcap row w hk hsl hr h hl hs _ (by rw [hz]; rfl)
    · -- 17
      have hl : len = 2 := by rw [h] at htk; simpa [takesO, oneB] using htk
      rw [h] at hz
      rw [h]
      exact reval_17 e ih a len cap ok ra rlen rcap row w hk hsl hr h hl hs _ (by rw [hz]; rfl)
    · -- 18
      have hl : len = 2 := by rw [h] at htk; simpa [takesO, oneB] using htk
      rw [h] at hz
      rw [h]
      exact reval_18 e ih a len cap ok ra rlen rcap row w hk hsl hr h hl hs _ (by rw [hz]; rfl)
    · -- 19
      have hl : len = 2 := by rw [h] at htk; simpa [takesO, oneB] using htk
      rw [h] at hz
      rw [h]
      exact reval_19 e ih a len cap ok ra rlen rcap row w hk hsl hr h hl hs _ (by rw [hz]; rfl)
    · -- 20
      have hl : len = 2 := by rw [h] at htk; simpa [takesO, oneB] using htk
      rw [h] at hz
      rw [h]
      exact reval_20 e ih a len cap ok ra rlen rcap row w hk hsl hr h hl hs _ (by rw [hz]; rfl)
    · -- 21
      have hl : len = 1 := by rw [h] at htk; simpa [takesO, oneB] using htk
      rw [h] at hz
      rw [h]
      exact reval_21 e ih a len cap ok ra rlen rcap row w hk hsl hr h hl hs _ (by rw [hz]; rfl)
    · -- 22
      have hl : len = 2 := by rw [h] at htk; simpa [takesO, oneB] using htk
      rw [h] at hz
      rw [h]
      exact reval_22 e ih a len cap ok ra rlen rcap row w hk hsl hr h hl hs _ (by rw [hz]; rfl)
    · -- 23
      have hl : len = 2 := by rw [h] at htk; simpa [takesO, oneB] using htk
      rw [h] at hz
      rw [h]
      exact reval_23 e ih a len cap ok ra rlen rcap row w hk hsl hr h hl hs _ (by rw [hz]; rfl)
    · -- 24
      have hl : len = 1 := by rw [h] at htk; simpa [takesO, oneB] using htk
      rw [h] at hz
      rw [h]
      exact reval_24 e ih a len cap ok ra rlen rcap row w hk hsl hr h hl hs _ (by rw [hz]; rfl)
    · -- 25
      have hl : len = 1 := by rw [h] at htk; simpa [takesO, oneB] using htk
      rw [h] at hz
      rw [h]
      exact reval_25 e ih a len cap ok ra rlen rcap row w hk hsl hr h hl hs _ (by rw [hz]; rfl)
    · -- 26
      have hl : len = 3 := by rw [h] at htk; simpa [takesO, oneB] using htk
      rw [h] at hz
      rw [h]
      by_cases c1 : trV ((e.kids.map (evalE · row)).getD 0 Vl.z) = 1
      · exact reval_26a e ih a len cap ok ra rlen rcap row w hk hsl hr h hl hs _ (by rw [hz]; rfl) c1
      · exact reval_26b e ih a len cap ok ra rlen rcap row w hk hsl hr h hl hs _ (by rw [hz]; rfl) c1
    · -- 27
      have hl : len = 2 := by rw [h] at htk; simpa [takesO, oneB] using htk
      rw [h] at hz
      rw [h]
      by_cases c1 : ((e.kids.map (evalE · row)).getD 0 Vl.z).k = 0
      · exact reval_27a e ih a len cap ok ra rlen rcap row w hk hsl hr h hl hs _ (by rw [hz]; rfl) c1
      · exact reval_27b e ih a len cap ok ra rlen rcap row w hk hsl hr h hl hs _ (by rw [hz]; rfl) c1
    · -- 28
      have hl : 2 ≤ len := by rw [h] at htk; simpa [takesO, oneB] using htk
      rw [h] at hz
      rw [h]
      exact reval_28 e ih a len cap ok ra rlen rcap row w hk hsl hr h hl hs _ (by rw [hz]; rfl)
end Go.Proofs.YtkmpaonakhfcjaaDoor
