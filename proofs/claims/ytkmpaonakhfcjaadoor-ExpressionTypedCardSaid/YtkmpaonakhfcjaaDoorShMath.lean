/-
  What a shift does to the value of an expression that the tape made, and that such an expression is slim.
-/
import Derived.Test.YtkmpaonakhfcjaaDoorTyped
import Derived.Test.YtkmpaonakhfcjaaDoorShift
set_option linter.unusedVariables false
namespace Go.Proofs.YtkmpaonakhfcjaaDoor
open Go Go.RowKit Go.Deep
theorem opV_row {op num : Int} {text : ByteArray} {col col' : Int} {row row' vs : List Vl} (h : op ≠ 5) : opV op num text col row vs = opV op num text col' row' vs := by
  unfold opV
  simp only [if_neg h]
theorem cOp_ne (k : Int) : cOp k ≠ 5 := by
  unfold cOp
  repeat' split
  all_goals omega
theorem shift_eval {ty : List Int} {bl row : List Vl} (hl : row.length = ty.length) (hb : bl.length ≤ 1000) (hr : ty.length ≤ 1000) {d : Nat} {k : Int} {e : Ex} (h : Made ty d k e) : evalE (shiftE e (bl.length : Nat)) (bl ++ row) = evalE e row := by
  induction h with
  | col k c hc h =>
    rw [evalE_eq, evalE_eq, shiftE_op, shiftE_num, shiftE_text, shiftE_col, shiftE_kids]
    have hw : wrap64 ((c : Int) + (bl.length : Nat)) = ((c + bl.length : Nat) : Int) := by unfold wrap64; omega
    simp only [Ex.op, Ex.kids, Ex.col, Ex.num, Ex.text, List.map_nil, if_true, hw, opV]
    rw [if_neg (by decide), if_neg (by decide), if_neg (by decide), if_neg (by decide), if_neg (by decide), if_neg (by decide)]
    unfold colV
    rw [if_neg (by omega), if_neg (by rw [List.length_append]; omega), if_neg (by omega), if_neg (by omega)]
    simp only [Int.toNat_natCast, List.getD_eq_getElem?_getD]
    rw [List.getElem?_append_right (by omega)]
    congr 2
    omega
  | const k v h =>
    rw [evalE_eq, evalE_eq, shiftE_op, shiftE_num, shiftE_text, shiftE_kids]
    simp only [Ex.op, Ex.kids, Ex.num, Ex.text, List.map_nil]
    exact opV_row (cOp_ne _)
  | case k c a b hc ha hb2 ihc iha ihb =>
    rw [evalE_eq, evalE_eq, shiftE_op, shiftE_num, shiftE_text, shiftE_kids]
    simp only [Ex.node, Ex.op, Ex.kids, Ex.num, Ex.text, List.map_cons, List.map_nil, ihc, iha, ihb]
    exact opV_row (by decide)
  | node k op x l h hl2 ih =>
    have hr6 := sig_range h
    rw [evalE_eq, evalE_eq, shiftE_op, shiftE_num, shiftE_text, shiftE_kids]
    simp only [Ex.node, Ex.op, Ex.kids, Ex.num, Ex.text, List.map_map]
    have : l.map ((fun x => evalE x (bl ++ row)) ∘ fun x => shiftE x (bl.length : Nat)) = l.map (evalE · row) := List.map_congr_left fun e he => ih e he
    rw [this]
    exact opV_row (by omega)
theorem sig_few {k op x : Int} {n : Nat} (h : Sig k op x n) : n ≤ 4 := by
  unfold Sig at h; omega
theorem Made.slim {ty : List Int} {d : Nat} {k : Int} {e : Ex} (h : Made ty d k e) : Slim e := by
  induction h with
  | col k c hc h => exact .mk _ (by simp [Ex.kids]) (by simp [Ex.kids])
  | const k v h => exact .mk _ (by simp [Ex.kids]) (by simp [Ex.kids])
  | case k c a b hc ha hb2 ihc iha ihb =>
    refine .mk _ (by simp [Ex.node, Ex.kids]) (fun e he => ?_)
    simp only [Ex.node, Ex.kids, List.mem_cons, List.not_mem_nil, or_false] at he
    rcases he with rfl | rfl | rfl <;> assumption
  | node k op x l h hl2 ih =>
    have := sig_few h
    exact .mk _ (by simp only [Ex.node, Ex.kids]; omega) (fun e he => ih e he)
end Go.Proofs.YtkmpaonakhfcjaaDoor
