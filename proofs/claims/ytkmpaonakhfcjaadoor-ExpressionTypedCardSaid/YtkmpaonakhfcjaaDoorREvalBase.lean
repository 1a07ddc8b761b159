/-
  What the reference's Eval is asked to give.
-/
import Derived.Test.YtkmpaonakhfcjaaDoorRKids
import Derived.Test.YtkmpaonakhfcjaaDoorShift
set_option linter.unusedVariables false
namespace Go.Proofs.YtkmpaonakhfcjaaDoor
open Go Go.RowKit
theorem infoVl : (Tryd.prog.info? 39).map (fun i => (i.zero, i.size, i.bytes)) = some (some (.agg #[.int .i64 0, .int .i64 0, .string ⟨#[]⟩]), 3, 32) := by kernel_rfl
theorem Vl.one (r : Vl) : ∀ u ∈ r.cells, u.oneCell' = true := by
  intro u h
  simp only [Vl.cells, List.mem_cons, List.not_mem_nil, or_false] at h
  rcases h with rfl | rfl | rfl <;> rfl
theorem take_mapV {l : List Ex} {j : Nat} (row : List Vl) (h : j < l.length) : (l.take (j + 1)).map (evalE · row) = (l.take j).map (evalE · row) ++ [evalE (l.getD j Ex.z) row] := by
  rw [List.take_succ_eq_append_getElem h, List.map_append]
  simp [List.getD, h]
/-- What the reference's Eval gives for e, whatever the row and the world. -/
def REvalOf (e : Ex) : Prop := ∀ (a : Option Addr) (len cap : Nat) (ok : Nat → Prop) (ra : Option Addr) (rlen rcap : Nat) (row : List Vl) (w : World), Kids w ok a len cap e.kids → e.fine → Slim e → RowIs w ra rlen rcap row →
    Calls Tryd.prog 14 #[.agg #[.int .i64 e.op, .int .i64 e.ty, .int .i64 e.num, .string e.text, .int .i64 e.col, .slice a len cap], .slice ra rlen rcap] w fun r w' => r = .returned (.agg #[.int .i64 (evalE e row).k, .int .i64 (evalE e row).n, .string (evalE e row).s]) ∧ Cls w w'
end Go.Proofs.YtkmpaonakhfcjaaDoor
