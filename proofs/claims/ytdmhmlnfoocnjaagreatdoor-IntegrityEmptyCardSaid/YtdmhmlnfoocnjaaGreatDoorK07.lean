/-
  What an expression's value is, and what the program's column and literal give.
-/
import Derived.Test.YtdmhmlnfoocnjaaGreatDoorK06
import Derived.Test.YtdmhmlnfoocnjaaGreatDoorK03
set_option linter.unusedVariables false
namespace Go.Proofs.YtdmhmlnfoocnjaaGreatDoor
open Go Go.RowKit
def colV (c : Int) (row : List Vl) : Vl := if c < 0 then Vl.z else if (row.length : Int) ≤ c then Vl.z else row.getD c.toNat Vl.z
def litV (op num : Int) (text : ByteArray) : Vl := if op = 2 then ⟨1, num, ⟨#[]⟩⟩ else if op = 3 then ⟨2, num, ⟨#[]⟩⟩ else if op = 4 then ⟨3, 0, text⟩ else Vl.z
def orV (acc v x : Vl) : Vl := tvV (orT (trV acc) (trV (tvV (eqV v x))))
def inV (v : Vl) : List Vl → Vl → Vl
  | [], acc => acc
  | x :: r, acc => inV v r (orV acc v x)
def oneB (op : Int) : Bool := op == 11 || op == 13 || op == 21 || op == 24 || op == 25
def takesO (op : Int) (m : Nat) : Bool := if op ≤ 5 then decide (m = 0) else if oneB op = true then decide (m = 1) else if op = 26 then decide (m = 3) else if op = 28 then decide (2 ≤ m) else decide (m = 2)
def opV (op num : Int) (text : ByteArray) (col : Int) (row vs : List Vl) : Vl :=
  if op < 1 then Vl.z else if 29 ≤ op then Vl.z else if takesO op vs.length = false then Vl.z
  else if op = 5 then colV col row else if op ≤ 4 then litV op num text
  else if op = 26 then (if trV (vs.getD 0 Vl.z) = 1 then vs.getD 1 Vl.z else vs.getD 2 Vl.z)
  else if op = 28 then inV (vs.getD 0 Vl.z) (vs.drop 1) (tvV 0)
  else if oneB op = true then unV op (vs.getD 0 Vl.z) else biV op (vs.getD 0 Vl.z) (vs.getD 1 Vl.z)
mutual
def evalE : Ex → List Vl → Vl
  | .mk op _ num text col l, row => opV op num text col row (evalL l row)
def evalL : List Ex → List Vl → List Vl
  | [], _ => []
  | k :: r, row => evalE k row :: evalL r row
end
theorem evalL_map (l : List Ex) (row : List Vl) : evalL l row = l.map (evalE · row) := by
  induction l with
  | nil => rw [evalL]; rfl
  | cons k r ih => rw [evalL, ih]; rfl
theorem evalE_eq (e : Ex) (row : List Vl) : evalE e row = opV e.op e.num e.text e.col row (e.kids.map (evalE · row)) := by
  cases e; simp only [evalE, Ex.op, Ex.num, Ex.text, Ex.col, Ex.kids, evalL_map]
def RowIs (w : World) (a : Option Addr) (len cap : Nat) (row : List Vl) : Prop :=
  row.length = len ∧ len ≤ cap ∧ cap ≤ maxLen ∧ (∀ v ∈ row, v.s.size ≤ maxLen) ∧ (len = 0 ∨ ∃ b off, a = some ⟨b, off, none⟩ ∧ b < w.heap.size ∧ ∀ i, i < len →
    w.cell? ⟨b, off + i * 3, none⟩ = some (.int .i64 (row.getD i Vl.z).k) ∧ w.cell? ⟨b, off + i * 3 + 1, none⟩ = some (.int .i64 (row.getD i Vl.z).n) ∧ w.cell? ⟨b, off + i * 3 + 2, none⟩ = some (.string (row.getD i Vl.z).s))
theorem RowIs.later {w w' : World} {a : Option Addr} {len cap : Nat} {row : List Vl} (h : RowIs w a len cap row) (hb : Below w.heap.size w w') : RowIs w' a len cap row := by
  refine ⟨h.1, h.2.1, h.2.2.1, h.2.2.2.1, h.2.2.2.2.imp id ?_⟩
  rintro ⟨b, off, ha, hlt, hc⟩
  refine ⟨b, off, ha, Nat.lt_of_lt_of_le hlt hb.size, fun i hi => ?_⟩
  obtain ⟨h0, h1, h2⟩ := hc i hi
  exact ⟨by rw [hb.cell (p := ⟨b, _, none⟩) hlt]; exact h0, by rw [hb.cell (p := ⟨b, _, none⟩) hlt]; exact h1, by rw [hb.cell (p := ⟨b, _, none⟩) hlt]; exact h2⟩
set_option maxHeartbeats 1000000 in
theorem column_calls (c : Int) (a : Option Addr) (len cap : Nat) (row : List Vl) (w : World) (h : RowIs w a len cap row) :
    Calls Tryz.prog 119 #[.int .i64 c, .slice a len cap] w fun r w' => r = .returned (.agg #[.int .i64 (colV c row).k, .int .i64 (colV c row).n, .string (colV c row).s]) ∧ Cls w w' := by
  obtain ⟨hl, hle, hmax, _, hh⟩ := h
  unfold maxLen at hmax
  by_cases h1 : c < 0
  · have HU : Hid (colV c row = Vl.z) := Lib.hid (by simp [colV, h1])
    have b1 : decide (c < 0) = true := by simpa using h1
    clear h1 hh hl
    rw [HU.out]
    go_enter Tryz.func119, Tryz.ntmps119
    go_wp2_with fail
    refine ret_ex rfl ?_
    simp [results, Tryz.results119, go_sem, Vl.z]
    refine Cls.of ?_
    repeat first | with_reducible exact Below.refl _ _ | with_reducible assumption | with_reducible refine Below.setCell ?_ (by first | omega | (simp; done) | (simp; omega)) _ | with_reducible refine Below.alloc ?_ (by first | omega | (simp; done) | (simp; omega)) _ | with_reducible refine Below.drew ?_ | with_reducible refine Ext.on _ ?_ (by first | omega | (simp; done) | (simp; omega))
  · have b1 : decide (c < 0) = false := by simpa using h1
    by_cases h2 : (len : Int) ≤ c
    · have HU : Hid (colV c row = Vl.z) := Lib.hid (by unfold colV; rw [if_neg h1, if_pos (by omega)])
      have b2 : decide ((len : Int) ≤ c) = true := by simpa using h2
      clear h1 h2 hh hl
      rw [HU.out]
      go_enter Tryz.func119, Tryz.ntmps119
      go_wp2_with fail
      refine ret_ex rfl ?_
      simp [results, Tryz.results119, go_sem, Vl.z]
      refine Cls.of ?_
      repeat first | with_reducible exact Below.refl _ _ | with_reducible assumption | with_reducible refine Below.setCell ?_ (by first | omega | (simp; done) | (simp; omega)) _ | with_reducible refine Below.alloc ?_ (by first | omega | (simp; done) | (simp; omega)) _ | with_reducible refine Below.drew ?_ | with_reducible refine Ext.on _ ?_ (by first | omega | (simp; done) | (simp; omega))
    · obtain ⟨n, rfl⟩ : ∃ n : Nat, c = (n : Int) := ⟨c.toNat, by omega⟩
      have hn : n < len := by omega
      have HU : Hid (colV (n : Int) row = row.getD n Vl.z) := Lib.hid (by unfold colV; rw [if_neg h1, if_neg (by omega)]; rfl)
      have b2 : decide ((len : Int) ≤ (n : Int)) = false := by simpa using h2
      obtain ⟨b, off, rfl, hb, hc⟩ := hh.resolve_left (by omega)
      obtain ⟨q0, q1, q2⟩ := hc n hn
      have hb1 : b < w.heap.size + 1 := by omega
      clear h1 h2 hc hl hh
      rw [HU.out]
      go_enter Tryz.func119, Tryz.ntmps119
      go_wp2_with fail
      refine ret_ex rfl ?_
      simp [results, Tryz.results119, go_sem]
      refine Cls.of ?_
      repeat first | with_reducible exact Below.refl _ _ | with_reducible assumption | with_reducible refine Below.setCell ?_ (by first | omega | (simp; done) | (simp; omega)) _ | with_reducible refine Below.alloc ?_ (by first | omega | (simp; done) | (simp; omega)) _ | with_reducible refine Below.drew ?_ | with_reducible refine Ext.on _ ?_ (by first | omega | (simp; done) | (simp; omega))
set_option maxHeartbeats 1000000 in
theorem literal_calls (e : Ex) (a : Option Addr) (len cap : Nat) (w : World) (h : e.op = 1 ∨ e.op = 2 ∨ e.op = 3 ∨ e.op = 4) :
    Calls Tryz.prog 120 #[.agg #[.int .i64 e.op, .int .i64 e.ty, .int .i64 e.num, .string e.text, .int .i64 e.col, .slice a len cap]] w fun r w' => r = .returned (.agg #[.int .i64 (litV e.op e.num e.text).k, .int .i64 (litV e.op e.num e.text).n, .string (litV e.op e.num e.text).s]) ∧ Cls w w' := by
  rcases h with h | h | h | h
  all_goals
    rw [h]
    go_enter Tryz.func120, Tryz.ntmps120
    go_wp2_with fail
    refine ret_ex rfl ?_
    simp [results, Tryz.results120, go_sem]
    refine ⟨⟨rfl, rfl, rfl⟩, Cls.of ?_⟩
    repeat first | with_reducible exact Below.refl _ _ | with_reducible assumption | with_reducible refine Below.setCell ?_ (by first | omega | (simp; done) | (simp; omega)) _ | with_reducible refine Below.alloc ?_ (by first | omega | (simp; done) | (simp; omega)) _ | with_reducible refine Below.drew ?_ | with_reducible refine Ext.on _ ?_ (by first | omega | (simp; done) | (simp; omega))
def EvalOf (e : Ex) : Prop := ∀ (a : Option Addr) (len cap : Nat) (ok : Nat → Prop) (ra : Option Addr) (rlen rcap : Nat) (row : List Vl) (w : World), Kids w ok a len cap e.kids → e.fine → RowIs w ra rlen rcap row → OpsTab w →
    Calls Tryz.prog 88 #[.agg #[.int .i64 e.op, .int .i64 e.ty, .int .i64 e.num, .string e.text, .int .i64 e.col, .slice a len cap], .slice ra rlen rcap] w fun r w' => r = .returned (.agg #[.int .i64 (evalE e row).k, .int .i64 (evalE e row).n, .string (evalE e row).s]) ∧ Cls w w'
end Go.Proofs.YtdmhmlnfoocnjaaGreatDoor
set_option linter.unusedVariables false
namespace Go.Proofs.YtdmhmlnfoocnjaaGreatDoor
open Go Go.RowKit Go.Deep
def NumIn (w : World) (a : Option Addr) (len cap : Nat) (l : List Int) : Prop :=
  l.length = len ∧ len ≤ cap ∧ cap ≤ maxLen ∧ (len = 0 ∨ ∃ b off, a = some ⟨b, off, none⟩ ∧ b < w.heap.size ∧ ∀ i, i < len → w.cell? ⟨b, off + i, none⟩ = some (.int .i64 (l.getD i 0)))
theorem NumIn.later {w w' : World} {a : Option Addr} {len cap : Nat} {l : List Int} (h : NumIn w a len cap l) (hb : Below w.heap.size w w') : NumIn w' a len cap l := by
  refine ⟨h.1, h.2.1, h.2.2.1, h.2.2.2.imp id ?_⟩
  rintro ⟨b, off, ha, hlt, hc⟩
  refine ⟨b, off, ha, Nat.lt_of_lt_of_le hlt hb.size, fun i hi => ?_⟩
  rw [hb.cell (p := ⟨b, _, none⟩) hlt]
  exact hc i hi
end Go.Proofs.YtdmhmlnfoocnjaaGreatDoor
