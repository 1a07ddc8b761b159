/-
  What Arith gives, of the program and of the reference, for all operations and values: the same value, which is valid. What the operations of expressions give on values: the program's unary, binary and what they call, for all values. The table of operations, and what find, takes, column and literal give. What an expression's value is, and what the program's column and literal give.
-/
import Derived.Test.YtpddkljedhghkaaDoorJ11
import Derived.Test.YtpddkljedhghkaaDoorJ09
import Derived.Lib.Hide
import Derived.Test.YtpddkljedhghkaaDoorJ01
import Derived.Laws.Entries
set_option linter.unusedVariables false
namespace Go.Proofs.YtpddkljedhghkaaDoor
open Go Go.RowKit

theorem vB_three (s : ByteArray) : vB 3 0 s = textB s := by simp [vB]
/-- Whatever comes out is valid. -/
theorem ar_valid (op k n : Int) (s : ByteArray) (k' n' : Int) (s' : ByteArray) : vB (arK op k n s k' n' s') (arN op k n s k' n' s') (arS op k n s k' n' s') = true := by
  cases h : arOk op k n s k' n' s'
  · simp [arK, arN, arS, h, vB]
  · by_cases ho : op = 12
    · subst ho
      have h2 := h
      simp [arOk] at h2
      obtain ⟨_, ⟨rfl, rfl⟩, ht⟩ := h2
      simp only [arK, arN, arS, h, if_true]
      rw [vB_three]
      exact ht
    · have h2 := h
      simp only [arOk, ho, if_false, Bool.and_eq_true, beq_iff_eq] at h2
      obtain ⟨⟨h3, _⟩, ⟨rfl, rfl⟩, h4⟩ := h2
      rw [numOk_eq op n n' (vB_num h3), Bool.and_eq_true] at h4
      have h5 := h4.2
      simp only [arK, arN, arS, h, ho, if_true, if_false]
      rw [vB_one]
      exact h5
end Go.Proofs.YtpddkljedhghkaaDoor
set_option linter.unusedVariables false
namespace Go.Proofs.YtpddkljedhghkaaDoor
open Go Go.RowKit
/-- Kind, number and text of a value. -/
structure Vl where
  k : Int
  n : Int
  s : ByteArray
def Vl.z : Vl := ⟨0, 0, ⟨#[]⟩⟩
instance : Inhabited Vl := ⟨Vl.z⟩
def tvV (t : Int) : Vl := ⟨tvK t, tvN t, ⟨#[]⟩⟩
def arV3 (op : Int) (a b : Vl) : Vl := ⟨arK op a.k a.n a.s b.k b.n b.s, arN op a.k a.n a.s b.k b.n b.s, arS op a.k a.n a.s b.k b.n b.s⟩
def eqV (a b : Vl) : Int := eqT a.k a.n a.s b.k b.n b.s
def ltV (a b : Vl) : Int := lessT a.k a.n a.s b.k b.n b.s
def trV (a : Vl) : Int := truT a.k a.n
/-- What an operation with one operand gives. -/
def unV (op : Int) (a : Vl) : Vl :=
  if op = 11 then arV3 7 ⟨1, 0, ⟨#[]⟩⟩ a else if op = 13 then (if a.k = 3 then ⟨1, a.s.size, ⟨#[]⟩⟩ else Vl.z) else if op = 21 then ⟨2, b2i (a.k == 0), ⟨#[]⟩⟩
  else if op = 24 then tvV (notT (trV a)) else ⟨2, b2i (trV a == 1), ⟨#[]⟩⟩
/-- What an operation with two operands gives. -/
def biV (op : Int) (a b : Vl) : Vl :=
  if op = 14 then tvV (eqV a b) else if op = 15 then tvV (notT (truT (tvK (eqV a b)) (tvN (eqV a b)))) else if op = 16 then tvV (ltV a b)
  else if op = 17 then tvV (notT (truT (tvK (ltV b a)) (tvN (ltV b a)))) else if op = 18 then tvV (ltV b a) else if op = 19 then tvV (notT (truT (tvK (ltV a b)) (tvN (ltV a b))))
  else if op = 20 then ⟨2, b2i (sameB a.k a.n a.s b.k b.n b.s), ⟨#[]⟩⟩ else if op = 22 then tvV (andT (trV a) (trV b)) else if op = 23 then tvV (orT (trV a) (trV b))
  else if op = 27 then (if a.k = 0 then b else a) else arV3 op a b

end Go.Proofs.YtpddkljedhghkaaDoor
set_option linter.unusedVariables false
namespace Go.Proofs.YtpddkljedhghkaaDoor
open Go Go.RowKit
/-- A row of the table: the word, what the operation has, and its types. -/
structure ORow where
  word : List UInt8
  has : Int
  first : Int
  others : Int
  gives : Int
def ORow.z : ORow := ⟨[], 0, 0, 0, 0⟩
def opsRows : List ORow := [⟨[], 0, 0, 0, 0⟩, ⟨[], 0, 0, 0, 0⟩, ⟨[], 1, 0, 0, 1⟩, ⟨[], 1, 0, 0, 2⟩, ⟨[], 2, 0, 0, 3⟩, ⟨[], 3, 0, 0, 0⟩, ⟨[97, 100, 100], 5, 1, 1, 1⟩, ⟨[115, 117, 98], 5, 1, 1, 1⟩, ⟨[109, 117, 108], 5, 1, 1, 1⟩, ⟨[100, 105, 118], 5, 1, 1, 1⟩, ⟨[109, 111, 100], 5, 1, 1, 1⟩, ⟨[110, 101, 103], 4, 1, 0, 1⟩, ⟨[99, 111, 110, 99, 97, 116], 5, 3, 3, 3⟩, ⟨[108, 101, 110, 103, 116, 104], 4, 3, 0, 1⟩, ⟨[101, 113], 5, (-1), (-1), 2⟩, ⟨[110, 101], 5, (-1), (-1), 2⟩, ⟨[108, 116], 5, (-1), (-1), 2⟩, ⟨[108, 101], 5, (-1), (-1), 2⟩, ⟨[103, 116], 5, (-1), (-1), 2⟩, ⟨[103, 101], 5, (-1), (-1), 2⟩, ⟨[115, 97, 109, 101], 5, (-1), (-1), 2⟩, ⟨[105, 115, 110, 117, 108, 108], 4, (-1), 0, 2⟩, ⟨[97, 110, 100], 5, 2, 2, 2⟩, ⟨[111, 114], 5, 2, 2, 2⟩, ⟨[110, 111, 116], 4, 2, 0, 2⟩, ⟨[105, 115, 116, 114, 117, 101], 4, 2, 0, 2⟩, ⟨[99, 97, 115, 101], 6, 2, (-1), (-1)⟩, ⟨[99, 111, 97, 108, 101, 115, 99, 101], 5, (-1), (-1), (-1)⟩, ⟨[105, 110], 7, (-1), (-1), 2⟩]
def oRow (n : Nat) : ORow := opsRows.getD n ORow.z
/-- The table's variable holds these rows. -/
def OpsTab (w : World) : Prop := 0 < w.heap.size ∧ ∀ i, i < 29 → w.cell? ⟨0, i * 5, none⟩ = some (.string ⟨(oRow i).word.toArray⟩) ∧ w.cell? ⟨0, i * 5 + 1, none⟩ = some (.int .i64 (oRow i).has) ∧ w.cell? ⟨0, i * 5 + 2, none⟩ = some (.int .i64 (oRow i).first) ∧
  w.cell? ⟨0, i * 5 + 3, none⟩ = some (.int .i64 (oRow i).others) ∧ w.cell? ⟨0, i * 5 + 4, none⟩ = some (.int .i64 (oRow i).gives)
theorem OpsTab.later {w w' : World} (h : OpsTab w) (hb : Below w.heap.size w w') : OpsTab w' := by
  refine ⟨Nat.lt_of_lt_of_le h.1 hb.size, fun i hi => ?_⟩
  obtain ⟨h0, h1, h2, h3, h4⟩ := h.2 i hi
  have key : ∀ o, w'.cell? ⟨0, o, none⟩ = w.cell? ⟨0, o, none⟩ := fun o => hb.cell (p := ⟨0, o, none⟩) h.1
  exact ⟨by rw [key]; exact h0, by rw [key]; exact h1, by rw [key]; exact h2, by rw [key]; exact h3, by rw [key]; exact h4⟩
set_option maxHeartbeats 1000000 in
theorem find_yes (n : Nat) (w : World) (h1 : 1 ≤ n) (h2 : n < 29) (ht : OpsTab w) :
    Calls Tryd.prog 33 #[.int .i64 (n : Nat)] w fun r w' => r = .returned (.tuple #[.agg #[.string ⟨(oRow n).word.toArray⟩, .int .i64 (oRow n).has, .int .i64 (oRow n).first, .int .i64 (oRow n).others, .int .i64 (oRow n).gives], .bool true]) ∧ Cls w w' := by
  obtain ⟨hg, hc⟩ := ht
  obtain ⟨q0, q1, q2, q3, q4⟩ := hc n h2
  have b1 : decide ((n : Int) < 1) = false := by simp; omega
  have b2 : decide (29 ≤ (n : Int)) = false := by simp; omega
  clear hc
  go_enter Tryd.func33, Tryd.ntmps33
  go_wp2_with fail
  refine ret_ex rfl ?_
  simp [results, Tryd.results33, go_sem]
  refine Cls.of ?_
  repeat first | with_reducible exact Below.refl _ _ | with_reducible assumption | with_reducible refine Below.setCell ?_ (by first | omega | (simp; done) | (simp; omega)) _ | with_reducible refine Below.alloc ?_ (by first | omega | (simp; done) | (simp; omega)) _ | with_reducible refine Below.drew ?_ | with_reducible refine Ext.on _ ?_ (by first | omega | (simp; done) | (simp; omega))
set_option maxHeartbeats 1000000 in
theorem find_no (n : Int) (w : World) (h : n < 1 ∨ 29 ≤ n) :
    Calls Tryd.prog 33 #[.int .i64 n] w fun r w' => r = .returned (.tuple #[.agg #[.string ⟨#[]⟩, .int .i64 0, .int .i64 0, .int .i64 0, .int .i64 0], .bool false]) ∧ Cls w w' := by
  rcases h with h | h
  · have b1 : decide (n < 1) = true := by simp; omega
    clear h
    go_enter Tryd.func33, Tryd.ntmps33
    go_wp2_with fail
    refine ret_ex rfl ?_
    simp [results, Tryd.results33, go_sem]
    refine Cls.of ?_
    repeat first | with_reducible exact Below.refl _ _ | with_reducible assumption | with_reducible refine Below.setCell ?_ (by first | omega | (simp; done) | (simp; omega)) _ | with_reducible refine Below.alloc ?_ (by first | omega | (simp; done) | (simp; omega)) _ | with_reducible refine Below.drew ?_ | with_reducible refine Ext.on _ ?_ (by first | omega | (simp; done) | (simp; omega))
  · have b1 : decide (n < 1) = false := by simp; omega
    have b2 : decide (29 ≤ n) = true := by simp; omega
    clear h
    go_enter Tryd.func33, Tryd.ntmps33
    go_wp2_with fail
    refine ret_ex rfl ?_
    simp [results, Tryd.results33, go_sem]
    refine Cls.of ?_
    repeat first | with_reducible exact Below.refl _ _ | with_reducible assumption | with_reducible refine Below.setCell ?_ (by first | omega | (simp; done) | (simp; omega)) _ | with_reducible refine Below.alloc ?_ (by first | omega | (simp; done) | (simp; omega)) _ | with_reducible refine Below.drew ?_ | with_reducible refine Ext.on _ ?_ (by first | omega | (simp; done) | (simp; omega))
/-- May an operation that has this have so many Kids? -/
def takesH (has : Int) (m : Nat) : Bool := if has = 4 then decide (m = 1) else if has = 5 then decide (m = 2) else if has = 6 then decide (m = 3) else if has = 7 then decide (2 ≤ m) else decide (m = 0)
set_option maxHeartbeats 1000000 in
theorem takes_calls (r : ORow) (m : Nat) (w : World) (hr : r.has = 0 ∨ r.has = 1 ∨ r.has = 2 ∨ r.has = 3 ∨ r.has = 4 ∨ r.has = 5 ∨ r.has = 6 ∨ r.has = 7) :
    Calls Tryd.prog 34 #[.agg #[.string ⟨r.word.toArray⟩, .int .i64 r.has, .int .i64 r.first, .int .i64 r.others, .int .i64 r.gives], .int .i64 (m : Nat)] w fun e w' => e = .returned (.bool (takesH r.has m)) ∧ Cls w w' := by
  obtain ⟨word, has, first, others, gives⟩ := r
  simp only at hr ⊢
  rcases hr with rfl | rfl | rfl | rfl | rfl | rfl | rfl | rfl
  all_goals
    go_enter Tryd.func34, Tryd.ntmps34
    go_wp2_with fail
    go_ret
    refine ⟨ret_bool ?_, Cls.of ?_⟩
    · simp [takesH]; first | done | omega | (rw [Bool.eq_iff_iff]; simp; done) | (rw [Bool.eq_iff_iff]; simp; omega)
    · repeat first | with_reducible exact Below.refl _ _ | with_reducible assumption | with_reducible refine Below.setCell ?_ (by first | omega | (simp; done) | (simp; omega)) _ | with_reducible refine Below.alloc ?_ (by first | omega | (simp; done) | (simp; omega)) _ | with_reducible refine Below.drew ?_ | with_reducible refine Ext.on _ ?_ (by first | omega | (simp; done) | (simp; omega))
end Go.Proofs.YtpddkljedhghkaaDoor
set_option linter.unusedVariables false
namespace Go.Proofs.YtpddkljedhghkaaDoor
open Go Go.RowKit
def colV (c : Int) (row : List Vl) : Vl := if c < 0 then Vl.z else if (row.length : Int) ≤ c then Vl.z else row.getD c.toNat Vl.z
def litV (op num : Int) (text : ByteArray) : Vl := if op = 2 then ⟨1, num, ⟨#[]⟩⟩ else if op = 3 then ⟨2, num, ⟨#[]⟩⟩ else if op = 4 then ⟨3, 0, text⟩ else Vl.z
/-- One more alternative of a membership test. -/
def orV (acc v x : Vl) : Vl := tvV (orT (trV acc) (trV (tvV (eqV v x))))
def inV (v : Vl) : List Vl → Vl → Vl
  | [], acc => acc
  | x :: r, acc => inV v r (orV acc v x)
def oneB (op : Int) : Bool := op == 11 || op == 13 || op == 21 || op == 24 || op == 25
def takesO (op : Int) (m : Nat) : Bool := if op ≤ 5 then decide (m = 0) else if oneB op = true then decide (m = 1) else if op = 26 then decide (m = 3) else if op = 28 then decide (2 ≤ m) else decide (m = 2)
/-- The value of an operation whose Kids have these values. -/
def opV (op num : Int) (text : ByteArray) (col : Int) (row vs : List Vl) : Vl :=
  if op < 1 then Vl.z else if 29 ≤ op then Vl.z else if takesO op vs.length = false then Vl.z
  else if op = 5 then colV col row else if op ≤ 4 then litV op num text
  else if op = 26 then (if trV (vs.getD 0 Vl.z) = 1 then vs.getD 1 Vl.z else vs.getD 2 Vl.z)
  else if op = 28 then inV (vs.getD 0 Vl.z) (vs.drop 1) (tvV 0)
  else if oneB op = true then unV op (vs.getD 0 Vl.z) else biV op (vs.getD 0 Vl.z) (vs.getD 1 Vl.z)
mutual
def evalE : Ex → List Vl → Vl
  | .mk op _ num text col l, row => opV op num text col row (evalL l row)
def evalL : List Ex → List Vl → List Vl
  | [], _ => []
  | k :: r, row => evalE k row :: evalL r row
end
theorem evalL_map (l : List Ex) (row : List Vl) : evalL l row = l.map (evalE · row) := by
  induction l with
  | nil => rw [evalL]; rfl
  | cons k r ih => rw [evalL, ih]; rfl
theorem evalE_eq (e : Ex) (row : List Vl) : evalE e row = opV e.op e.num e.text e.col row (e.kids.map (evalE · row)) := by
  cases e; simp only [evalE, Ex.op, Ex.num, Ex.text, Ex.col, Ex.kids, evalL_map]
/-- The slice holds the row's values. -/
def RowIs (w : World) (a : Option Addr) (len cap : Nat) (row : List Vl) : Prop :=
  row.length = len ∧ len ≤ cap ∧ cap ≤ maxLen ∧ (∀ v ∈ row, v.s.size ≤ maxLen) ∧ (len = 0 ∨ ∃ b off, a = some ⟨b, off, none⟩ ∧ b < w.heap.size ∧ ∀ i, i < len →
    w.cell? ⟨b, off + i * 3, none⟩ = some (.int .i64 (row.getD i Vl.z).k) ∧ w.cell? ⟨b, off + i * 3 + 1, none⟩ = some (.int .i64 (row.getD i Vl.z).n) ∧ w.cell? ⟨b, off + i * 3 + 2, none⟩ = some (.string (row.getD i Vl.z).s))
theorem RowIs.later {w w' : World} {a : Option Addr} {len cap : Nat} {row : List Vl} (h : RowIs w a len cap row) (hb : Below w.heap.size w w') : RowIs w' a len cap row := by
  refine ⟨h.1, h.2.1, h.2.2.1, h.2.2.2.1, h.2.2.2.2.imp id ?_⟩
  rintro ⟨b, off, ha, hlt, hc⟩
  refine ⟨b, off, ha, Nat.lt_of_lt_of_le hlt hb.size, fun i hi => ?_⟩
  obtain ⟨h0, h1, h2⟩ := hc i hi
  exact ⟨by rw [hb.cell (p := ⟨b, _, none⟩) hlt]; exact h0, by rw [hb.cell (p := ⟨b, _, none⟩) hlt]; exact h1, by rw [hb.cell (p := ⟨b, _, none⟩) hlt]; exact h2⟩
set_option maxHeartbeats 1000000 in
theorem literal_calls (e : Ex) (a : Option Addr) (len cap : Nat) (w : World) (h : e.op = 1 ∨ e.op = 2 ∨ e.op = 3 ∨ e.op = 4) :
    Calls Tryd.prog 36 #[.agg #[.int .i64 e.op, .int .i64 e.ty, .int .i64 e.num, .string e.text, .int .i64 e.col, .slice a len cap]] w fun r w' => r = .returned (.agg #[.int .i64 (litV e.op e.num e.text).k, .int .i64 (litV e.op e.num e.text).n, .string (litV e.op e.num e.text).s]) ∧ Cls w w' := by
  rcases h with h | h | h | h
  all_goals
    rw [h]
    go_enter Tryd.func36, Tryd.ntmps36
    go_wp2_with fail
    refine ret_ex rfl ?_
    simp [results, Tryd.results36, go_sem]
    refine ⟨⟨rfl, rfl, rfl⟩, Cls.of ?_⟩
    repeat first | with_reducible exact Below.refl _ _ | with_reducible assumption | with_reducible refine Below.setCell ?_ (by first | omega | (simp; done) | (simp; omega)) _ | with_reducible refine Below.alloc ?_ (by first | omega | (simp; done) | (simp; omega)) _ | with_reducible refine Below.drew ?_ | with_reducible refine Ext.on _ ?_ (by first | omega | (simp; done) | (simp; omega))
end Go.Proofs.YtpddkljedhghkaaDoor
