/-
  What an expression's value is, and what the program's column and literal give. What the program's choose and member give.
-/
import Derived.Test.YtonlmhehddbhoaaDoorJ14
set_option linter.unusedVariables false
namespace Go.Proofs.YtonlmhehddbhoaaDoor
open Go Go.RowKit
def colV (c : Int) (row : List Vl) : Vl := if c < 0 then Vl.z else if (row.length : Int) ≤ c then Vl.z else row.getD c.toNat Vl.z
def litV (op num : Int) (text : ByteArray) : Vl := if op = 2 then ⟨1, num, ⟨#[]⟩⟩ else if op = 3 then ⟨2, num, ⟨#[]⟩⟩ else if op = 4 then ⟨3, 0, text⟩ else Vl.z
/-- One more alternative of a membership test. -/
def orV (acc v x : Vl) : Vl := tvV (orT (trV acc) (trV (tvV (eqV v x))))
def inV (v : Vl) : List Vl → Vl → Vl
  | [], acc => acc
  | x :: r, acc => inV v r (orV acc v x)
def oneB (op : Int) : Bool := op == 11 || op == 13 || op == 21 || op == 24 || op == 25
def takesO (op : Int) (m : Nat) : Bool := if op ≤ 5 then decide (m = 0) else if oneB op = true then decide (m = 1) else if op = 26 then decide (m = 3) else if op = 28 then decide (2 ≤ m) else decide (m = 2)
/-- The value of an operation whose Kids have these values. -/
def opV (op num : Int) (text : ByteArray) (col : Int) (row vs : List Vl) : Vl :=
  if op < 1 then Vl.z else if 29 ≤ op then Vl.z else if takesO op vs.length = false then Vl.z
  else if op = 5 then colV col row else if op ≤ 4 then litV op num text
  else if op = 26 then (if trV (vs.getD 0 Vl.z) = 1 then vs.getD 1 Vl.z else vs.getD 2 Vl.z)
  else if op = 28 then inV (vs.getD 0 Vl.z) (vs.drop 1) (tvV 0)
  else if oneB op = true then unV op (vs.getD 0 Vl.z) else biV op (vs.getD 0 Vl.z) (vs.getD 1 Vl.z)
mutual
def evalE : Ex → List Vl → Vl
  | .mk op _ num text col l, row => opV op num text col row (evalL l row)
def evalL : List Ex → List Vl → List Vl
  | [], _ => []
  | k :: r, row => evalE k row :: evalL r row
end
theorem evalL_map (l : List Ex) (row : List Vl) : evalL l row = l.map (evalE · row) := by
  induction l with
  | nil => rw [evalL]; rfl
  | cons k r ih => rw [evalL, ih]; rfl
theorem evalE_eq (e : Ex) (row : List Vl) : evalE e row = opV e.op e.num e.text e.col row (e.kids.map (evalE · row)) := by
  cases e; simp only [evalE, Ex.op, Ex.num, Ex.text, Ex.col, Ex.kids, evalL_map]
/-- The slice holds the row's values. -/
def RowIs (w : World) (a : Option Addr) (len cap : Nat) (row : List Vl) : Prop :=
  row.length = len ∧ len ≤ cap ∧ cap ≤ maxLen ∧ (∀ v ∈ row, v.s.size ≤ maxLen) ∧ (len = 0 ∨ ∃ b off, a = some ⟨b, off, none⟩ ∧ b < w.heap.size ∧ ∀ i, i < len →
    w.cell? ⟨b, off + i * 3, none⟩ = some (.int .i64 (row.getD i Vl.z).k) ∧ w.cell? ⟨b, off + i * 3 + 1, none⟩ = some (.int .i64 (row.getD i Vl.z).n) ∧ w.cell? ⟨b, off + i * 3 + 2, none⟩ = some (.string (row.getD i Vl.z).s))
theorem RowIs.later {w w' : World} {a : Option Addr} {len cap : Nat} {row : List Vl} (h : RowIs w a len cap row) (hb : Below w.heap.size w w') : RowIs w' a len cap row := by
  refine ⟨h.1, h.2.1, h.2.2.1, h.2.2.2.1, h.2.2.2.2.imp id ?_⟩
  rintro ⟨b, off, ha, hlt, hc⟩
  refine ⟨b, off, ha, Nat.lt_of_lt_of_le hlt hb.size, fun i hi => ?_⟩
  obtain ⟨h0, h1, h2⟩ := hc i hi
  exact ⟨by rw [hb.cell (p := ⟨b, _, none⟩) hlt]; exact h0, by rw [hb.cell (p := ⟨b, _, none⟩) hlt]; exact h1, by rw [hb.cell (p := ⟨b, _, none⟩) hlt]; exact h2⟩
set_option maxHeartbeats 1000000 in
theorem column_calls (c : Int) (a : Option Addr) (len cap : Nat) (row : List Vl) (w : World) (h : RowIs w a len cap row) :
    Calls Tryd.prog 28 #[.int .i64 c, .slice a len cap] w fun r w' => r = .returned (.agg #[.int .i64 (colV c row).k, .int .i64 (colV c row).n, .string (colV c row).s]) ∧ Cls w w' := by
  obtain ⟨hl, hle, hmax, _, hh⟩ := h
  unfold maxLen at hmax
  by_cases h1 : c < 0
  · have HU : Hid (colV c row = Vl.z) := Lib.hid (by simp [colV, h1])
    have b1 : decide (c < 0) = true := by simpa using h1
    clear h1 hh hl
    rw [HU.out]
    go_enter Tryd.func28, Tryd.ntmps28
    go_wp2_with fail
    refine ret_ex rfl ?_
    simp [results, Tryd.results28, go_sem, Vl.z]
    refine Cls.of ?_
    repeat first | with_reducible exact Below.refl _ _ | with_reducible assumption | with_reducible refine Below.setCell ?_ (by first | omega | (simp; done) | (simp; omega)) _ | with_reducible refine Below.alloc ?_ (by first | omega | (simp; done) | (simp; omega)) _ | with_reducible refine Below.drew ?_ | with_reducible refine Ext.on _ ?_ (by first | omega | (simp; done) | (simp; omega))
  · have b1 : decide (c < 0) = false := by simpa using h1
    by_cases h2 : (len : Int) ≤ c
    · have HU : Hid (colV c row = Vl.z) := Lib.hid (by unfold colV; rw [if_neg h1, if_pos (by omega)])
      have b2 : decide ((len : Int) ≤ c) = true := by simpa using h2
      clear h1 h2 hh hl
      rw [HU.out]
      go_enter Tryd.func28, Tryd.ntmps28
      go_wp2_with fail
      refine ret_ex rfl ?_
      simp [results, Tryd.results28, go_sem, Vl.z]
      refine Cls.of ?_
      repeat first | with_reducible exact Below.refl _ _ | with_reducible assumption | with_reducible refine Below.setCell ?_ (by first | omega | (simp; done) | (simp; omega)) _ | with_reducible refine Below.alloc ?_ (by first | omega | (simp; done) | (simp; omega)) _ | with_reducible refine Below.drew ?_ | with_reducible refine Ext.on _ ?_ (by first | omega | (simp; done) | (simp; omega))
    · obtain ⟨n, rfl⟩ : ∃ n : Nat, c = (n : Int) := ⟨c.toNat, by omega⟩
      have hn : n < len := by omega
      have HU : Hid (colV (n : Int) row = row.getD n Vl.z) := Lib.hid (by unfold colV; rw [if_neg h1, if_neg (by omega)]; rfl)
      have b2 : decide ((len : Int) ≤ (n : Int)) = false := by simpa using h2
      obtain ⟨b, off, rfl, hb, hc⟩ := hh.resolve_left (by omega)
      obtain ⟨q0, q1, q2⟩ := hc n hn
      have hb1 : b < w.heap.size + 1 := by omega
      clear h1 h2 hc hl hh
      rw [HU.out]
      go_enter Tryd.func28, Tryd.ntmps28
      go_wp2_with fail
      refine ret_ex rfl ?_
      simp [results, Tryd.results28, go_sem]
      refine Cls.of ?_
      repeat first | with_reducible exact Below.refl _ _ | with_reducible assumption | with_reducible refine Below.setCell ?_ (by first | omega | (simp; done) | (simp; omega)) _ | with_reducible refine Below.alloc ?_ (by first | omega | (simp; done) | (simp; omega)) _ | with_reducible refine Below.drew ?_ | with_reducible refine Ext.on _ ?_ (by first | omega | (simp; done) | (simp; omega))
set_option maxHeartbeats 1000000 in
theorem literal_calls (e : Ex) (a : Option Addr) (len cap : Nat) (w : World) (h : e.op = 1 ∨ e.op = 2 ∨ e.op = 3 ∨ e.op = 4) :
    Calls Tryd.prog 29 #[.agg #[.int .i64 e.op, .int .i64 e.ty, .int .i64 e.num, .string e.text, .int .i64 e.col, .slice a len cap]] w fun r w' => r = .returned (.agg #[.int .i64 (litV e.op e.num e.text).k, .int .i64 (litV e.op e.num e.text).n, .string (litV e.op e.num e.text).s]) ∧ Cls w w' := by
  rcases h with h | h | h | h
  all_goals
    rw [h]
    go_enter Tryd.func29, Tryd.ntmps29
    go_wp2_with fail
    refine ret_ex rfl ?_
    simp [results, Tryd.results29, go_sem]
    refine ⟨⟨rfl, rfl, rfl⟩, Cls.of ?_⟩
    repeat first | with_reducible exact Below.refl _ _ | with_reducible assumption | with_reducible refine Below.setCell ?_ (by first | omega | (simp; done) | (simp; omega)) _ | with_reducible refine Below.alloc ?_ (by first | omega | (simp; done) | (simp; omega)) _ | with_reducible refine Below.drew ?_ | with_reducible refine Ext.on _ ?_ (by first | omega | (simp; done) | (simp; omega))
/-- What Eval gives for e, whatever the row and the world. -/
def EvalOf (e : Ex) : Prop := ∀ (a : Option Addr) (len cap : Nat) (ok : Nat → Prop) (ra : Option Addr) (rlen rcap : Nat) (row : List Vl) (w : World), Kids w ok a len cap e.kids → e.fine → RowIs w ra rlen rcap row → OpsTab w →
    Calls Tryd.prog 12 #[.agg #[.int .i64 e.op, .int .i64 e.ty, .int .i64 e.num, .string e.text, .int .i64 e.col, .slice a len cap], .slice ra rlen rcap] w fun r w' => r = .returned (.agg #[.int .i64 (evalE e row).k, .int .i64 (evalE e row).n, .string (evalE e row).s]) ∧ Cls w w'
end Go.Proofs.YtonlmhehddbhoaaDoor
set_option linter.unusedVariables false
namespace Go.Proofs.YtonlmhehddbhoaaDoor
open Go Go.RowKit
set_option maxHeartbeats 2000000 in
theorem choose_calls (l : List Ex) (ih : ∀ k ∈ l, EvalOf k) (a : Option Addr) (cap : Nat) (ok : Nat → Prop) (ra : Option Addr) (rlen rcap : Nat) (row : List Vl) (w : World) (hk : Kids w ok a 3 cap l) (hr : RowIs w ra rlen rcap row) (ht : OpsTab w) :
    Calls Tryd.prog 30 #[.slice a 3 cap, .slice ra rlen rcap] w fun r w' => r = .returned (.agg #[.int .i64 (if trV (evalE (l.getD 0 Ex.z) row) = 1 then evalE (l.getD 1 Ex.z) row else evalE (l.getD 2 Ex.z) row).k, .int .i64 (if trV (evalE (l.getD 0 Ex.z) row) = 1 then evalE (l.getD 1 Ex.z) row else evalE (l.getD 2 Ex.z) row).n, .string (if trV (evalE (l.getD 0 Ex.z) row) = 1 then evalE (l.getD 1 Ex.z) row else evalE (l.getD 2 Ex.z) row).s]) ∧ Cls w w' := by
  have hlen := hk.len_eq
  have hle := hk.le
  have hmax := hk.max
  unfold maxLen at hmax
  obtain ⟨a0, len0, cap0, ⟨b, off, rfl, hb, hok, p0, p1, p2, p3, p4, p5⟩, f0, k0⟩ := hk.at_ (i := 0) (by omega)
  obtain ⟨a1, len1, cap1, ⟨_, _, e1, _, _, q0, q1, q2, q3, q4, q5⟩, f1, k1⟩ := hk.at_ (i := 1) (by omega)
  obtain ⟨a2, len2, cap2, ⟨_, _, e2, _, _, r0, r1, r2, r3, r4, r5⟩, f2, k2⟩ := hk.at_ (i := 2) (by omega)
  cases e1
  cases e2
  have C0 : Hid (∀ W, Below w.heap.size w W → Calls Tryd.prog 12 #[.agg #[.int .i64 (l.getD 0 Ex.z).op, .int .i64 (l.getD 0 Ex.z).ty, .int .i64 (l.getD 0 Ex.z).num, .string (l.getD 0 Ex.z).text, .int .i64 (l.getD 0 Ex.z).col, .slice a0 len0 cap0], .slice ra rlen rcap] W fun r w' => r = .returned (.agg #[.int .i64 (evalE (l.getD 0 Ex.z) row).k, .int .i64 (evalE (l.getD 0 Ex.z) row).n, .string (evalE (l.getD 0 Ex.z) row).s]) ∧ Cls W w') := Lib.hid (fun W hW => ih _ (getD_mem (by omega)) a0 len0 cap0 ok ra rlen rcap row W (k0.later hW) f0 (hr.later hW) (ht.later hW))
  have C1 : Hid (∀ W, Below w.heap.size w W → Calls Tryd.prog 12 #[.agg #[.int .i64 (l.getD 1 Ex.z).op, .int .i64 (l.getD 1 Ex.z).ty, .int .i64 (l.getD 1 Ex.z).num, .string (l.getD 1 Ex.z).text, .int .i64 (l.getD 1 Ex.z).col, .slice a1 len1 cap1], .slice ra rlen rcap] W fun r w' => r = .returned (.agg #[.int .i64 (evalE (l.getD 1 Ex.z) row).k, .int .i64 (evalE (l.getD 1 Ex.z) row).n, .string (evalE (l.getD 1 Ex.z) row).s]) ∧ Cls W w') := Lib.hid (fun W hW => ih _ (getD_mem (by omega)) a1 len1 cap1 ok ra rlen rcap row W (k1.later hW) f1 (hr.later hW) (ht.later hW))
  have C2 : Hid (∀ W, Below w.heap.size w W → Calls Tryd.prog 12 #[.agg #[.int .i64 (l.getD 2 Ex.z).op, .int .i64 (l.getD 2 Ex.z).ty, .int .i64 (l.getD 2 Ex.z).num, .string (l.getD 2 Ex.z).text, .int .i64 (l.getD 2 Ex.z).col, .slice a2 len2 cap2], .slice ra rlen rcap] W fun r w' => r = .returned (.agg #[.int .i64 (evalE (l.getD 2 Ex.z) row).k, .int .i64 (evalE (l.getD 2 Ex.z) row).n, .string (evalE (l.getD 2 Ex.z) row).s]) ∧ Cls W w') := Lib.hid (fun W hW => ih _ (getD_mem (by omega)) a2 len2 cap2 ok ra rlen rcap row W (k2.later hW) f2 (hr.later hW) (ht.later hW))
  simp only [Nat.zero_mul, Nat.add_zero, Nat.one_mul, Nat.reduceMul, Nat.add_assoc, Nat.reduceAdd] at p0 p1 p2 p3 p4 p5 q0 q1 q2 q3 q4 q5 r0 r1 r2 r3 r4 r5
  have hb1 : b < w.heap.size + 1 := by omega
  clear hk hr ht k0 k1 k2 f0 f1 f2 ih hlen
  generalize evalE (l.getD 0 Ex.z) row = v0 at C0 ⊢
  generalize evalE (l.getD 1 Ex.z) row = v1 at C1 ⊢
  generalize evalE (l.getD 2 Ex.z) row = v2 at C2 ⊢
  generalize l.getD 0 Ex.z = e0 at *
  generalize l.getD 1 Ex.z = e1 at *
  generalize l.getD 2 Ex.z = e2 at *
  have bT : ∃ t : Bool, (trV v0 == 1) = t ∧ (if trV v0 = 1 then v1 else v2) = bif t then v1 else v2 := ⟨trV v0 == 1, rfl, by
    by_cases h : trV v0 = 1
    · rw [if_pos h, h]; rfl
    · have h2 : (trV v0 == 1) = false := by simpa using h
      rw [if_neg h, h2]; rfl⟩
  obtain ⟨t, bT, hT⟩ := bT
  rw [hT]
  clear hT
  cases t
  all_goals
    simp only [cond_true, cond_false]
    go_enter Tryd.func30, Tryd.ntmps30
    go_wp2_with (first | (go_at_call 12; first | ((with_reducible refine (C0.out _ ?_).mono ?_); (· (repeat first | with_reducible exact Below.refl _ _ | with_reducible assumption | with_reducible refine Below.setCell ?_ (by first | omega | (simp; done) | (simp; omega)) _ | with_reducible refine Below.alloc ?_ (by first | omega | (simp; done) | (simp; omega)) _ | with_reducible refine Below.drew ?_ | with_reducible refine Ext.on _ ?_ (by first | omega | (simp; done) | (simp; omega)))); rintro r _ ⟨rfl, y0, rfl⟩; obtain ⟨l1, l2, l3, l4, l5⟩ := y0.lts (b := b) (by simp; omega); obtain ⟨m1, m2, m3, m4, m5⟩ := y0.lts (b := w.heap.size) (by simp)) | ((with_reducible refine (C1.out _ ?_).mono ?_); (· (repeat first | with_reducible exact Below.refl _ _ | with_reducible assumption | with_reducible refine Below.setCell ?_ (by first | omega | (simp; done) | (simp; omega)) _ | with_reducible refine Below.alloc ?_ (by first | omega | (simp; done) | (simp; omega)) _ | with_reducible refine Below.drew ?_ | with_reducible refine Ext.on _ ?_ (by first | omega | (simp; done) | (simp; omega)))); rintro r _ ⟨rfl, y1, rfl⟩; obtain ⟨u1, u2, u3, u4, u5⟩ := y1.lts o1) | ((with_reducible refine (C2.out _ ?_).mono ?_); (· (repeat first | with_reducible exact Below.refl _ _ | with_reducible assumption | with_reducible refine Below.setCell ?_ (by first | omega | (simp; done) | (simp; omega)) _ | with_reducible refine Below.alloc ?_ (by first | omega | (simp; done) | (simp; omega)) _ | with_reducible refine Below.drew ?_ | with_reducible refine Ext.on _ ?_ (by first | omega | (simp; done) | (simp; omega)))); rintro r _ ⟨rfl, y1, rfl⟩; obtain ⟨u1, u2, u3, u4, u5⟩ := y1.lts o1)) | (go_at_call 63; first | ((with_reducible refine (Cls.call (isTrue_calls _ _)).mono ?_); rintro r _ ⟨rfl, z0, rfl⟩; obtain ⟨n1, n2, n3, n4, n5⟩ := z0.lts l1; obtain ⟨o1, o2, o3, o4, o5⟩ := z0.lts m1) | ((with_reducible refine (isTrue_calls _ _).mono ?_); rintro r _ ⟨rfl, z0, rfl⟩; obtain ⟨n1, n2, n3, n4, n5⟩ := z0.lts l1; obtain ⟨o1, o2, o3, o4, o5⟩ := z0.lts m1)))
    have c0 : (y1.val.cell? ⟨w.heap.size, 0, none⟩).isSome = true := by rw [y1.cell 0 o1, z0.cell 0 m1, y0.cell 0 (by simp)]; simp [go_sem]
    have c1 : (y1.val.cell? ⟨w.heap.size, 1, none⟩).isSome = true := by rw [y1.cell 1 o1, z0.cell 1 m1, y0.cell 1 (by simp)]; simp [go_sem]
    have c2 : (y1.val.cell? ⟨w.heap.size, 2, none⟩).isSome = true := by rw [y1.cell 2 o1, z0.cell 2 m1, y0.cell 2 (by simp)]; simp [go_sem]
    refine ret_ex rfl ?_
    simp [results, Tryd.results30, go_sem, c0, c1, c2]
    refine Cls.of ?_
    repeat first | with_reducible exact Below.refl _ _ | with_reducible assumption | with_reducible refine Below.setCell ?_ (by first | omega | (simp; done) | (simp; omega)) _ | with_reducible refine Below.alloc ?_ (by first | omega | (simp; done) | (simp; omega)) _ | with_reducible refine Below.drew ?_ | with_reducible refine Ext.on _ ?_ (by first | omega | (simp; done) | (simp; omega))
set_option maxHeartbeats 2000000 in
theorem member_calls (l : List Ex) (ih : ∀ k ∈ l, EvalOf k) (a : Option Addr) (len cap : Nat) (ok : Nat → Prop) (ra : Option Addr) (rlen rcap : Nat) (row : List Vl) (w : World) (hk : Kids w ok a len cap l) (hlen2 : 2 ≤ len) (hr : RowIs w ra rlen rcap row) (ht : OpsTab w) :
    Calls Tryd.prog 31 #[.slice a len cap, .slice ra rlen rcap] w fun r w' => r = .returned (.agg #[.int .i64 (inV (evalE (l.getD 0 Ex.z) row) ((l.drop 1).map (evalE · row)) (tvV 0)).k, .int .i64 (inV (evalE (l.getD 0 Ex.z) row) ((l.drop 1).map (evalE · row)) (tvV 0)).n, .string (inV (evalE (l.getD 0 Ex.z) row) ((l.drop 1).map (evalE · row)) (tvV 0)).s]) ∧ Cls w w' := by
  have hlen := hk.len_eq
  have hle := hk.le
  have hmax := hk.max
  unfold maxLen at hmax
  obtain ⟨a0, len0, cap0, ⟨b, off, rfl, hb, hok, p0, p1, p2, p3, p4, p5⟩, f0, k0⟩ := hk.at_ (i := 0) (by omega)
  have C0 : Hid (∀ W, Below w.heap.size w W → Calls Tryd.prog 12 #[.agg #[.int .i64 (l.getD 0 Ex.z).op, .int .i64 (l.getD 0 Ex.z).ty, .int .i64 (l.getD 0 Ex.z).num, .string (l.getD 0 Ex.z).text, .int .i64 (l.getD 0 Ex.z).col, .slice a0 len0 cap0], .slice ra rlen rcap] W fun r w' => r = .returned (.agg #[.int .i64 (evalE (l.getD 0 Ex.z) row).k, .int .i64 (evalE (l.getD 0 Ex.z) row).n, .string (evalE (l.getD 0 Ex.z) row).s]) ∧ Cls W w') := Lib.hid (fun W hW => ih _ (getD_mem (by omega)) a0 len0 cap0 ok ra rlen rcap row W (k0.later hW) f0 (hr.later hW) (ht.later hW))
  simp only [Nat.zero_mul, Nat.add_zero] at p0 p1 p2 p3 p4 p5
  have hb1 : b < w.heap.size + 1 := by omega
  have HL := Lib.hid hlen
  have HR := Lib.hid hr
  have HK := Lib.hid hk
  have HI := Lib.hid ih
  have HT := Lib.hid ht
  clear hk hr ht k0 f0 ih hlen
  generalize evalE (l.getD 0 Ex.z) row = v0 at C0 ⊢
  generalize l.getD 0 Ex.z = e0 at *
  obtain ⟨X, hX⟩ : ∃ X, X = inV v0 ((l.drop 1).map (evalE · row)) (tvV 0) := ⟨_, rfl⟩
  rw [← hX]
  have HX := Lib.hid hX
  clear hX
  go_enter Tryd.func31, Tryd.ntmps31
  go_wp2_with (first | (go_at_call 12; ((with_reducible refine (C0.out _ ?_).mono ?_); (· (repeat first | with_reducible exact Below.refl _ _ | with_reducible assumption | with_reducible refine Below.setCell ?_ (by first | omega | (simp; done) | (simp; omega)) _ | with_reducible refine Below.alloc ?_ (by first | omega | (simp; done) | (simp; omega)) _ | with_reducible refine Below.drew ?_ | with_reducible refine Ext.on _ ?_ (by first | omega | (simp; done) | (simp; omega)))); rintro r _ ⟨rfl, y0, rfl⟩; skip)) | (go_at_call 64; first | ((with_reducible refine (Cls.call (Bool_calls _ _)).mono ?_); rintro r _ ⟨rfl, z0, rfl⟩) | ((with_reducible refine (Bool_calls _ _).mono ?_); rintro r _ ⟨rfl, z0, rfl⟩)))
  have wr0 := (y0.lts (b := w.heap.size) (by simp)).1
  have wb0 := (y0.lts (b := b) (by simp; omega)).1
  have wr1 := (z0.lts (b := w.heap.size) (by simp; omega)).1
  have wb1 := (z0.lts (b := b) (by simp; omega)).1
  have wy1 := (z0.lts (b := y0.val.heap.size) (by simp)).1
  go_loopw [18] (fun i wr => ∃ (j : Nat) (acc : Vl), Cls z0.val wr ∧ j ≤ len - 1 ∧ i = .int .i64 j ∧ z0.val.heap.size < wr.heap.size ∧ (wr.cell? ⟨z0.val.heap.size, 0, none⟩ = some (.int .i64 acc.k) ∧ wr.cell? ⟨z0.val.heap.size, 1, none⟩ = some (.int .i64 acc.n) ∧ wr.cell? ⟨z0.val.heap.size, 2, none⟩ = some (.string acc.s)) ∧ (wr.frozen? ⟨z0.val.heap.size, 0, none⟩ = false ∧ wr.frozen? ⟨z0.val.heap.size, 1, none⟩ = false ∧ wr.frozen? ⟨z0.val.heap.size, 2, none⟩ = false) ∧ X = inV v0 ((l.drop (j + 1)).map (evalE · row)) acc) (fun i _ => len - 1 - (intOf i).toNat)
  case atStart =>
    refine ⟨0, tvV 0, Cls.of ((Below.refl _ _).alloc (Nat.le_refl _) _), Nat.zero_le _, rfl, by simp, ⟨?_, ?_, ?_⟩, ⟨?_, ?_, ?_⟩, HX.out⟩
    all_goals simp [go_sem, tvV]
  case round =>
    obtain ⟨j, acc, ⟨x, rfl⟩, hj, rfl, hF, ⟨c0, c1, c2⟩, ⟨g0, g1, g2⟩, he⟩ := hrel
    have HE := Lib.hid he
    clear he
    have xr := (x.lts wr1).1
    have xb := (x.lts wb1).1
    have xy := (x.lts wy1).1
    by_cases hlt : j < len - 1
    · obtain ⟨aj, lenj, capj, ⟨b', off', ea, _, _, q0, q1, q2, q3, q4, q5⟩, fj, kj⟩ := HK.out.at_ (i := j + 1) (by omega)
      cases ea
      have eo : ∀ m, off + (j + 1) * 6 + m = off + 6 + j * 6 + m := fun m => by omega
      have eo0 : off + (j + 1) * 6 = off + 6 + j * 6 := by omega
      rw [eo] at q1 q2 q3 q4 q5
      rw [eo0] at q0
      have C1 : Hid (∀ W, Below w.heap.size w W → Calls Tryd.prog 12 #[.agg #[.int .i64 (l.getD (j + 1) Ex.z).op, .int .i64 (l.getD (j + 1) Ex.z).ty, .int .i64 (l.getD (j + 1) Ex.z).num, .string (l.getD (j + 1) Ex.z).text, .int .i64 (l.getD (j + 1) Ex.z).col, .slice aj lenj capj], .slice ra rlen rcap] W fun r w' => r = .returned (.agg #[.int .i64 (evalE (l.getD (j + 1) Ex.z) row).k, .int .i64 (evalE (l.getD (j + 1) Ex.z) row).n, .string (evalE (l.getD (j + 1) Ex.z) row).s]) ∧ Cls W w') := Lib.hid (fun W hW => HI.out _ (getD_mem (by have := HL.out; omega)) aj lenj capj ok ra rlen rcap row W (kj.later hW) fj (HR.out.later hW) (HT.out.later hW))
      have HD : Hid (inV v0 ((l.drop (j + 1)).map (evalE · row)) acc = inV v0 ((l.drop (j + 1 + 1)).map (evalE · row)) (orV acc v0 (evalE (l.getD (j + 1) Ex.z) row))) := Lib.hid (by rw [dropE (j := j + 1) (by have := HL.out; omega)]; rfl)
      clear eo eo0 fj kj
      generalize evalE (l.getD (j + 1) Ex.z) row = vj at C1 HD
      generalize l.getD (j + 1) Ex.z = ej at *
      go_wp2_with fail
      refine wp_region_ext_tail 7 (by kernel_rfl) (by kernel_rfl) ?_
      simp only [List.take_succ_cons, List.take_zero, List.drop_succ_cons, List.drop_zero]
      repeat (go_big_quiet_step (first | (go_at_call 12; exact Cls.call (C1.out _ (by repeat first | with_reducible exact Below.refl _ _ | with_reducible assumption | with_reducible refine Below.setCell ?_ (by first | omega | (simp; done) | (simp; omega)) _ | with_reducible refine Below.alloc ?_ (by first | omega | (simp; done) | (simp; omega)) _ | with_reducible refine Below.drew ?_ | with_reducible refine Ext.on _ ?_ (by first | omega | (simp; done) | (simp; omega))))) | (go_at_call 66; exact Cls.call (Equal_calls _ _ _ _ _ _ _)) | (go_at_call 65; exact Cls.call (Or_calls _ _ _ _ _ _ _))))
      refine wpQuiet_nil ?_
      rintro _ ⟨x2, rfl⟩
      have xF := (x2.lts (b := z0.val.heap.size) (by simp; omega)).1
      have k0 : (x2.val.cell? ⟨z0.val.heap.size, 0, none⟩).isSome = true := by rw [x2.cell 0 (by simp; omega)]; simp [go_sem, hF, c0]
      have h0 : x2.val.frozen? ⟨z0.val.heap.size, 0, none⟩ = false := by rw [x2.frozen 0 (by simp; omega)]; simp [go_sem, hF, g0]
      have k1 : (x2.val.cell? ⟨z0.val.heap.size, 1, none⟩).isSome = true := by rw [x2.cell 1 (by simp; omega)]; simp [go_sem, hF, c1]
      have h1 : x2.val.frozen? ⟨z0.val.heap.size, 1, none⟩ = false := by rw [x2.frozen 1 (by simp; omega)]; simp [go_sem, hF, g1]
      have k2 : (x2.val.cell? ⟨z0.val.heap.size, 2, none⟩).isSome = true := by rw [x2.cell 2 (by simp; omega)]; simp [go_sem, hF, c2]
      have h2 : x2.val.frozen? ⟨z0.val.heap.size, 2, none⟩ = false := by rw [x2.frozen 2 (by simp; omega)]; simp [go_sem, hF, g2]
      go_wp2_with fail
      go_roundw
      case rel =>
        refine ⟨j + 1, orV acc v0 vj, Cls.of ?_, by omega, by go_num, ?_, ⟨?_, ?_, ?_⟩, ⟨?_, ?_, ?_⟩, by rw [HE.out, HD.out]⟩
        · repeat first | with_reducible exact Below.refl _ _ | with_reducible assumption | with_reducible refine Below.setCell ?_ (by first | omega | (simp; done) | (simp; omega)) _ | with_reducible refine Below.alloc ?_ (by first | omega | (simp; done) | (simp; omega)) _ | with_reducible refine Below.drew ?_ | with_reducible refine Ext.on _ ?_ (by first | omega | (simp; done) | (simp; omega))
        all_goals simp [go_sem, orV, tvV, eqV, trV, xF, k0, k1, k2, h0, h1, h2]
      case measure => simp [intOf]; omega
    · have HT2 : Hid (X = acc) := Lib.hid (by rw [HE.out, List.drop_of_length_le (by have := HL.out; omega)]; rfl)
      have s0 : (x.val.cell? ⟨w.heap.size, 0, none⟩).isSome = true := by rw [x.cell 0 wr1, z0.cell 0 (by simp; omega)]; simp [go_sem, wr0]
      have s1 : (x.val.cell? ⟨w.heap.size, 1, none⟩).isSome = true := by rw [x.cell 1 wr1, z0.cell 1 (by simp; omega)]; simp [go_sem, wr0]
      have s2 : (x.val.cell? ⟨w.heap.size, 2, none⟩).isSome = true := by rw [x.cell 2 wr1, z0.cell 2 (by simp; omega)]; simp [go_sem, wr0]
      go_wp2_with fail
      refine ret_ex rfl ?_
      rw [HT2.out]
      simp [results, Tryd.results31, go_sem, s0, s1, s2]
      refine Cls.of ?_
      repeat first | with_reducible exact Below.refl _ _ | with_reducible assumption | with_reducible refine Below.setCell ?_ (by first | omega | (simp; done) | (simp; omega)) _ | with_reducible refine Below.alloc ?_ (by first | omega | (simp; done) | (simp; omega)) _ | with_reducible refine Below.drew ?_ | with_reducible refine Ext.on _ ?_ (by first | omega | (simp; done) | (simp; omega))
end Go.Proofs.YtonlmhehddbhoaaDoor
