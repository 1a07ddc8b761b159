/-
  A schema as an argument: its tables, their columns, keys and checks. The table of operations, and what find, takes, column and literal give. What an expression's value is, and what the program's column and literal give. The parts of the program's Type: what an operation may have, the type of a column, and the type of an operation over its Kids; depth and size of any expression.
-/
import Derived.Test.YtpddkljedhghkaaDoorA08
import Derived.Test.YtpddkljedhghkaaDoorA05
import Derived.Laws.Entries
import Derived.Test.YtpddkljedhghkaaDoorA02
set_option linter.unusedVariables false
namespace Go.Proofs.YtpddkljedhghkaaDoor
open Go Go.RowKit Go.ChangeShapes Go.WideShapes Go.Joins Go.Deep
theorem SlAt.congr {w : World} {k : Nat} {s : Sl} {c c' : Nat → List Value} (h : SlAt w k s c) (he : ∀ i, i < s.len → c i = c' i) : SlAt w k s c' := by
  refine ⟨h.1, h.2.1, h.2.2.1, fun i hi => ?_⟩
  obtain ⟨b, off, ha, hlt, hc⟩ := h.2.2.2 i hi
  exact ⟨b, off, ha, hlt, fun j hj => by rw [← he i hi]; exact hc j hj⟩
/-- A column. -/
structure Cl where
  name : ByteArray
  ty : Int
  null : Bool
instance : Inhabited Cl := ⟨⟨ByteArray.empty, 0, false⟩⟩
instance : Inhabited Sl := ⟨Sl.z⟩
def Cl.cells (c : Cl) : List Value := [.string c.name, .int .i64 c.ty, .bool c.null]
/-- A table, with the slices that hold its parts. -/
structure Tb where
  name : ByteArray
  cs : Sl
  col : Nat → Cl
  ps : Sl
  prim : Nat → Int
  us : Sl
  uq : Nat → Sl
  uqn : Nat → Nat → Int
  fs : Sl
  fk : Nat → Sl
  fkn : Nat → Nat → Int
  fkt : Nat → ByteArray
  ks : Sl
  checks : List Ex
instance : Inhabited Tb := ⟨⟨ByteArray.empty, Sl.z, fun _ => default, Sl.z, fun _ => 0, Sl.z, fun _ => Sl.z, fun _ _ => 0, Sl.z, fun _ => Sl.z, fun _ _ => 0, fun _ => ByteArray.empty, Sl.z, []⟩⟩
def Tb.cells (t : Tb) : List Value := [.string t.name, t.cs.v, t.ps.v, t.us.v, t.fs.v, t.ks.v]
def intC (f : Nat → Int) (i : Nat) : List Value := [.int .i64 (f i)]
structure TbAt (w : World) (t : Tb) : Prop where
  name : t.name.size ≤ maxLen
  cols : SlAt w 3 t.cs fun i => (t.col i).cells
  colf : ∀ i, i < t.cs.len → (t.col i).name.size ≤ maxLen ∧ (Lit.int .i64 (t.col i).ty).wf = true
  prim : SlAt w 1 t.ps (intC t.prim)
  uqs : SlAt w 1 t.us fun i => [(t.uq i).v]
  uqn : ∀ i, i < t.us.len → SlAt w 1 (t.uq i) (intC (t.uqn i))
  fks : SlAt w 2 t.fs fun i => [(t.fk i).v, .string (t.fkt i)]
  fkn : ∀ i, i < t.fs.len → SlAt w 1 (t.fk i) (intC (t.fkn i)) ∧ (t.fkt i).size ≤ maxLen
  kids : Kids w (fun _ => True) t.ks.a t.ks.len t.ks.cap t.checks
theorem TbAt.later {w w' : World} {t : Tb} (h : TbAt w t) (hb : Below w.heap.size w w') : TbAt w' t :=
  ⟨h.name, h.cols.later hb, h.colf, h.prim.later hb, h.uqs.later hb, fun i hi => (h.uqn i hi).later hb, h.fks.later hb, fun i hi => ⟨(h.fkn i hi).1.later hb, (h.fkn i hi).2⟩, h.kids.later hb⟩
/-- The tables of a schema. -/
def TabsAt (w : World) (s : Sl) (tb : Nat → Tb) : Prop := SlAt w 6 s (fun i => (tb i).cells) ∧ ∀ i, i < s.len → TbAt w (tb i)
theorem TabsAt.later {w w' : World} {s : Sl} {tb : Nat → Tb} (h : TabsAt w s tb) (hb : Below w.heap.size w w') : TabsAt w' s tb := ⟨h.1.later hb, fun i hi => (h.2 i hi).later hb⟩
theorem list3' {α : Type} {l : List α} (h : l.length = 3) : ∃ a b c, l = [a, b, c] := by
  match l, h with
  | [a, b, c], _ => exact ⟨a, b, c, rfl⟩
section
variable {H : Type} {enc : TypeId × Value → H} {w : World} {base : Nat} {spare : Nat → Bool} {held : Bool}
theorem one_struct3 {P : Program} {t : TypeId} {f0 f1 f2 : Field} {fuel : Nat} {cs : List Value} {x : DataW H × List MemPlace} (ht : P.underlying t = some (.struct #[f0, f1, f2])) (hone : oneCellFields P #[f0, f1, f2] = true) (hC : P.cellsOf t = 3)
    (h : DataW.trod enc P w base spare held fuel t cs = some x) : ∃ c0 c1 c2 y0 y1 y2 n, fuel = n + 1 ∧ cs = [c0, c1, c2] ∧ DataW.trod enc P w base spare held n f0.type [c0] = some y0 ∧ DataW.trod enc P w base spare held n f1.type [c1] = some y1 ∧ DataW.trod enc P w base spare held n f2.type [c2] = some y2 := by
  obtain ⟨xs, n, hn, _, hl, hlen, hg⟩ := DataW.trod_struct ht h
  obtain ⟨c0, c1, c2, rfl⟩ := list3' (hl.trans hC)
  obtain ⟨o0, k0⟩ := hone_of hone 0 f0 rfl
  obtain ⟨o1, k1⟩ := hone_of hone 1 f1 rfl
  obtain ⟨o2, k2⟩ := hone_of hone 2 f2 rfl
  match xs, hlen with
  | [y0, y1, y2], _ => exact ⟨c0, c1, c2, y0, y1, y2, n, hn, rfl, by simpa [o0, k0] using hg 0 f0 rfl, by simpa [o1, k1] using hg 1 f1 rfl, by simpa [o2, k2] using hg 2 f2 rfl⟩
end
end Go.Proofs.YtpddkljedhghkaaDoor
set_option linter.unusedVariables false
namespace Go.Proofs.YtpddkljedhghkaaDoor
open Go Go.RowKit
/-- A row of the table: the word, what the operation has, and its types. -/
structure ORow where
  word : List UInt8
  has : Int
  first : Int
  others : Int
  gives : Int
def ORow.z : ORow := ⟨[], 0, 0, 0, 0⟩
def opsRows : List ORow := [⟨[], 0, 0, 0, 0⟩, ⟨[], 0, 0, 0, 0⟩, ⟨[], 1, 0, 0, 1⟩, ⟨[], 1, 0, 0, 2⟩, ⟨[], 2, 0, 0, 3⟩, ⟨[], 3, 0, 0, 0⟩, ⟨[97, 100, 100], 5, 1, 1, 1⟩, ⟨[115, 117, 98], 5, 1, 1, 1⟩, ⟨[109, 117, 108], 5, 1, 1, 1⟩, ⟨[100, 105, 118], 5, 1, 1, 1⟩, ⟨[109, 111, 100], 5, 1, 1, 1⟩, ⟨[110, 101, 103], 4, 1, 0, 1⟩, ⟨[99, 111, 110, 99, 97, 116], 5, 3, 3, 3⟩, ⟨[108, 101, 110, 103, 116, 104], 4, 3, 0, 1⟩, ⟨[101, 113], 5, (-1), (-1), 2⟩, ⟨[110, 101], 5, (-1), (-1), 2⟩, ⟨[108, 116], 5, (-1), (-1), 2⟩, ⟨[108, 101], 5, (-1), (-1), 2⟩, ⟨[103, 116], 5, (-1), (-1), 2⟩, ⟨[103, 101], 5, (-1), (-1), 2⟩, ⟨[115, 97, 109, 101], 5, (-1), (-1), 2⟩, ⟨[105, 115, 110, 117, 108, 108], 4, (-1), 0, 2⟩, ⟨[97, 110, 100], 5, 2, 2, 2⟩, ⟨[111, 114], 5, 2, 2, 2⟩, ⟨[110, 111, 116], 4, 2, 0, 2⟩, ⟨[105, 115, 116, 114, 117, 101], 4, 2, 0, 2⟩, ⟨[99, 97, 115, 101], 6, 2, (-1), (-1)⟩, ⟨[99, 111, 97, 108, 101, 115, 99, 101], 5, (-1), (-1), (-1)⟩, ⟨[105, 110], 7, (-1), (-1), 2⟩]
def oRow (n : Nat) : ORow := opsRows.getD n ORow.z
/-- The table's variable holds these rows. -/
def OpsTab (w : World) : Prop := 0 < w.heap.size ∧ ∀ i, i < 29 → w.cell? ⟨0, i * 5, none⟩ = some (.string ⟨(oRow i).word.toArray⟩) ∧ w.cell? ⟨0, i * 5 + 1, none⟩ = some (.int .i64 (oRow i).has) ∧ w.cell? ⟨0, i * 5 + 2, none⟩ = some (.int .i64 (oRow i).first) ∧
  w.cell? ⟨0, i * 5 + 3, none⟩ = some (.int .i64 (oRow i).others) ∧ w.cell? ⟨0, i * 5 + 4, none⟩ = some (.int .i64 (oRow i).gives)
theorem OpsTab.later {w w' : World} (h : OpsTab w) (hb : Below w.heap.size w w') : OpsTab w' := by
  refine ⟨Nat.lt_of_lt_of_le h.1 hb.size, fun i hi => ?_⟩
  obtain ⟨h0, h1, h2, h3, h4⟩ := h.2 i hi
  have key : ∀ o, w'.cell? ⟨0, o, none⟩ = w.cell? ⟨0, o, none⟩ := fun o => hb.cell (p := ⟨0, o, none⟩) h.1
  exact ⟨by rw [key]; exact h0, by rw [key]; exact h1, by rw [key]; exact h2, by rw [key]; exact h3, by rw [key]; exact h4⟩
set_option maxHeartbeats 1000000 in
theorem find_yes (n : Nat) (w : World) (h1 : 1 ≤ n) (h2 : n < 29) (ht : OpsTab w) :
    Calls Tryd.prog 33 #[.int .i64 (n : Nat)] w fun r w' => r = .returned (.tuple #[.agg #[.string ⟨(oRow n).word.toArray⟩, .int .i64 (oRow n).has, .int .i64 (oRow n).first, .int .i64 (oRow n).others, .int .i64 (oRow n).gives], .bool true]) ∧ Cls w w' := by
  obtain ⟨hg, hc⟩ := ht
  obtain ⟨q0, q1, q2, q3, q4⟩ := hc n h2
  have b1 : decide ((n : Int) < 1) = false := by simp; omega
  have b2 : decide (29 ≤ (n : Int)) = false := by simp; omega
  clear hc
  go_enter Tryd.func33, Tryd.ntmps33
  go_wp2_with fail
  refine ret_ex rfl ?_
  simp [results, Tryd.results33, go_sem]
  refine Cls.of ?_
  repeat first | with_reducible exact Below.refl _ _ | with_reducible assumption | with_reducible refine Below.setCell ?_ (by first | omega | (simp; done) | (simp; omega)) _ | with_reducible refine Below.alloc ?_ (by first | omega | (simp; done) | (simp; omega)) _ | with_reducible refine Below.drew ?_ | with_reducible refine Ext.on _ ?_ (by first | omega | (simp; done) | (simp; omega))
set_option maxHeartbeats 1000000 in
theorem find_no (n : Int) (w : World) (h : n < 1 ∨ 29 ≤ n) :
    Calls Tryd.prog 33 #[.int .i64 n] w fun r w' => r = .returned (.tuple #[.agg #[.string ⟨#[]⟩, .int .i64 0, .int .i64 0, .int .i64 0, .int .i64 0], .bool false]) ∧ Cls w w' := by
  rcases h with h | h
  · have b1 : decide (n < 1) = true := by simp; omega
    clear h
    go_enter Tryd.func33, Tryd.ntmps33
    go_wp2_with fail
    refine ret_ex rfl ?_
    simp [results, Tryd.results33, go_sem]
    refine Cls.of ?_
    repeat first | with_reducible exact Below.refl _ _ | with_reducible assumption | with_reducible refine Below.setCell ?_ (by first | omega | (simp; done) | (simp; omega)) _ | with_reducible refine Below.alloc ?_ (by first | omega | (simp; done) | (simp; omega)) _ | with_reducible refine Below.drew ?_ | with_reducible refine Ext.on _ ?_ (by first | omega | (simp; done) | (simp; omega))
  · have b1 : decide (n < 1) = false := by simp; omega
    have b2 : decide (29 ≤ n) = true := by simp; omega
    clear h
    go_enter Tryd.func33, Tryd.ntmps33
    go_wp2_with fail
    refine ret_ex rfl ?_
    simp [results, Tryd.results33, go_sem]
    refine Cls.of ?_
    repeat first | with_reducible exact Below.refl _ _ | with_reducible assumption | with_reducible refine Below.setCell ?_ (by first | omega | (simp; done) | (simp; omega)) _ | with_reducible refine Below.alloc ?_ (by first | omega | (simp; done) | (simp; omega)) _ | with_reducible refine Below.drew ?_ | with_reducible refine Ext.on _ ?_ (by first | omega | (simp; done) | (simp; omega))
/-- May an operation that has this have so many Kids? -/
def takesH (has : Int) (m : Nat) : Bool := if has = 4 then decide (m = 1) else if has = 5 then decide (m = 2) else if has = 6 then decide (m = 3) else if has = 7 then decide (2 ≤ m) else decide (m = 0)
set_option maxHeartbeats 1000000 in
theorem takes_calls (r : ORow) (m : Nat) (w : World) (hr : r.has = 0 ∨ r.has = 1 ∨ r.has = 2 ∨ r.has = 3 ∨ r.has = 4 ∨ r.has = 5 ∨ r.has = 6 ∨ r.has = 7) :
    Calls Tryd.prog 34 #[.agg #[.string ⟨r.word.toArray⟩, .int .i64 r.has, .int .i64 r.first, .int .i64 r.others, .int .i64 r.gives], .int .i64 (m : Nat)] w fun e w' => e = .returned (.bool (takesH r.has m)) ∧ Cls w w' := by
  obtain ⟨word, has, first, others, gives⟩ := r
  simp only at hr ⊢
  rcases hr with rfl | rfl | rfl | rfl | rfl | rfl | rfl | rfl
  all_goals
    go_enter Tryd.func34, Tryd.ntmps34
    go_wp2_with fail
    go_ret
    refine ⟨ret_bool ?_, Cls.of ?_⟩
    · simp [takesH]; first | done | omega | (rw [Bool.eq_iff_iff]; simp; done) | (rw [Bool.eq_iff_iff]; simp; omega)
    · repeat first | with_reducible exact Below.refl _ _ | with_reducible assumption | with_reducible refine Below.setCell ?_ (by first | omega | (simp; done) | (simp; omega)) _ | with_reducible refine Below.alloc ?_ (by first | omega | (simp; done) | (simp; omega)) _ | with_reducible refine Below.drew ?_ | with_reducible refine Ext.on _ ?_ (by first | omega | (simp; done) | (simp; omega))
end Go.Proofs.YtpddkljedhghkaaDoor
set_option linter.unusedVariables false
namespace Go.Proofs.YtpddkljedhghkaaDoor
open Go Go.RowKit
def colV (c : Int) (row : List Vl) : Vl := if c < 0 then Vl.z else if (row.length : Int) ≤ c then Vl.z else row.getD c.toNat Vl.z
def litV (op num : Int) (text : ByteArray) : Vl := if op = 2 then ⟨1, num, ⟨#[]⟩⟩ else if op = 3 then ⟨2, num, ⟨#[]⟩⟩ else if op = 4 then ⟨3, 0, text⟩ else Vl.z
/-- One more alternative of a membership test. -/
def orV (acc v x : Vl) : Vl := tvV (orT (trV acc) (trV (tvV (eqV v x))))
def inV (v : Vl) : List Vl → Vl → Vl
  | [], acc => acc
  | x :: r, acc => inV v r (orV acc v x)
def oneB (op : Int) : Bool := op == 11 || op == 13 || op == 21 || op == 24 || op == 25
def takesO (op : Int) (m : Nat) : Bool := if op ≤ 5 then decide (m = 0) else if oneB op = true then decide (m = 1) else if op = 26 then decide (m = 3) else if op = 28 then decide (2 ≤ m) else decide (m = 2)
/-- The value of an operation whose Kids have these values. -/
def opV (op num : Int) (text : ByteArray) (col : Int) (row vs : List Vl) : Vl :=
  if op < 1 then Vl.z else if 29 ≤ op then Vl.z else if takesO op vs.length = false then Vl.z
  else if op = 5 then colV col row else if op ≤ 4 then litV op num text
  else if op = 26 then (if trV (vs.getD 0 Vl.z) = 1 then vs.getD 1 Vl.z else vs.getD 2 Vl.z)
  else if op = 28 then inV (vs.getD 0 Vl.z) (vs.drop 1) (tvV 0)
  else if oneB op = true then unV op (vs.getD 0 Vl.z) else biV op (vs.getD 0 Vl.z) (vs.getD 1 Vl.z)
mutual
def evalE : Ex → List Vl → Vl
  | .mk op _ num text col l, row => opV op num text col row (evalL l row)
def evalL : List Ex → List Vl → List Vl
  | [], _ => []
  | k :: r, row => evalE k row :: evalL r row
end
theorem evalL_map (l : List Ex) (row : List Vl) : evalL l row = l.map (evalE · row) := by
  induction l with
  | nil => rw [evalL]; rfl
  | cons k r ih => rw [evalL, ih]; rfl
theorem evalE_eq (e : Ex) (row : List Vl) : evalE e row = opV e.op e.num e.text e.col row (e.kids.map (evalE · row)) := by
  cases e; simp only [evalE, Ex.op, Ex.num, Ex.text, Ex.col, Ex.kids, evalL_map]
/-- The slice holds the row's values. -/
def RowIs (w : World) (a : Option Addr) (len cap : Nat) (row : List Vl) : Prop :=
  row.length = len ∧ len ≤ cap ∧ cap ≤ maxLen ∧ (∀ v ∈ row, v.s.size ≤ maxLen) ∧ (len = 0 ∨ ∃ b off, a = some ⟨b, off, none⟩ ∧ b < w.heap.size ∧ ∀ i, i < len →
    w.cell? ⟨b, off + i * 3, none⟩ = some (.int .i64 (row.getD i Vl.z).k) ∧ w.cell? ⟨b, off + i * 3 + 1, none⟩ = some (.int .i64 (row.getD i Vl.z).n) ∧ w.cell? ⟨b, off + i * 3 + 2, none⟩ = some (.string (row.getD i Vl.z).s))
theorem RowIs.later {w w' : World} {a : Option Addr} {len cap : Nat} {row : List Vl} (h : RowIs w a len cap row) (hb : Below w.heap.size w w') : RowIs w' a len cap row := by
  refine ⟨h.1, h.2.1, h.2.2.1, h.2.2.2.1, h.2.2.2.2.imp id ?_⟩
  rintro ⟨b, off, ha, hlt, hc⟩
  refine ⟨b, off, ha, Nat.lt_of_lt_of_le hlt hb.size, fun i hi => ?_⟩
  obtain ⟨h0, h1, h2⟩ := hc i hi
  exact ⟨by rw [hb.cell (p := ⟨b, _, none⟩) hlt]; exact h0, by rw [hb.cell (p := ⟨b, _, none⟩) hlt]; exact h1, by rw [hb.cell (p := ⟨b, _, none⟩) hlt]; exact h2⟩
set_option maxHeartbeats 1000000 in
theorem column_calls (c : Int) (a : Option Addr) (len cap : Nat) (row : List Vl) (w : World) (h : RowIs w a len cap row) :
    Calls Tryd.prog 35 #[.int .i64 c, .slice a len cap] w fun r w' => r = .returned (.agg #[.int .i64 (colV c row).k, .int .i64 (colV c row).n, .string (colV c row).s]) ∧ Cls w w' := by
  obtain ⟨hl, hle, hmax, _, hh⟩ := h
  unfold maxLen at hmax
  by_cases h1 : c < 0
  · have HU : Hid (colV c row = Vl.z) := Lib.hid (by simp [colV, h1])
    have b1 : decide (c < 0) = true := by simpa using h1
    clear h1 hh hl
    rw [HU.out]
    go_enter Tryd.func35, Tryd.ntmps35
    go_wp2_with fail
    refine ret_ex rfl ?_
    simp [results, Tryd.results35, go_sem, Vl.z]
    refine Cls.of ?_
    repeat first | with_reducible exact Below.refl _ _ | with_reducible assumption | with_reducible refine Below.setCell ?_ (by first | omega | (simp; done) | (simp; omega)) _ | with_reducible refine Below.alloc ?_ (by first | omega | (simp; done) | (simp; omega)) _ | with_reducible refine Below.drew ?_ | with_reducible refine Ext.on _ ?_ (by first | omega | (simp; done) | (simp; omega))
  · have b1 : decide (c < 0) = false := by simpa using h1
    by_cases h2 : (len : Int) ≤ c
    · have HU : Hid (colV c row = Vl.z) := Lib.hid (by unfold colV; rw [if_neg h1, if_pos (by omega)])
      have b2 : decide ((len : Int) ≤ c) = true := by simpa using h2
      clear h1 h2 hh hl
      rw [HU.out]
      go_enter Tryd.func35, Tryd.ntmps35
      go_wp2_with fail
      refine ret_ex rfl ?_
      simp [results, Tryd.results35, go_sem, Vl.z]
      refine Cls.of ?_
      repeat first | with_reducible exact Below.refl _ _ | with_reducible assumption | with_reducible refine Below.setCell ?_ (by first | omega | (simp; done) | (simp; omega)) _ | with_reducible refine Below.alloc ?_ (by first | omega | (simp; done) | (simp; omega)) _ | with_reducible refine Below.drew ?_ | with_reducible refine Ext.on _ ?_ (by first | omega | (simp; done) | (simp; omega))
    · obtain ⟨n, rfl⟩ : ∃ n : Nat, c = (n : Int) := ⟨c.toNat, by omega⟩
      have hn : n < len := by omega
      have HU : Hid (colV (n : Int) row = row.getD n Vl.z) := Lib.hid (by unfold colV; rw [if_neg h1, if_neg (by omega)]; rfl)
      have b2 : decide ((len : Int) ≤ (n : Int)) = false := by simpa using h2
      obtain ⟨b, off, rfl, hb, hc⟩ := hh.resolve_left (by omega)
      obtain ⟨q0, q1, q2⟩ := hc n hn
      have hb1 : b < w.heap.size + 1 := by omega
      clear h1 h2 hc hl hh
      rw [HU.out]
      go_enter Tryd.func35, Tryd.ntmps35
      go_wp2_with fail
      refine ret_ex rfl ?_
      simp [results, Tryd.results35, go_sem]
      refine Cls.of ?_
      repeat first | with_reducible exact Below.refl _ _ | with_reducible assumption | with_reducible refine Below.setCell ?_ (by first | omega | (simp; done) | (simp; omega)) _ | with_reducible refine Below.alloc ?_ (by first | omega | (simp; done) | (simp; omega)) _ | with_reducible refine Below.drew ?_ | with_reducible refine Ext.on _ ?_ (by first | omega | (simp; done) | (simp; omega))
set_option maxHeartbeats 1000000 in
theorem literal_calls (e : Ex) (a : Option Addr) (len cap : Nat) (w : World) (h : e.op = 1 ∨ e.op = 2 ∨ e.op = 3 ∨ e.op = 4) :
    Calls Tryd.prog 36 #[.agg #[.int .i64 e.op, .int .i64 e.ty, .int .i64 e.num, .string e.text, .int .i64 e.col, .slice a len cap]] w fun r w' => r = .returned (.agg #[.int .i64 (litV e.op e.num e.text).k, .int .i64 (litV e.op e.num e.text).n, .string (litV e.op e.num e.text).s]) ∧ Cls w w' := by
  rcases h with h | h | h | h
  all_goals
    rw [h]
    go_enter Tryd.func36, Tryd.ntmps36
    go_wp2_with fail
    refine ret_ex rfl ?_
    simp [results, Tryd.results36, go_sem]
    refine ⟨⟨rfl, rfl, rfl⟩, Cls.of ?_⟩
    repeat first | with_reducible exact Below.refl _ _ | with_reducible assumption | with_reducible refine Below.setCell ?_ (by first | omega | (simp; done) | (simp; omega)) _ | with_reducible refine Below.alloc ?_ (by first | omega | (simp; done) | (simp; omega)) _ | with_reducible refine Below.drew ?_ | with_reducible refine Ext.on _ ?_ (by first | omega | (simp; done) | (simp; omega))
/-- What Eval gives for e, whatever the row and the world. -/
def EvalOf (e : Ex) : Prop := ∀ (a : Option Addr) (len cap : Nat) (ok : Nat → Prop) (ra : Option Addr) (rlen rcap : Nat) (row : List Vl) (w : World), Kids w ok a len cap e.kids → e.fine → RowIs w ra rlen rcap row → OpsTab w →
    Calls Tryd.prog 13 #[.agg #[.int .i64 e.op, .int .i64 e.ty, .int .i64 e.num, .string e.text, .int .i64 e.col, .slice a len cap], .slice ra rlen rcap] w fun r w' => r = .returned (.agg #[.int .i64 (evalE e row).k, .int .i64 (evalE e row).n, .string (evalE e row).s]) ∧ Cls w w'
end Go.Proofs.YtpddkljedhghkaaDoor
set_option linter.unusedVariables false
namespace Go.Proofs.YtpddkljedhghkaaDoor
open Go Go.RowKit Go.Deep
/-- A list of numbers behind a slice. -/
def NumIn (w : World) (a : Option Addr) (len cap : Nat) (l : List Int) : Prop :=
  l.length = len ∧ len ≤ cap ∧ cap ≤ maxLen ∧ (len = 0 ∨ ∃ b off, a = some ⟨b, off, none⟩ ∧ b < w.heap.size ∧ ∀ i, i < len → w.cell? ⟨b, off + i, none⟩ = some (.int .i64 (l.getD i 0)))
theorem NumIn.later {w w' : World} {a : Option Addr} {len cap : Nat} {l : List Int} (h : NumIn w a len cap l) (hb : Below w.heap.size w w') : NumIn w' a len cap l := by
  refine ⟨h.1, h.2.1, h.2.2.1, h.2.2.2.imp id ?_⟩
  rintro ⟨b, off, ha, hlt, hc⟩
  refine ⟨b, off, ha, Nat.lt_of_lt_of_le hlt hb.size, fun i hi => ?_⟩
  rw [hb.cell (p := ⟨b, _, none⟩) hlt]
  exact hc i hi
def Perm (op ty num : Int) (text : ByteArray) : Prop := 5 ≤ op ∨ (op = 1 ∧ (ty = 1 ∨ ty = 2 ∨ ty = 3)) ∨ ((op = 2 ∨ op = 3 ∨ op = 4) ∧ vB (litV op num text).k (litV op num text).n (litV op num text).s = true)
end Go.Proofs.YtpddkljedhghkaaDoor
