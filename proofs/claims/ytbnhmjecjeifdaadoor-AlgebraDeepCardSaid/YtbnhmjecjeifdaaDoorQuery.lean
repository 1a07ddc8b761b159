/-
  A query as an argument: its fields, its lists, and its Kids, as a tree.
-/
import Derived.Test.YtbnhmjecjeifdaaDoorTab
import Derived.Test.YtbnhmjecjeifdaaDoorVRows
set_option linter.unusedVariables false
namespace Go.Proofs.YtbnhmjecjeifdaaDoor
open Go Go.RowKit Go.ChangeShapes Go.WideShapes Go.Joins Go.Deep
theorem SlAt.congr {w : World} {k : Nat} {s : Sl} {c c' : Nat → List Value} (h : SlAt w k s c) (he : ∀ i, i < s.len → c i = c' i) : SlAt w k s c' := by
  refine ⟨h.1, h.2.1, h.2.2.1, fun i hi => ?_⟩
  obtain ⟨b, off, ha, hlt, hc⟩ := h.2.2.2 i hi
  exact ⟨b, off, ha, hlt, fun j hj => by rw [← he i hi]; exact hc j hj⟩
instance : Inhabited Sl := ⟨Sl.z⟩
instance : Inhabited Vl := ⟨Vl.z⟩
def Vl.cells (v : Vl) : List Value := [.int .i64 v.k, .int .i64 v.n, .string v.s]
def intC (f : Nat → Int) (i : Nat) : List Value := [.int .i64 (f i)]
/-- An aggregate. -/
structure Ag where
  fn : Int
  arg : Ex
  ka : Sl
instance : Inhabited Ag := ⟨⟨0, Ex.z, Sl.z⟩⟩
def Ag.cells (g : Ag) : List Value := [.int .i64 g.fn, .int .i64 g.arg.op, .int .i64 g.arg.ty, .int .i64 g.arg.num, .string g.arg.text, .int .i64 g.arg.col, g.ka.v]
def AgAt (w : World) (g : Ag) : Prop := g.arg.fine ∧ Kids w (fun _ => True) g.ka.a g.ka.len g.ka.cap g.arg.kids
/-- A query without its Kids. -/
structure Qr where
  op : Int
  table : ByteArray
  kind : Int
  all : Bool
  cond : Ex
  ck : Sl
  es : Sl
  exprs : List Ex
  gs : Sl
  agg : Nat → Ag
  ts : Sl
  typ : Nat → Int
  rs : Sl
  row : Nat → Sl
  val : Nat → Nat → Vl
instance : Inhabited Qr := ⟨⟨0, ByteArray.empty, 0, false, Ex.z, Sl.z, Sl.z, [], Sl.z, fun _ => default, Sl.z, fun _ => 0, Sl.z, fun _ => Sl.z, fun _ _ => Vl.z⟩⟩
/-- A query: without its Kids, and these. -/
inductive Qy where
  | nil
  | mk (p : Qr) (ks : Sl) (kid : Nat → Qy)
instance : Inhabited Qy := ⟨.nil⟩
namespace Qy
def p : Qy → Qr | .mk p _ _ => p | .nil => default
def ks : Qy → Sl | .mk _ k _ => k | .nil => Sl.z
def kid : Qy → Nat → Qy | .mk _ _ f => f | .nil => fun _ => .nil
def cells (q : Qy) : List Value := [.int .i64 q.p.op, .string q.p.table, .int .i64 q.p.kind, .bool q.p.all, .int .i64 q.p.cond.op, .int .i64 q.p.cond.ty, .int .i64 q.p.cond.num, .string q.p.cond.text, .int .i64 q.p.cond.col, q.p.ck.v, q.p.es.v, q.p.gs.v, q.p.ts.v, q.p.rs.v, q.ks.v]
end Qy
structure QrAt (w : World) (p : Qr) : Prop where
  table : p.table.size ≤ maxLen
  condf : p.cond.fine
  condk : Kids w (fun _ => True) p.ck.a p.ck.len p.ck.cap p.cond.kids
  exprs : Kids w (fun _ => True) p.es.a p.es.len p.es.cap p.exprs
  aggs : SlAt w 7 p.gs fun i => (p.agg i).cells
  agg : ∀ i, i < p.gs.len → AgAt w (p.agg i)
  types : SlAt w 1 p.ts (intC p.typ)
  rows : SlAt w 1 p.rs fun i => [(p.row i).v]
  vals : ∀ i, i < p.rs.len → SlAt w 3 (p.row i) fun j => (p.val i j).cells
theorem QrAt.later {w w' : World} {p : Qr} (h : QrAt w p) (hb : Below w.heap.size w w') : QrAt w' p :=
  ⟨h.table, h.condf, h.condk.later hb, h.exprs.later hb, h.aggs.later hb, fun i hi => ⟨(h.agg i hi).1, (h.agg i hi).2.later hb⟩, h.types.later hb, h.rows.later hb, fun i hi => (h.vals i hi).later hb⟩
inductive QAt (w : World) : Qy → Prop
  | mk (p : Qr) (ks : Sl) (kid : Nat → Qy) (hp : QrAt w p) (hk : SlAt w 15 ks fun i => (kid i).cells) (h : ∀ i, i < ks.len → QAt w (kid i)) : QAt w (.mk p ks kid)
theorem QAt.later {w w' : World} {q : Qy} (h : QAt w q) (hb : Below w.heap.size w w') : QAt w' q := by
  induction h with
  | mk p ks kid hp hk h ih => exact .mk p ks kid (hp.later hb) (hk.later hb) ih
theorem QAt.part {w : World} {q : Qy} (h : QAt w q) : QrAt w q.p := by cases h; assumption
theorem QAt.slice {w : World} {q : Qy} (h : QAt w q) : SlAt w 15 q.ks fun i => (q.kid i).cells := by cases h; assumption
theorem QAt.kid {w : World} {q : Qy} (h : QAt w q) : ∀ i, i < q.ks.len → QAt w (q.kid i) := by cases h; assumption
/-- What is so for a query if it is so for its Kids. -/
theorem QAt.ind {w : World} {M : Qy → Prop} (hm : ∀ q, QAt w q → (∀ i, i < q.ks.len → M (q.kid i)) → M q) {q : Qy} (h : QAt w q) : M q := by
  induction h with
  | mk p ks kid hp hk h ih => exact hm _ (.mk p ks kid hp hk h) ih
theorem k_int : Tryd.prog.cellsOf 3 = 1 := by kernel_rfl
theorem k_string : Tryd.prog.cellsOf 9 = 1 := by kernel_rfl
theorem k_bool : Tryd.prog.cellsOf 4 = 1 := by kernel_rfl
theorem k_Expr : Tryd.prog.cellsOf 24 = 6 := by kernel_rfl
theorem k_lExpr : Tryd.prog.cellsOf 22 = 1 := by kernel_rfl
theorem k_lAgg : Tryd.prog.cellsOf 59 = 1 := by kernel_rfl
theorem k_lint : Tryd.prog.cellsOf 31 = 1 := by kernel_rfl
theorem k_llValue : Tryd.prog.cellsOf 60 = 1 := by kernel_rfl
theorem k_lQuery : Tryd.prog.cellsOf 61 = 1 := by kernel_rfl
theorem k_Query : Tryd.prog.cellsOf 63 = 15 := by kernel_rfl
theorem k_Agg : Tryd.prog.cellsOf 69 = 7 := by kernel_rfl
theorem k_Value : Tryd.prog.cellsOf 26 = 3 := by kernel_rfl
theorem k_lValue : Tryd.prog.cellsOf 100 = 1 := by kernel_rfl
theorem list15 {α : Type} {l : List α} (h : l.length = 15) : ∃ c0 c1 c2 c3 c4 c5 c6 c7 c8 c9 c10 c11 c12 c13 c14, l = [c0, c1, c2, c3, c4, c5, c6, c7, c8, c9, c10, c11, c12, c13, c14] := by
  match l, h with
  | [c0, c1, c2, c3, c4, c5, c6, c7, c8, c9, c10, c11, c12, c13, c14], _ => exact ⟨c0, c1, c2, c3, c4, c5, c6, c7, c8, c9, c10, c11, c12, c13, c14, rfl⟩
theorem list7 {α : Type} {l : List α} (h : l.length = 7) : ∃ c0 c1 c2 c3 c4 c5 c6, l = [c0, c1, c2, c3, c4, c5, c6] := by
  match l, h with
  | [c0, c1, c2, c3, c4, c5, c6], _ => exact ⟨c0, c1, c2, c3, c4, c5, c6, rfl⟩
theorem list3q {α : Type} {l : List α} (h : l.length = 3) : ∃ c0 c1 c2, l = [c0, c1, c2] := by
  match l, h with
  | [c0, c1, c2], _ => exact ⟨c0, c1, c2, rfl⟩
section
variable {H : Type} {enc : TypeId × Value → H} {w : World} {base : Nat} {spare : Nat → Bool} {held : Bool}
set_option maxRecDepth 100000 in
theorem trodQ {fuel : Nat} {cs : List Value} {x : DataW H × List MemPlace} (h : DataW.trod enc Tryd.prog w base spare held fuel 63 cs = some x) :
    ∃ c0 c1 c2 c3 c4 c5 c6 c7 c8 c9 c10 c11 c12 c13 c14 y0 y1 y2 y3 y4 y5 y6 y7 y8 y9 n, fuel = n + 1 ∧ cs = [c0, c1, c2, c3, c4, c5, c6, c7, c8, c9, c10, c11, c12, c13, c14] ∧ DataW.trod enc Tryd.prog w base spare held n 3 [c0] = some y0 ∧ DataW.trod enc Tryd.prog w base spare held n 9 [c1] = some y1 ∧ DataW.trod enc Tryd.prog w base spare held n 3 [c2] = some y2 ∧ DataW.trod enc Tryd.prog w base spare held n 4 [c3] = some y3 ∧ DataW.trod enc Tryd.prog w base spare held n 24 [c4, c5, c6, c7, c8, c9] = some y4 ∧ DataW.trod enc Tryd.prog w base spare held n 22 [c10] = some y5 ∧ DataW.trod enc Tryd.prog w base spare held n 59 [c11] = some y6 ∧ DataW.trod enc Tryd.prog w base spare held n 31 [c12] = some y7 ∧ DataW.trod enc Tryd.prog w base spare held n 60 [c13] = some y8 ∧ DataW.trod enc Tryd.prog w base spare held n 61 [c14] = some y9 := by
  obtain ⟨xs, n, hn, _, hl, hlen, hg⟩ := DataW.trod_struct Tryd.underlying63 h
  obtain ⟨c0, c1, c2, c3, c4, c5, c6, c7, c8, c9, c10, c11, c12, c13, c14, rfl⟩ := list15 (hl.trans k_Query)
  match xs, hlen with
  | [y0, y1, y2, y3, y4, y5, y6, y7, y8, y9], _ =>
    exact ⟨c0, c1, c2, c3, c4, c5, c6, c7, c8, c9, c10, c11, c12, c13, c14, y0, y1, y2, y3, y4, y5, y6, y7, y8, y9, n, hn, rfl, by simpa [k_int, k_string, k_bool, k_Expr, k_lExpr, k_lAgg, k_lint, k_llValue, k_lQuery] using hg 0 _ rfl, by simpa [k_int, k_string, k_bool, k_Expr, k_lExpr, k_lAgg, k_lint, k_llValue, k_lQuery] using hg 1 _ rfl, by simpa [k_int, k_string, k_bool, k_Expr, k_lExpr, k_lAgg, k_lint, k_llValue, k_lQuery] using hg 2 _ rfl, by simpa [k_int, k_string, k_bool, k_Expr, k_lExpr, k_lAgg, k_lint, k_llValue, k_lQuery] using hg 3 _ rfl, by simpa [k_int, k_string, k_bool, k_Expr, k_lExpr, k_lAgg, k_lint, k_llValue, k_lQuery] using hg 4 _ rfl, by simpa [k_int, k_string, k_bool, k_Expr, k_lExpr, k_lAgg, k_lint, k_llValue, k_lQuery] using hg 5 _ rfl, by simpa [k_int, k_string, k_bool, k_Expr, k_lExpr, k_lAgg, k_lint, k_llValue, k_lQuery] using hg 6 _ rfl, by simpa [k_int, k_string, k_bool, k_Expr, k_lExpr, k_lAgg, k_lint, k_llValue, k_lQuery] using hg 7 _ rfl, by simpa [k_int, k_string, k_bool, k_Expr, k_lExpr, k_lAgg, k_lint, k_llValue, k_lQuery] using hg 8 _ rfl, by simpa [k_int, k_string, k_bool, k_Expr, k_lExpr, k_lAgg, k_lint, k_llValue, k_lQuery] using hg 9 _ rfl⟩
set_option maxRecDepth 100000 in
theorem trodG {fuel : Nat} {cs : List Value} {x : DataW H × List MemPlace} (h : DataW.trod enc Tryd.prog w base spare held fuel 69 cs = some x) :
    ∃ c0 c1 c2 c3 c4 c5 c6 y0 y1 n, fuel = n + 1 ∧ cs = [c0, c1, c2, c3, c4, c5, c6] ∧ DataW.trod enc Tryd.prog w base spare held n 3 [c0] = some y0 ∧ DataW.trod enc Tryd.prog w base spare held n 24 [c1, c2, c3, c4, c5, c6] = some y1 := by
  obtain ⟨xs, n, hn, _, hl, hlen, hg⟩ := DataW.trod_struct Tryd.underlying69 h
  obtain ⟨c0, c1, c2, c3, c4, c5, c6, rfl⟩ := list7 (hl.trans k_Agg)
  match xs, hlen with
  | [y0, y1], _ =>
    exact ⟨c0, c1, c2, c3, c4, c5, c6, y0, y1, n, hn, rfl, by simpa [k_int, k_string, k_bool, k_Expr, k_lExpr, k_lAgg, k_lint, k_llValue, k_lQuery] using hg 0 _ rfl, by simpa [k_int, k_string, k_bool, k_Expr, k_lExpr, k_lAgg, k_lint, k_llValue, k_lQuery] using hg 1 _ rfl⟩
set_option maxRecDepth 100000 in
theorem trodV {fuel : Nat} {cs : List Value} {x : DataW H × List MemPlace} (h : DataW.trod enc Tryd.prog w base spare held fuel 26 cs = some x) : ∃ v : Vl, cs = v.cells := by
  obtain ⟨xs, n, hn, _, hl, hlen, hg⟩ := DataW.trod_struct Tryd.underlying26 h
  obtain ⟨c0, c1, c2, rfl⟩ := list3q (hl.trans k_Value)
  match xs, hlen with
  | [y0, y1, y2], _ =>
    have t0 : DataW.trod enc Tryd.prog w base spare held n 3 [c0] = some y0 := by simpa [k_int] using hg 0 _ rfl
    have t1 : DataW.trod enc Tryd.prog w base spare held n 2 [c1] = some y1 := by simpa [show Tryd.prog.cellsOf 2 = 1 by kernel_rfl] using hg 1 _ rfl
    have t2 : DataW.trod enc Tryd.prog w base spare held n 9 [c2] = some y2 := by simpa [k_string] using hg 2 _ rfl
    obtain ⟨k0, e0, _, f0⟩ := DataW.trod_int Tryd.underlying3 t0
    obtain ⟨k1, e1, _, f1⟩ := DataW.trod_int Tryd.underlying2 t1
    obtain ⟨k2, e2, _, f2⟩ := DataW.trod_string Tryd.underlying9 t2
    simp only [List.cons.injEq, and_true] at e0 e1 e2
    subst e0 e1 e2
    exact ⟨⟨k0, k1, k2⟩, rfl⟩
theorem open_intsQ {fuel : Nat} {cs : List Value} {x : DataW H × List MemPlace} (h : DataW.trod enc Tryd.prog w base spare held fuel 31 cs = some x) : ∃ (s : Sl) (f : Nat → Int), cs = [s.v] ∧ SlAt w 1 s (intC f) := by
  obtain ⟨s, cell, rfl, hs, hc⟩ := open_sl Tryd.underlying31 k_int (by omega) h
  have hi : ∀ i, i < s.len → ∃ n : Int, cell i = [.int .i64 n] := fun i hi => by
    obtain ⟨_, m, y, _, ht⟩ := hc i hi
    obtain ⟨n, e, _, _⟩ := DataW.trod_int Tryd.underlying3 ht
    exact ⟨n, e⟩
  obtain ⟨f, hf⟩ := Go.Deep.choose_lt hi
  exact ⟨s, f, rfl, hs.congr hf⟩
theorem open_valsQ {fuel : Nat} {cs : List Value} {x : DataW H × List MemPlace} (h : DataW.trod enc Tryd.prog w base spare held fuel 100 cs = some x) : ∃ (s : Sl) (f : Nat → Vl), cs = [s.v] ∧ SlAt w 3 s (fun i => (f i).cells) := by
  obtain ⟨s, cell, rfl, hs, hc⟩ := open_sl Tryd.underlying100 k_Value (by omega) h
  have hi : ∀ i, i < s.len → ∃ v : Vl, cell i = v.cells := fun i hi => by
    obtain ⟨_, m, y, _, ht⟩ := hc i hi
    exact trodV ht
  obtain ⟨f, hf⟩ := Go.Deep.choose_lt hi
  exact ⟨s, f, rfl, hs.congr hf⟩
theorem open_rowsQ {fuel : Nat} {cs : List Value} {x : DataW H × List MemPlace} (h : DataW.trod enc Tryd.prog w base spare held fuel 60 cs = some x) : ∃ (s : Sl) (r : Nat → Sl) (f : Nat → Nat → Vl), cs = [s.v] ∧ SlAt w 1 s (fun i => [(r i).v]) ∧ ∀ i, i < s.len → SlAt w 3 (r i) (fun j => (f i j).cells) := by
  obtain ⟨s, cell, rfl, hs, hc⟩ := open_sl Tryd.underlying60 k_lValue (by omega) h
  have hi : ∀ i, i < s.len → ∃ (u : Sl) (g : Nat → Vl), cell i = [u.v] ∧ SlAt w 3 u (fun j => (g j).cells) := fun i hi => by
    obtain ⟨_, m, y, _, ht⟩ := hc i hi
    exact open_valsQ ht
  obtain ⟨r, hr⟩ := Go.Deep.choose_lt hi
  obtain ⟨f, hf⟩ := Go.Deep.choose_lt hr
  exact ⟨s, r, f, rfl, hs.congr fun i hi => (hf i hi).1, fun i hi => (hf i hi).2⟩
theorem open_exQ {fuel : Nat} {c0 c1 c2 c3 c4 c5 : Value} {x : DataW H × List MemPlace} (h : DataW.trod enc Tryd.prog w base spare held fuel 24 [c0, c1, c2, c3, c4, c5] = some x) : ∃ (e : Ex) (s : Sl), c0 = .int .i64 e.op ∧ c1 = .int .i64 e.ty ∧ c2 = .int .i64 e.num ∧ c3 = .string e.text ∧ c4 = .int .i64 e.col ∧ c5 = s.v ∧ e.fine ∧ Kids w (fun _ => True) s.a s.len s.cap e.kids := by
  obtain ⟨d0, d1, d2, d3, d4, d5, y0, y1, y2, y3, y4, y5, m, hnm, hcs, t0, t1, t2, t3, t4, t5⟩ := trod_struct6 Tryd.underlying24 (by kernel_rfl) cellsEx h
  simp only [List.cons.injEq, and_true] at hcs
  obtain ⟨rfl, rfl, rfl, rfl, rfl, rfl⟩ := hcs
  obtain ⟨k0, e0, _, f0⟩ := DataW.trod_int Tryd.underlying3 t0
  obtain ⟨k1, e1, _, f1⟩ := DataW.trod_int Tryd.underlying3 t1
  obtain ⟨k2, e2, _, f2⟩ := DataW.trod_int Tryd.underlying2 t2
  obtain ⟨k3, e3, _, f3⟩ := DataW.trod_string Tryd.underlying9 t3
  obtain ⟨k4, e4, _, f4⟩ := DataW.trod_int Tryd.underlying3 t4
  obtain ⟨a', len', cap', l', e5, hk⟩ := open_kids _ _ _ t5
  simp only [List.cons.injEq, and_true] at e0 e1 e2 e3 e4 e5
  exact ⟨.mk k0 k1 k2 k3 k4 l', ⟨a', len', cap'⟩, e0, e1, e2, e3, e4, e5, ⟨f0, f1, f2, f3, f4⟩, hk⟩
theorem open_aggsQ {fuel : Nat} {cs : List Value} {x : DataW H × List MemPlace} (h : DataW.trod enc Tryd.prog w base spare held fuel 59 cs = some x) : ∃ (s : Sl) (f : Nat → Ag), cs = [s.v] ∧ SlAt w 7 s (fun i => (f i).cells) ∧ ∀ i, i < s.len → AgAt w (f i) := by
  obtain ⟨s, cell, rfl, hs, hc⟩ := open_sl Tryd.underlying59 k_Agg (by omega) h
  have hi : ∀ i, i < s.len → ∃ g : Ag, cell i = g.cells ∧ AgAt w g := fun i hi => by
    obtain ⟨_, m, y, _, ht⟩ := hc i hi
    obtain ⟨c0, c1, c2, c3, c4, c5, c6, y0, y1, n, _, e, t0, t1⟩ := trodG ht
    obtain ⟨k0, e0, _, f0⟩ := DataW.trod_int Tryd.underlying3 t0
    obtain ⟨ex, s1, rfl, rfl, rfl, rfl, rfl, rfl, hf, hk⟩ := open_exQ t1
    simp only [List.cons.injEq, and_true] at e0
    subst e0
    exact ⟨⟨k0, ex, s1⟩, e, hf, hk⟩
  obtain ⟨f, hf⟩ := Go.Deep.choose_lt hi
  exact ⟨s, f, rfl, hs.congr fun i hi => (hf i hi).1, fun i hi => (hf i hi).2⟩
theorem open_q : ∀ (fuel : Nat) (cs : List Value) (x : DataW H × List MemPlace), DataW.trod enc Tryd.prog w base spare held fuel 63 cs = some x → ∃ q : Qy, cs = q.cells ∧ QAt w q := by
  intro fuel
  induction fuel using Nat.strongRecOn with
  | _ fuel ih =>
    intro cs x h
    obtain ⟨c0, c1, c2, c3, c4, c5, c6, c7, c8, c9, c10, c11, c12, c13, c14, y0, y1, y2, y3, y4, y5, y6, y7, y8, y9, n, rfl, rfl, t0, t1, t2, t3, t4, t5, t6, t7, t8, t9⟩ := trodQ h
    obtain ⟨k0, e0, _, f0⟩ := DataW.trod_int Tryd.underlying3 t0
    obtain ⟨k1, e1, _, f1⟩ := DataW.trod_string Tryd.underlying9 t1
    obtain ⟨k2, e2, _, f2⟩ := DataW.trod_int Tryd.underlying3 t2
    obtain ⟨k3, e3, _⟩ := DataW.trod_bool Tryd.underlying4 t3
    obtain ⟨ex, s4, rfl, rfl, rfl, rfl, rfl, rfl, hf, hk⟩ := open_exQ t4
    obtain ⟨a5, l5, p5, l, e5, h5⟩ := open_kids _ _ _ t5
    obtain ⟨s6, g6, e6, h6, h6'⟩ := open_aggsQ t6
    obtain ⟨s7, g7, e7, h7⟩ := open_intsQ t7
    obtain ⟨s8, r8, g8, e8, h8, h8'⟩ := open_rowsQ t8
    obtain ⟨s9, cell, e9, h9, hc⟩ := open_sl Tryd.underlying61 k_Query (by omega) t9
    have hi : ∀ i, i < s9.len → ∃ q : Qy, cell i = q.cells ∧ QAt w q := fun i hi => by
      obtain ⟨_, m, y, hm, ht⟩ := hc i hi
      exact ih m (by omega) _ _ ht
    obtain ⟨kid, hkid⟩ := Go.Deep.choose_lt hi
    simp only [List.cons.injEq, and_true] at e0 e1 e2 e3 e5 e6 e7 e8 e9
    subst e0 e1 e2 e3 e5 e6 e7 e8 e9
    exact ⟨.mk ⟨k0, k1, k2, k3, ex, s4, ⟨a5, l5, p5⟩, l, s6, g6, s7, g7, s8, r8, g8⟩ s9 kid, rfl, .mk _ _ _ ⟨f1, hf, hk, h5, h6, h6', h7, h8, h8'⟩ (h9.congr fun i hi => (hkid i hi).1) fun i hi => (hkid i hi).2⟩
end
end Go.Proofs.YtbnhmjecjeifdaaDoor
