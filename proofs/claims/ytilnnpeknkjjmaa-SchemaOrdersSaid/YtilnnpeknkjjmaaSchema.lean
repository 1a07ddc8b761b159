/-
  A schema as an argument: its tables, their columns, keys and checks.
-/
import Derived.Test.YtilnnpeknkjjmaaTab
set_option linter.unusedVariables false
namespace Go.Proofs.Ytilnnpeknkjjmaa
open Go Go.RowKit Go.ChangeShapes Go.WideShapes Go.Joins Go.Deep
theorem SlAt.congr {w : World} {k : Nat} {s : Sl} {c c' : Nat → List Value} (h : SlAt w k s c) (he : ∀ i, i < s.len → c i = c' i) : SlAt w k s c' := by
  refine ⟨h.1, h.2.1, h.2.2.1, fun i hi => ?_⟩
  obtain ⟨b, off, ha, hlt, hc⟩ := h.2.2.2 i hi
  exact ⟨b, off, ha, hlt, fun j hj => by rw [← he i hi]; exact hc j hj⟩
/-- A column. -/
structure Cl where
  name : ByteArray
  ty : Int
  null : Bool
instance : Inhabited Cl := ⟨⟨ByteArray.empty, 0, false⟩⟩
instance : Inhabited Sl := ⟨Sl.z⟩
def Cl.cells (c : Cl) : List Value := [.string c.name, .int .i64 c.ty, .bool c.null]
/-- A table, with the slices that hold its parts. -/
structure Tb where
  name : ByteArray
  cs : Sl
  col : Nat → Cl
  ps : Sl
  prim : Nat → Int
  us : Sl
  uq : Nat → Sl
  uqn : Nat → Nat → Int
  fs : Sl
  fk : Nat → Sl
  fkn : Nat → Nat → Int
  fkt : Nat → ByteArray
  ks : Sl
  checks : List Ex
instance : Inhabited Tb := ⟨⟨ByteArray.empty, Sl.z, fun _ => default, Sl.z, fun _ => 0, Sl.z, fun _ => Sl.z, fun _ _ => 0, Sl.z, fun _ => Sl.z, fun _ _ => 0, fun _ => ByteArray.empty, Sl.z, []⟩⟩
def Tb.cells (t : Tb) : List Value := [.string t.name, t.cs.v, t.ps.v, t.us.v, t.fs.v, t.ks.v]
def intC (f : Nat → Int) (i : Nat) : List Value := [.int .i64 (f i)]
structure TbAt (w : World) (t : Tb) : Prop where
  name : t.name.size ≤ maxLen
  cols : SlAt w 3 t.cs fun i => (t.col i).cells
  colf : ∀ i, i < t.cs.len → (t.col i).name.size ≤ maxLen ∧ (Lit.int .i64 (t.col i).ty).wf = true
  prim : SlAt w 1 t.ps (intC t.prim)
  uqs : SlAt w 1 t.us fun i => [(t.uq i).v]
  uqn : ∀ i, i < t.us.len → SlAt w 1 (t.uq i) (intC (t.uqn i))
  fks : SlAt w 2 t.fs fun i => [(t.fk i).v, .string (t.fkt i)]
  fkn : ∀ i, i < t.fs.len → SlAt w 1 (t.fk i) (intC (t.fkn i)) ∧ (t.fkt i).size ≤ maxLen
  kids : Kids w (fun _ => True) t.ks.a t.ks.len t.ks.cap t.checks
theorem TbAt.later {w w' : World} {t : Tb} (h : TbAt w t) (hb : Below w.heap.size w w') : TbAt w' t :=
  ⟨h.name, h.cols.later hb, h.colf, h.prim.later hb, h.uqs.later hb, fun i hi => (h.uqn i hi).later hb, h.fks.later hb, fun i hi => ⟨(h.fkn i hi).1.later hb, (h.fkn i hi).2⟩, h.kids.later hb⟩
/-- The tables of a schema. -/
def TabsAt (w : World) (s : Sl) (tb : Nat → Tb) : Prop := SlAt w 6 s (fun i => (tb i).cells) ∧ ∀ i, i < s.len → TbAt w (tb i)
theorem TabsAt.later {w w' : World} {s : Sl} {tb : Nat → Tb} (h : TabsAt w s tb) (hb : Below w.heap.size w w') : TabsAt w' s tb := ⟨h.1.later hb, fun i hi => (h.2 i hi).later hb⟩
theorem cellsT : Try.prog.cellsOf 36 = 6 := by kernel_rfl
theorem cellsC : Try.prog.cellsOf 76 = 3 := by kernel_rfl
theorem cellsF : Try.prog.cellsOf 41 = 2 := by kernel_rfl
theorem cellsN : Try.prog.cellsOf 3 = 1 := by kernel_rfl
theorem cellsL : Try.prog.cellsOf 26 = 1 := by kernel_rfl
theorem list3' {α : Type} {l : List α} (h : l.length = 3) : ∃ a b c, l = [a, b, c] := by
  match l, h with
  | [a, b, c], _ => exact ⟨a, b, c, rfl⟩
theorem list2' {α : Type} {l : List α} (h : l.length = 2) : ∃ a b, l = [a, b] := by
  match l, h with
  | [a, b], _ => exact ⟨a, b, rfl⟩
theorem list1' {α : Type} {l : List α} (h : l.length = 1) : ∃ a, l = [a] := by
  match l, h with
  | [a], _ => exact ⟨a, rfl⟩
section
variable {H : Type} {enc : TypeId × Value → H} {w : World} {base : Nat} {spare : Nat → Bool} {held : Bool}
theorem one_struct3 {P : Program} {t : TypeId} {f0 f1 f2 : Field} {fuel : Nat} {cs : List Value} {x : DataW H × List MemPlace} (ht : P.underlying t = some (.struct #[f0, f1, f2])) (hone : oneCellFields P #[f0, f1, f2] = true) (hC : P.cellsOf t = 3)
    (h : DataW.trod enc P w base spare held fuel t cs = some x) : ∃ c0 c1 c2 y0 y1 y2 n, fuel = n + 1 ∧ cs = [c0, c1, c2] ∧ DataW.trod enc P w base spare held n f0.type [c0] = some y0 ∧ DataW.trod enc P w base spare held n f1.type [c1] = some y1 ∧ DataW.trod enc P w base spare held n f2.type [c2] = some y2 := by
  obtain ⟨xs, n, hn, _, hl, hlen, hg⟩ := DataW.trod_struct ht h
  obtain ⟨c0, c1, c2, rfl⟩ := list3' (hl.trans hC)
  obtain ⟨o0, k0⟩ := hone_of hone 0 f0 rfl
  obtain ⟨o1, k1⟩ := hone_of hone 1 f1 rfl
  obtain ⟨o2, k2⟩ := hone_of hone 2 f2 rfl
  match xs, hlen with
  | [y0, y1, y2], _ => exact ⟨c0, c1, c2, y0, y1, y2, n, hn, rfl, by simpa [o0, k0] using hg 0 f0 rfl, by simpa [o1, k1] using hg 1 f1 rfl, by simpa [o2, k2] using hg 2 f2 rfl⟩
theorem one_struct2 {P : Program} {t : TypeId} {f0 f1 : Field} {fuel : Nat} {cs : List Value} {x : DataW H × List MemPlace} (ht : P.underlying t = some (.struct #[f0, f1])) (hone : oneCellFields P #[f0, f1] = true) (hC : P.cellsOf t = 2)
    (h : DataW.trod enc P w base spare held fuel t cs = some x) : ∃ c0 c1 y0 y1 n, fuel = n + 1 ∧ cs = [c0, c1] ∧ DataW.trod enc P w base spare held n f0.type [c0] = some y0 ∧ DataW.trod enc P w base spare held n f1.type [c1] = some y1 := by
  obtain ⟨xs, n, hn, _, hl, hlen, hg⟩ := DataW.trod_struct ht h
  obtain ⟨c0, c1, rfl⟩ := list2' (hl.trans hC)
  obtain ⟨o0, k0⟩ := hone_of hone 0 f0 rfl
  obtain ⟨o1, k1⟩ := hone_of hone 1 f1 rfl
  match xs, hlen with
  | [y0, y1], _ => exact ⟨c0, c1, y0, y1, n, hn, rfl, by simpa [o0, k0] using hg 0 f0 rfl, by simpa [o1, k1] using hg 1 f1 rfl⟩
theorem open_ints {fuel : Nat} {cs : List Value} {x : DataW H × List MemPlace} (h : DataW.trod enc Try.prog w base spare held fuel 26 cs = some x) : ∃ (s : Sl) (f : Nat → Int), cs = [s.v] ∧ SlAt w 1 s (intC f) := by
  obtain ⟨s, cell, rfl, hs, hc⟩ := open_sl Try.underlying26 cellsN (by omega) h
  have hi : ∀ i, i < s.len → ∃ n : Int, cell i = [.int .i64 n] := fun i hi => by
    obtain ⟨_, m, y, _, ht⟩ := hc i hi
    obtain ⟨n, e, _, _⟩ := DataW.trod_int Try.underlying3 ht
    exact ⟨n, e⟩
  obtain ⟨f, hf⟩ := Go.Deep.choose_lt hi
  exact ⟨s, f, rfl, hs.congr hf⟩
theorem open_cols {fuel : Nat} {cs : List Value} {x : DataW H × List MemPlace} (h : DataW.trod enc Try.prog w base spare held fuel 31 cs = some x) : ∃ (s : Sl) (f : Nat → Cl), cs = [s.v] ∧ SlAt w 3 s (fun i => (f i).cells) ∧ ∀ i, i < s.len → (f i).name.size ≤ maxLen ∧ (Lit.int .i64 (f i).ty).wf = true := by
  obtain ⟨s, cell, rfl, hs, hc⟩ := open_sl Try.underlying31 cellsC (by omega) h
  have hi : ∀ i, i < s.len → ∃ c : Cl, cell i = c.cells ∧ c.name.size ≤ maxLen ∧ (Lit.int .i64 c.ty).wf = true := fun i hi => by
    obtain ⟨_, m, y, _, ht⟩ := hc i hi
    obtain ⟨c0, c1, c2, y0, y1, y2, n, _, e, t0, t1, t2⟩ := one_struct3 Try.underlying76 (by kernel_rfl) cellsC ht
    obtain ⟨k0, e0, _, f0⟩ := DataW.trod_string Try.underlying9 t0
    obtain ⟨k1, e1, _, f1⟩ := DataW.trod_int Try.underlying3 t1
    obtain ⟨k2, e2, _⟩ := DataW.trod_bool Try.underlying4 t2
    simp only [List.cons.injEq, and_true] at e0 e1 e2
    subst e0 e1 e2
    exact ⟨⟨k0, k1, k2⟩, e, f0, f1⟩
  obtain ⟨f, hf⟩ := Go.Deep.choose_lt hi
  exact ⟨s, f, rfl, hs.congr fun i hi => (hf i hi).1, fun i hi => (hf i hi).2⟩
theorem open_uqs {fuel : Nat} {cs : List Value} {x : DataW H × List MemPlace} (h : DataW.trod enc Try.prog w base spare held fuel 32 cs = some x) : ∃ (s : Sl) (f : Nat → Sl) (g : Nat → Nat → Int), cs = [s.v] ∧ SlAt w 1 s (fun i => [(f i).v]) ∧ ∀ i, i < s.len → SlAt w 1 (f i) (intC (g i)) := by
  obtain ⟨s, cell, rfl, hs, hc⟩ := open_sl Try.underlying32 cellsL (by omega) h
  have hi : ∀ i, i < s.len → ∃ (u : Sl) (g : Nat → Int), cell i = [u.v] ∧ SlAt w 1 u (intC g) := fun i hi => by
    obtain ⟨_, m, y, _, ht⟩ := hc i hi
    exact open_ints ht
  obtain ⟨f, hf⟩ := Go.Deep.choose_lt hi
  obtain ⟨g, hg⟩ := Go.Deep.choose_lt hf
  exact ⟨s, f, g, rfl, hs.congr fun i hi => (hg i hi).1, fun i hi => (hg i hi).2⟩
theorem open_fks {fuel : Nat} {cs : List Value} {x : DataW H × List MemPlace} (h : DataW.trod enc Try.prog w base spare held fuel 33 cs = some x) : ∃ (s : Sl) (f : Nat → Sl) (g : Nat → Nat → Int) (t : Nat → ByteArray), cs = [s.v] ∧ SlAt w 2 s (fun i => [(f i).v, .string (t i)]) ∧ ∀ i, i < s.len → SlAt w 1 (f i) (intC (g i)) ∧ (t i).size ≤ maxLen := by
  obtain ⟨s, cell, rfl, hs, hc⟩ := open_sl Try.underlying33 cellsF (by omega) h
  have hi : ∀ i, i < s.len → ∃ (u : Sl) (g : Nat → Int) (t : ByteArray), cell i = [u.v, .string t] ∧ SlAt w 1 u (intC g) ∧ t.size ≤ maxLen := fun i hi => by
    obtain ⟨_, m, y, _, ht⟩ := hc i hi
    obtain ⟨c0, c1, y0, y1, n, _, e, t0, t1⟩ := one_struct2 Try.underlying41 (by kernel_rfl) cellsF ht
    obtain ⟨u, g, e0, hu⟩ := open_ints t0
    obtain ⟨k1, e1, _, f1⟩ := DataW.trod_string Try.underlying9 t1
    simp only [List.cons.injEq, and_true] at e0 e1
    subst e0 e1
    exact ⟨u, g, k1, e, hu, f1⟩
  obtain ⟨f, hf⟩ := Go.Deep.choose_lt hi
  obtain ⟨g, hg⟩ := Go.Deep.choose_lt hf
  obtain ⟨t, ht⟩ := Go.Deep.choose_lt hg
  exact ⟨s, f, g, t, rfl, hs.congr fun i hi => (ht i hi).1, fun i hi => (ht i hi).2⟩
theorem open_tabs {fuel : Nat} {cs : List Value} {x : DataW H × List MemPlace} (h : DataW.trod enc Try.prog w base spare held fuel 22 cs = some x) : ∃ (s : Sl) (tb : Nat → Tb), cs = [s.v] ∧ TabsAt w s tb := by
  obtain ⟨s, cell, rfl, hs, hc⟩ := open_sl Try.underlying22 cellsT (by omega) h
  have hi : ∀ i, i < s.len → ∃ t : Tb, cell i = t.cells ∧ TbAt w t := fun i hi => by
    obtain ⟨_, m, y, _, ht⟩ := hc i hi
    obtain ⟨c0, c1, c2, c3, c4, c5, y0, y1, y2, y3, y4, y5, n, _, e, t0, t1, t2, t3, t4, t5⟩ := trod_struct6 Try.underlying36 (by kernel_rfl) cellsT ht
    obtain ⟨k0, e0, _, f0⟩ := DataW.trod_string Try.underlying9 t0
    obtain ⟨s1, g1, e1, h1, h1'⟩ := open_cols t1
    obtain ⟨s2, g2, e2, h2⟩ := open_ints t2
    obtain ⟨s3, g3, q3, e3, h3, h3'⟩ := open_uqs t3
    obtain ⟨s4, g4, q4, r4, e4, h4, h4'⟩ := open_fks t4
    obtain ⟨a5, l5, p5, l, e5, h5⟩ := open_kids _ _ _ t5
    simp only [List.cons.injEq, and_true] at e0 e1 e2 e3 e4 e5
    subst e0 e1 e2 e3 e4 e5
    exact ⟨⟨k0, s1, g1, s2, g2, s3, g3, q3, s4, g4, q4, r4, ⟨a5, l5, p5⟩, l⟩, e, ⟨f0, h1, h1', h2, h3, h3', h4, h4', h5⟩⟩
  obtain ⟨tb, ht⟩ := Go.Deep.choose_lt hi
  exact ⟨s, tb, rfl, hs.congr fun i hi => (ht i hi).1, fun i hi => (ht i hi).2⟩
end
end Go.Proofs.Ytilnnpeknkjjmaa
