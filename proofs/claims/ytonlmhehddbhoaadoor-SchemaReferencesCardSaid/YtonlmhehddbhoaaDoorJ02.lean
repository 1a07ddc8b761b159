/-
  Slices of structs as arguments: what their cells hold. A schema as an argument: its tables, their columns, keys and checks. The first table or column with a name: the program's search and the reference's. Find and Column, the program's and the reference's.
-/
import Derived.Test.YtonlmhehddbhoaaDoorJ01
import Derived.BigQuiet
set_option linter.unusedVariables false
namespace Go.Proofs.YtonlmhehddbhoaaDoor
open Go Go.RowKit Go.ChangeShapes Go.WideShapes Go.Joins Go.Deep
/-- A slice's three parts. -/
structure Sl where
  a : Option Addr
  len : Nat
  cap : Nat
def Sl.v (s : Sl) : Value := .slice s.a s.len s.cap
def Sl.z : Sl := ⟨none, 0, 0⟩
/-- The slice's elements are k cells each, and these are they. -/
def SlAt (w : World) (k : Nat) (s : Sl) (cell : Nat → List Value) : Prop :=
  s.len ≤ s.cap ∧ s.cap ≤ maxLen ∧ (s.a = none → s.len = 0 ∧ s.cap = 0) ∧ ∀ i, i < s.len → ∃ b off, s.a = some ⟨b, off, none⟩ ∧ b < w.heap.size ∧ ∀ j, j < k → w.cell? ⟨b, off + i * k + j, none⟩ = (cell i)[j]?
theorem SlAt.later {w w' : World} {k : Nat} {s : Sl} {cell : Nat → List Value} (h : SlAt w k s cell) (hb : Below w.heap.size w w') : SlAt w' k s cell := by
  refine ⟨h.1, h.2.1, h.2.2.1, fun i hi => ?_⟩
  obtain ⟨b, off, ha, hlt, hc⟩ := h.2.2.2 i hi
  exact ⟨b, off, ha, Nat.lt_of_lt_of_le hlt hb.size, fun j hj => by rw [hb.cell (p := ⟨b, _, none⟩) hlt]; exact hc j hj⟩
section
variable {H : Type} {enc : TypeId × Value → H} {w : World} {base : Nat} {spare : Nat → Bool} {held : Bool}
theorem open_sl {P : Program} {t e : TypeId} {k fuel : Nat} {cs : List Value} {x : DataW H × List MemPlace} (ht : P.underlying t = some (.slice e)) (hk : P.cellsOf e = k) (hk0 : 0 < k) (h : DataW.trod enc P w base spare held fuel t cs = some x) :
    ∃ (s : Sl) (cell : Nat → List Value), cs = [s.v] ∧ SlAt w k s cell ∧ ∀ i, i < s.len → (cell i).length = k ∧ ∃ m y, m < fuel ∧ DataW.trod enc P w base spare held m e (cell i) = some y := by
  rcases DataW.trod_slice ht h with ⟨rfl, _⟩ | ⟨a, len, cap, elems, rest, n, hn, rfl, rfl, hb, hl, hm, hlen, hel, _, _⟩
  · exact ⟨Sl.z, fun _ => [], rfl, ⟨Nat.le_refl _, Nat.zero_le _, fun _ => ⟨rfl, rfl⟩, fun i hi => absurd hi (by simp [Sl.z])⟩, fun i hi => absurd hi (by simp [Sl.z])⟩
  · have hi : ∀ i, i < len → ∃ cs' : List Value, cs'.length = k ∧ (∃ m y, m < fuel ∧ DataW.trod enc P w base spare held m e cs' = some y) ∧ ∀ j, j < k → w.cell? ((a.add (i * k)).add j) = cs'[j]? := fun i hil => by
      have h1 := hel i hil
      rw [List.getElem?_eq_getElem (by omega), hk] at h1
      obtain ⟨cs', hc, ht'⟩ := Option.bind_eq_some_iff.1 h1
      obtain ⟨_, hcl, hat⟩ := World.cells?_some hc
      exact ⟨cs', hcl, ⟨n, _, by omega, ht'⟩, fun j hj => by rw [hat j hj, List.getElem?_eq_getElem (by omega)]⟩
    obtain ⟨u, hu⟩ := Go.Deep.choose_lt hi
    obtain ⟨b, off, spot⟩ := a
    refine ⟨⟨some ⟨b, off, spot⟩, len, cap⟩, u, rfl, ⟨hl, hm, (fun h => by cases h), fun i hil => ?_⟩, fun i hil => ⟨(hu i hil).1, (hu i hil).2.1⟩⟩
    have hil2 : i < len := hil
    have h0 := (hu i hil).2.2 0 hk0
    have hln := (hu i hil).1
    rw [List.getElem?_eq_getElem (by omega)] at h0
    have hspot : spot = none := by
      have h1 := (hu 0 (by omega)).2.2 0 hk0
      have hl1 := (hu 0 (by omega)).1
      rw [List.getElem?_eq_getElem (by omega), Nat.zero_mul, Go.Deep.add_add] at h1
      simpa [Addr.add] using World.cell?_spot h1
    subst hspot
    have hadd : ∀ (o j : Nat), (⟨b, o, none⟩ : Addr).add j = ⟨b, o + j, none⟩ := fun o j => by unfold Addr.add; split <;> simp_all
    refine ⟨b, off, rfl, ?_, fun j hj => ?_⟩
    · rw [hadd, hadd] at h0
      exact cells_below h0
    · have := (hu i hil).2.2 j hj
      rw [hadd, hadd] at this
      exact this
end
end Go.Proofs.YtonlmhehddbhoaaDoor
set_option linter.unusedVariables false
namespace Go.Proofs.YtonlmhehddbhoaaDoor
open Go Go.RowKit Go.ChangeShapes Go.WideShapes Go.Joins Go.Deep
theorem SlAt.congr {w : World} {k : Nat} {s : Sl} {c c' : Nat → List Value} (h : SlAt w k s c) (he : ∀ i, i < s.len → c i = c' i) : SlAt w k s c' := by
  refine ⟨h.1, h.2.1, h.2.2.1, fun i hi => ?_⟩
  obtain ⟨b, off, ha, hlt, hc⟩ := h.2.2.2 i hi
  exact ⟨b, off, ha, hlt, fun j hj => by rw [← he i hi]; exact hc j hj⟩
/-- A column. -/
structure Cl where
  name : ByteArray
  ty : Int
  null : Bool
instance : Inhabited Cl := ⟨⟨ByteArray.empty, 0, false⟩⟩
instance : Inhabited Sl := ⟨Sl.z⟩
def Cl.cells (c : Cl) : List Value := [.string c.name, .int .i64 c.ty, .bool c.null]
/-- A table, with the slices that hold its parts. -/
structure Tb where
  name : ByteArray
  cs : Sl
  col : Nat → Cl
  ps : Sl
  prim : Nat → Int
  us : Sl
  uq : Nat → Sl
  uqn : Nat → Nat → Int
  fs : Sl
  fk : Nat → Sl
  fkn : Nat → Nat → Int
  fkt : Nat → ByteArray
  ks : Sl
  checks : List Ex
instance : Inhabited Tb := ⟨⟨ByteArray.empty, Sl.z, fun _ => default, Sl.z, fun _ => 0, Sl.z, fun _ => Sl.z, fun _ _ => 0, Sl.z, fun _ => Sl.z, fun _ _ => 0, fun _ => ByteArray.empty, Sl.z, []⟩⟩
def Tb.cells (t : Tb) : List Value := [.string t.name, t.cs.v, t.ps.v, t.us.v, t.fs.v, t.ks.v]
def intC (f : Nat → Int) (i : Nat) : List Value := [.int .i64 (f i)]
structure TbAt (w : World) (t : Tb) : Prop where
  name : t.name.size ≤ maxLen
  cols : SlAt w 3 t.cs fun i => (t.col i).cells
  colf : ∀ i, i < t.cs.len → (t.col i).name.size ≤ maxLen ∧ (Lit.int .i64 (t.col i).ty).wf = true
  prim : SlAt w 1 t.ps (intC t.prim)
  uqs : SlAt w 1 t.us fun i => [(t.uq i).v]
  uqn : ∀ i, i < t.us.len → SlAt w 1 (t.uq i) (intC (t.uqn i))
  fks : SlAt w 2 t.fs fun i => [(t.fk i).v, .string (t.fkt i)]
  fkn : ∀ i, i < t.fs.len → SlAt w 1 (t.fk i) (intC (t.fkn i)) ∧ (t.fkt i).size ≤ maxLen
  kids : Kids w (fun _ => True) t.ks.a t.ks.len t.ks.cap t.checks
theorem TbAt.later {w w' : World} {t : Tb} (h : TbAt w t) (hb : Below w.heap.size w w') : TbAt w' t :=
  ⟨h.name, h.cols.later hb, h.colf, h.prim.later hb, h.uqs.later hb, fun i hi => (h.uqn i hi).later hb, h.fks.later hb, fun i hi => ⟨(h.fkn i hi).1.later hb, (h.fkn i hi).2⟩, h.kids.later hb⟩
/-- The tables of a schema. -/
def TabsAt (w : World) (s : Sl) (tb : Nat → Tb) : Prop := SlAt w 6 s (fun i => (tb i).cells) ∧ ∀ i, i < s.len → TbAt w (tb i)
theorem TabsAt.later {w w' : World} {s : Sl} {tb : Nat → Tb} (h : TabsAt w s tb) (hb : Below w.heap.size w w') : TabsAt w' s tb := ⟨h.1.later hb, fun i hi => (h.2 i hi).later hb⟩
theorem cellsT : Tryd.prog.cellsOf 53 = 6 := by kernel_rfl
theorem cellsC : Tryd.prog.cellsOf 55 = 3 := by kernel_rfl
theorem cellsF : Tryd.prog.cellsOf 57 = 2 := by kernel_rfl
theorem cellsN : Tryd.prog.cellsOf 3 = 1 := by kernel_rfl
theorem cellsL : Tryd.prog.cellsOf 22 = 1 := by kernel_rfl
theorem list3' {α : Type} {l : List α} (h : l.length = 3) : ∃ a b c, l = [a, b, c] := by
  match l, h with
  | [a, b, c], _ => exact ⟨a, b, c, rfl⟩
theorem list2' {α : Type} {l : List α} (h : l.length = 2) : ∃ a b, l = [a, b] := by
  match l, h with
  | [a, b], _ => exact ⟨a, b, rfl⟩
theorem list1' {α : Type} {l : List α} (h : l.length = 1) : ∃ a, l = [a] := by
  match l, h with
  | [a], _ => exact ⟨a, rfl⟩
section
variable {H : Type} {enc : TypeId × Value → H} {w : World} {base : Nat} {spare : Nat → Bool} {held : Bool}
theorem one_struct3 {P : Program} {t : TypeId} {f0 f1 f2 : Field} {fuel : Nat} {cs : List Value} {x : DataW H × List MemPlace} (ht : P.underlying t = some (.struct #[f0, f1, f2])) (hone : oneCellFields P #[f0, f1, f2] = true) (hC : P.cellsOf t = 3)
    (h : DataW.trod enc P w base spare held fuel t cs = some x) : ∃ c0 c1 c2 y0 y1 y2 n, fuel = n + 1 ∧ cs = [c0, c1, c2] ∧ DataW.trod enc P w base spare held n f0.type [c0] = some y0 ∧ DataW.trod enc P w base spare held n f1.type [c1] = some y1 ∧ DataW.trod enc P w base spare held n f2.type [c2] = some y2 := by
  obtain ⟨xs, n, hn, _, hl, hlen, hg⟩ := DataW.trod_struct ht h
  obtain ⟨c0, c1, c2, rfl⟩ := list3' (hl.trans hC)
  obtain ⟨o0, k0⟩ := hone_of hone 0 f0 rfl
  obtain ⟨o1, k1⟩ := hone_of hone 1 f1 rfl
  obtain ⟨o2, k2⟩ := hone_of hone 2 f2 rfl
  match xs, hlen with
  | [y0, y1, y2], _ => exact ⟨c0, c1, c2, y0, y1, y2, n, hn, rfl, by simpa [o0, k0] using hg 0 f0 rfl, by simpa [o1, k1] using hg 1 f1 rfl, by simpa [o2, k2] using hg 2 f2 rfl⟩
theorem one_struct2 {P : Program} {t : TypeId} {f0 f1 : Field} {fuel : Nat} {cs : List Value} {x : DataW H × List MemPlace} (ht : P.underlying t = some (.struct #[f0, f1])) (hone : oneCellFields P #[f0, f1] = true) (hC : P.cellsOf t = 2)
    (h : DataW.trod enc P w base spare held fuel t cs = some x) : ∃ c0 c1 y0 y1 n, fuel = n + 1 ∧ cs = [c0, c1] ∧ DataW.trod enc P w base spare held n f0.type [c0] = some y0 ∧ DataW.trod enc P w base spare held n f1.type [c1] = some y1 := by
  obtain ⟨xs, n, hn, _, hl, hlen, hg⟩ := DataW.trod_struct ht h
  obtain ⟨c0, c1, rfl⟩ := list2' (hl.trans hC)
  obtain ⟨o0, k0⟩ := hone_of hone 0 f0 rfl
  obtain ⟨o1, k1⟩ := hone_of hone 1 f1 rfl
  match xs, hlen with
  | [y0, y1], _ => exact ⟨c0, c1, y0, y1, n, hn, rfl, by simpa [o0, k0] using hg 0 f0 rfl, by simpa [o1, k1] using hg 1 f1 rfl⟩
theorem open_ints {fuel : Nat} {cs : List Value} {x : DataW H × List MemPlace} (h : DataW.trod enc Tryd.prog w base spare held fuel 22 cs = some x) : ∃ (s : Sl) (f : Nat → Int), cs = [s.v] ∧ SlAt w 1 s (intC f) := by
  obtain ⟨s, cell, rfl, hs, hc⟩ := open_sl Tryd.underlying22 cellsN (by omega) h
  have hi : ∀ i, i < s.len → ∃ n : Int, cell i = [.int .i64 n] := fun i hi => by
    obtain ⟨_, m, y, _, ht⟩ := hc i hi
    obtain ⟨n, e, _, _⟩ := DataW.trod_int Tryd.underlying3 ht
    exact ⟨n, e⟩
  obtain ⟨f, hf⟩ := Go.Deep.choose_lt hi
  exact ⟨s, f, rfl, hs.congr hf⟩
theorem open_cols {fuel : Nat} {cs : List Value} {x : DataW H × List MemPlace} (h : DataW.trod enc Tryd.prog w base spare held fuel 49 cs = some x) : ∃ (s : Sl) (f : Nat → Cl), cs = [s.v] ∧ SlAt w 3 s (fun i => (f i).cells) ∧ ∀ i, i < s.len → (f i).name.size ≤ maxLen ∧ (Lit.int .i64 (f i).ty).wf = true := by
  obtain ⟨s, cell, rfl, hs, hc⟩ := open_sl Tryd.underlying49 cellsC (by omega) h
  have hi : ∀ i, i < s.len → ∃ c : Cl, cell i = c.cells ∧ c.name.size ≤ maxLen ∧ (Lit.int .i64 c.ty).wf = true := fun i hi => by
    obtain ⟨_, m, y, _, ht⟩ := hc i hi
    obtain ⟨c0, c1, c2, y0, y1, y2, n, _, e, t0, t1, t2⟩ := one_struct3 Tryd.underlying55 (by kernel_rfl) cellsC ht
    obtain ⟨k0, e0, _, f0⟩ := DataW.trod_string Tryd.underlying9 t0
    obtain ⟨k1, e1, _, f1⟩ := DataW.trod_int Tryd.underlying3 t1
    obtain ⟨k2, e2, _⟩ := DataW.trod_bool Tryd.underlying4 t2
    simp only [List.cons.injEq, and_true] at e0 e1 e2
    subst e0 e1 e2
    exact ⟨⟨k0, k1, k2⟩, e, f0, f1⟩
  obtain ⟨f, hf⟩ := Go.Deep.choose_lt hi
  exact ⟨s, f, rfl, hs.congr fun i hi => (hf i hi).1, fun i hi => (hf i hi).2⟩
theorem open_uqs {fuel : Nat} {cs : List Value} {x : DataW H × List MemPlace} (h : DataW.trod enc Tryd.prog w base spare held fuel 50 cs = some x) : ∃ (s : Sl) (f : Nat → Sl) (g : Nat → Nat → Int), cs = [s.v] ∧ SlAt w 1 s (fun i => [(f i).v]) ∧ ∀ i, i < s.len → SlAt w 1 (f i) (intC (g i)) := by
  obtain ⟨s, cell, rfl, hs, hc⟩ := open_sl Tryd.underlying50 cellsL (by omega) h
  have hi : ∀ i, i < s.len → ∃ (u : Sl) (g : Nat → Int), cell i = [u.v] ∧ SlAt w 1 u (intC g) := fun i hi => by
    obtain ⟨_, m, y, _, ht⟩ := hc i hi
    exact open_ints ht
  obtain ⟨f, hf⟩ := Go.Deep.choose_lt hi
  obtain ⟨g, hg⟩ := Go.Deep.choose_lt hf
  exact ⟨s, f, g, rfl, hs.congr fun i hi => (hg i hi).1, fun i hi => (hg i hi).2⟩
theorem open_fks {fuel : Nat} {cs : List Value} {x : DataW H × List MemPlace} (h : DataW.trod enc Tryd.prog w base spare held fuel 51 cs = some x) : ∃ (s : Sl) (f : Nat → Sl) (g : Nat → Nat → Int) (t : Nat → ByteArray), cs = [s.v] ∧ SlAt w 2 s (fun i => [(f i).v, .string (t i)]) ∧ ∀ i, i < s.len → SlAt w 1 (f i) (intC (g i)) ∧ (t i).size ≤ maxLen := by
  obtain ⟨s, cell, rfl, hs, hc⟩ := open_sl Tryd.underlying51 cellsF (by omega) h
  have hi : ∀ i, i < s.len → ∃ (u : Sl) (g : Nat → Int) (t : ByteArray), cell i = [u.v, .string t] ∧ SlAt w 1 u (intC g) ∧ t.size ≤ maxLen := fun i hi => by
    obtain ⟨_, m, y, _, ht⟩ := hc i hi
    obtain ⟨c0, c1, y0, y1, n, _, e, t0, t1⟩ := one_struct2 Tryd.underlying57 (by kernel_rfl) cellsF ht
    obtain ⟨u, g, e0, hu⟩ := open_ints t0
    obtain ⟨k1, e1, _, f1⟩ := DataW.trod_string Tryd.underlying9 t1
    simp only [List.cons.injEq, and_true] at e0 e1
    subst e0 e1
    exact ⟨u, g, k1, e, hu, f1⟩
  obtain ⟨f, hf⟩ := Go.Deep.choose_lt hi
  obtain ⟨g, hg⟩ := Go.Deep.choose_lt hf
  obtain ⟨t, ht⟩ := Go.Deep.choose_lt hg
  exact ⟨s, f, g, t, rfl, hs.congr fun i hi => (ht i hi).1, fun i hi => (ht i hi).2⟩
theorem open_tabs {fuel : Nat} {cs : List Value} {x : DataW H × List MemPlace} (h : DataW.trod enc Tryd.prog w base spare held fuel 43 cs = some x) : ∃ (s : Sl) (tb : Nat → Tb), cs = [s.v] ∧ TabsAt w s tb := by
  obtain ⟨s, cell, rfl, hs, hc⟩ := open_sl Tryd.underlying43 cellsT (by omega) h
  have hi : ∀ i, i < s.len → ∃ t : Tb, cell i = t.cells ∧ TbAt w t := fun i hi => by
    obtain ⟨_, m, y, _, ht⟩ := hc i hi
    obtain ⟨c0, c1, c2, c3, c4, c5, y0, y1, y2, y3, y4, y5, n, _, e, t0, t1, t2, t3, t4, t5⟩ := trod_struct6 Tryd.underlying53 (by kernel_rfl) cellsT ht
    obtain ⟨k0, e0, _, f0⟩ := DataW.trod_string Tryd.underlying9 t0
    obtain ⟨s1, g1, e1, h1, h1'⟩ := open_cols t1
    obtain ⟨s2, g2, e2, h2⟩ := open_ints t2
    obtain ⟨s3, g3, q3, e3, h3, h3'⟩ := open_uqs t3
    obtain ⟨s4, g4, q4, r4, e4, h4, h4'⟩ := open_fks t4
    obtain ⟨a5, l5, p5, l, e5, h5⟩ := open_kids _ _ _ t5
    simp only [List.cons.injEq, and_true] at e0 e1 e2 e3 e4 e5
    subst e0 e1 e2 e3 e4 e5
    exact ⟨⟨k0, s1, g1, s2, g2, s3, g3, q3, s4, g4, q4, r4, ⟨a5, l5, p5⟩, l⟩, e, ⟨f0, h1, h1', h2, h3, h3', h4, h4', h5⟩⟩
  obtain ⟨tb, ht⟩ := Go.Deep.choose_lt hi
  exact ⟨s, tb, rfl, hs.congr fun i hi => (ht i hi).1, fun i hi => (ht i hi).2⟩
end
end Go.Proofs.YtonlmhehddbhoaaDoor
set_option linter.unusedVariables false
namespace Go.Proofs.YtonlmhehddbhoaaDoor
open Go Go.RowKit Go.Deep
/-- The first index from j on, of m, with the property; -1 if there is none. -/
def idx (p : Nat → Bool) : Nat → Nat → Int
  | _, 0 => -1
  | j, m + 1 => if p j = true then (j : Int) else idx p (j + 1) m
theorem idx_stop {p : Nat → Bool} {j m : Nat} (h : p j = true) : idx p j (m + 1) = j := by rw [idx, if_pos h]
theorem idx_go {p : Nat → Bool} {j m : Nat} (h : p j = false) : idx p j (m + 1) = idx p (j + 1) m := by rw [idx, if_neg (by rw [h]; exact Bool.false_ne_true)]
theorem idx_bd (p : Nat → Bool) : ∀ m j, -1 ≤ idx p j m ∧ (idx p j m < 0 ∨ idx p j m < j + m)
  | 0, j => by simp [idx]
  | m + 1, j => by
    unfold idx
    split
    · omega
    · have := idx_bd p m (j + 1); omega
def nameP (tb : Nat → Tb) (s : ByteArray) (i : Nat) : Bool := (tb i).name.toList == s.toList
set_option maxHeartbeats 2000000 in
set_option maxRecDepth 20000 in
theorem tabFn_calls (t : Tb) (s : ByteArray) (b : Nat) (w : World) (hb : w.cell? ⟨b, 0, none⟩ = some (.string s)) (hlt : b < w.heap.size) :
    Calls Tryd.prog 80 #[.agg #[.string t.name, .slice t.cs.a t.cs.len t.cs.cap, .slice t.ps.a t.ps.len t.ps.cap, .slice t.us.a t.us.len t.us.cap, .slice t.fs.a t.fs.len t.fs.cap, .slice t.ks.a t.ks.len t.ks.cap], .pointer (some ⟨b, 0, none⟩)] w fun r w' => r = .returned (.bool (t.name.toList == s.toList)) ∧ Cls w w' := by
  go_enter Tryd.func80, Tryd.ntmps80
  go_wp2_with fail
  go_ret
  refine ⟨ret_bool rfl, Cls.of ?_⟩
  repeat first | with_reducible exact Below.refl _ _ | with_reducible refine Below.setCell ?_ (by first | omega | (simp; done) | (simp; omega)) _ | with_reducible refine Below.alloc ?_ (by first | omega | (simp; done) | (simp; omega)) _ | with_reducible refine Below.drew ?_ | with_reducible refine Ext.on _ ?_ (by first | omega | (simp; done) | (simp; omega))
set_option maxHeartbeats 4000000 in
set_option maxRecDepth 20000 in
theorem indexT_calls (sl : Sl) (tb : Nat → Tb) (s : ByteArray) (bx : Nat) (w : World) (h : TabsAt w sl tb) (hb : w.cell? ⟨bx, 0, none⟩ = some (.string s)) (hlt : bx < w.heap.size) :
    Calls Tryd.prog 102 #[.slice sl.a sl.len sl.cap, .func (.func 80) #[] #[.pointer (some ⟨bx, 0, none⟩)]] w fun r w' => r = .returned (.int .i64 (idx (nameP tb s) 0 sl.len)) ∧ Cls w w' := by
  have hle := h.1.1
  have hmax := h.1.2.1
  unfold maxLen at hmax
  have H := Lib.hid h
  obtain ⟨sa, sn, sc⟩ := sl
  simp only at hle hmax
  clear h
  go_enter Tryd.func102, Tryd.ntmps102
  go_wp2_with fail
  go_loopw [8] (fun i wr => ∃ j : Nat, j ≤ sn ∧ i = .int .i64 j ∧ idx (nameP tb s) 0 sn = idx (nameP tb s) j (sn - j) ∧ Cls w wr) (fun i _ => sn - (intOf i).toNat)
  case atStart => exact ⟨0, Nat.zero_le _, rfl, rfl, Cls.of (Below.refl _ _)⟩
  case round =>
    obtain ⟨j, hj, rfl, he, x, rfl⟩ := hrel
    have HE := Lib.hid he
    clear he
    have xs := x.size
    by_cases hltj : j < sn
    · obtain ⟨b, off, ha, hb2, hc⟩ := H.out.1.2.2.2 j hltj
      simp only at ha
      subst ha
      have q0 := hc 0 (by omega)
      have q1 := hc 1 (by omega)
      have q2 := hc 2 (by omega)
      have q3 := hc 3 (by omega)
      have q4 := hc 4 (by omega)
      have q5 := hc 5 (by omega)
      simp only [Tb.cells, Sl.v, List.getElem?_cons_zero, List.getElem?_cons_succ, Nat.add_zero] at q0 q1 q2 q3 q4 q5
      have hN : Hid (nameP tb s j = ((tb j).name.toList == s.toList)) := Lib.hid rfl
      have hS : Hid (sn - j = (sn - (j + 1)) + 1) := Lib.hid (by omega)
      clear hc
      generalize tb j = t at *
      cases hbb : t.name.toList == s.toList
      all_goals
        have HB := Lib.hid hbb
        have C1 : Hid (∀ W, Below w.heap.size w W → Calls Tryd.prog 80 #[.agg #[.string t.name, .slice t.cs.a t.cs.len t.cs.cap, .slice t.ps.a t.ps.len t.ps.cap, .slice t.us.a t.us.len t.us.cap, .slice t.fs.a t.fs.len t.fs.cap, .slice t.ks.a t.ks.len t.ks.cap], .pointer (some ⟨bx, 0, none⟩)] W fun r w' => r = .returned (.bool (t.name.toList == s.toList)) ∧ Cls W w') := Lib.hid (fun W hW => tabFn_calls t s bx W (by rw [hW.cell (p := ⟨bx, 0, none⟩) hlt]; exact hb) (Nat.lt_of_lt_of_le hlt hW.size))
        rw [hbb] at C1
        clear hbb
        go_wp2_with (go_at_call 80; ((with_reducible refine (Cls.call (C1.out _ x.below)).mono ?_); rintro r _ ⟨rfl, y, rfl⟩))
      · go_roundw
        case rel => exact ⟨j + 1, by omega, by go_num, by rw [HE.out, hS.out, idx_go (by rw [hN.out, HB.out])], y, rfl⟩
        case measure => simp [intOf]; omega
      · go_ret
        exact ⟨ret_int (by rw [HE.out, hS.out, idx_stop (by rw [hN.out, HB.out])]), y, rfl⟩
    · have hz : Hid (sn - j = 0) := Lib.hid (by omega)
      go_wp2_with fail
      go_ret
      exact ⟨ret_int (by rw [HE.out, hz.out]; rfl), x, rfl⟩
end Go.Proofs.YtonlmhehddbhoaaDoor
set_option linter.unusedVariables false
namespace Go.Proofs.YtonlmhehddbhoaaDoor
open Go Go.RowKit Go.Deep
def at0 (r : Int) : Int := if r < 0 then 0 else r
set_option maxHeartbeats 2000000 in
set_option maxRecDepth 20000 in
theorem firstT_calls (sl : Sl) (tb : Nat → Tb) (s : ByteArray) (bx : Nat) (w : World) (h : TabsAt w sl tb) (hb : w.cell? ⟨bx, 0, none⟩ = some (.string s)) (hlt : bx < w.heap.size) :
    Calls Tryd.prog 79 #[.slice sl.a sl.len sl.cap, .func (.func 80) #[] #[.pointer (some ⟨bx, 0, none⟩)]] w fun r w' => r = .returned (.tuple #[.int .i64 (at0 (idx (nameP tb s) 0 sl.len)), .bool (decide (0 ≤ idx (nameP tb s) 0 sl.len))]) ∧ Cls w w' := by
  have C1 := Lib.hid (indexT_calls sl tb s bx w h hb hlt)
  have hbd := idx_bd (nameP tb s) sl.len 0
  clear h hb
  generalize idx (nameP tb s) 0 sl.len = r0 at C1 hbd ⊢
  by_cases hr : r0 < 0
  · have e1 : at0 r0 = 0 := by unfold at0; rw [if_pos hr]
    have d1 : decide (0 ≤ r0) = false := by simp; omega
    rw [e1, d1]
    go_enter Tryd.func79, Tryd.ntmps79
    go_wp2_with (go_at_call 102; ((with_reducible refine C1.out.mono ?_); rintro r _ ⟨rfl, y, rfl⟩))
    all_goals first
      | (exfalso; omega)
      | (go_ret2
         exact ⟨rfl, y, rfl⟩)
  · have e1 : at0 r0 = r0 := by unfold at0; rw [if_neg hr]
    have d1 : decide (0 ≤ r0) = true := by simp; omega
    rw [e1, d1]
    go_enter Tryd.func79, Tryd.ntmps79
    go_wp2_with (go_at_call 102; ((with_reducible refine C1.out.mono ?_); rintro r _ ⟨rfl, y, rfl⟩))
    all_goals first
      | (exfalso; omega)
      | (go_ret2
         exact ⟨rfl, y, rfl⟩)
set_option maxHeartbeats 2000000 in
set_option maxRecDepth 20000 in
theorem Find_calls (sl : Sl) (tb : Nat → Tb) (s : ByteArray) (w : World) (h : TabsAt w sl tb) :
    Calls Tryd.prog 46 #[.agg #[.slice sl.a sl.len sl.cap], .string s] w fun r w' => r = .returned (.tuple #[.int .i64 (at0 (idx (nameP tb s) 0 sl.len)), .bool (decide (0 ≤ idx (nameP tb s) 0 sl.len))]) ∧ Cls w w' := by
  have C1 : Hid (∀ W, Below w.heap.size w W → W.cell? ⟨w.heap.size + 1, 0, none⟩ = some (.string s) → w.heap.size + 1 < W.heap.size → Calls Tryd.prog 79 #[.slice sl.a sl.len sl.cap, .func (.func 80) #[] #[.pointer (some ⟨w.heap.size + 1, 0, none⟩)]] W fun r w' => r = .returned (.tuple #[.int .i64 (at0 (idx (nameP tb s) 0 sl.len)), .bool (decide (0 ≤ idx (nameP tb s) 0 sl.len))]) ∧ Cls W w') :=
    Lib.hid (fun W hW hc hl => firstT_calls sl tb s _ W (h.later hW) hc hl)
  clear h
  go_enter Tryd.func46, Tryd.ntmps46
  go_wp2_with (go_at_call 79; ((with_reducible refine (C1.out _ ?_ ?_ ?_).mono ?_); (· (repeat first | with_reducible exact Below.refl _ _ | with_reducible refine Below.setCell ?_ (by first | omega | (simp; done) | (simp; omega)) _ | with_reducible refine Below.alloc ?_ (by first | omega | (simp; done) | (simp; omega)) _ | with_reducible refine Below.drew ?_ | with_reducible refine Ext.on _ ?_ (by first | omega | (simp; done) | (simp; omega)))); (· simp [go_sem]); (· simp); rintro r _ ⟨rfl, y, rfl⟩))
  go_ret2
  refine ⟨rfl, Cls.of ?_⟩
  repeat first | with_reducible exact Below.refl _ _ | with_reducible refine Below.setCell ?_ (by first | omega | (simp; done) | (simp; omega)) _ | with_reducible refine Below.alloc ?_ (by first | omega | (simp; done) | (simp; omega)) _ | with_reducible refine Below.drew ?_ | with_reducible refine Ext.on _ ?_ (by first | omega | (simp; done) | (simp; omega))
set_option maxHeartbeats 2000000 in
set_option maxRecDepth 20000 in
theorem rFind_calls (sl : Sl) (tb : Nat → Tb) (s : ByteArray) (w : World) (h : TabsAt w sl tb) :
    Calls Tryd.prog 51 #[.agg #[.slice sl.a sl.len sl.cap], .string s] w fun r w' => r = .returned (.tuple #[.int .i64 (at0 (idx (nameP tb s) 0 sl.len)), .bool (decide (0 ≤ idx (nameP tb s) 0 sl.len))]) ∧ Cls w w' := by
  have hle := h.1.1
  have hmax := h.1.2.1
  unfold maxLen at hmax
  have H := Lib.hid h
  obtain ⟨sa, sn, sc⟩ := sl
  simp only at hle hmax
  clear h
  go_enter Tryd.func51, Tryd.ntmps51
  go_wp2_with fail
  go_loopw [6] (fun i wr => ∃ j : Nat, j ≤ sn ∧ i = .int .i64 j ∧ idx (nameP tb s) 0 sn = idx (nameP tb s) j (sn - j) ∧ Cls (w.alloc (.cells #[.slice sa sn sc] 45)) wr) (fun i _ => sn - (intOf i).toNat)
  case atStart => exact ⟨0, Nat.zero_le _, rfl, rfl, Cls.of (Below.refl _ _)⟩
  case round =>
    obtain ⟨j, hj, rfl, he, x, rfl⟩ := hrel
    have HE := Lib.hid he
    clear he
    by_cases hltj : j < sn
    · obtain ⟨b, off, ha, hb2, hc⟩ := H.out.1.2.2.2 j hltj
      simp only at ha
      subst ha
      have q0 := hc 0 (by omega)
      have hb1 : b < w.heap.size + 1 := by omega
      simp only [Tb.cells, Sl.v, List.getElem?_cons_zero, Nat.add_zero] at q0
      have hN : Hid (nameP tb s j = ((tb j).name.toList == s.toList)) := Lib.hid rfl
      have hS : Hid (sn - j = (sn - (j + 1)) + 1) := Lib.hid (by omega)
      clear hc
      generalize tb j = t at *
      cases hbb : t.name.toList == s.toList
      · have HB := Lib.hid hbb
        go_wp2_with fail
        go_roundw
        case rel => exact ⟨j + 1, by omega, by go_num, by rw [HE.out, hS.out, idx_go (by rw [hN.out, HB.out])], x, rfl⟩
        case measure => simp [intOf]; omega
      · have HB := Lib.hid hbb
        have hI : idx (nameP tb s) 0 sn = j := by rw [HE.out, hS.out, idx_stop (by rw [hN.out, HB.out])]
        have e1 : at0 (j : Int) = j := by unfold at0; rw [if_neg (by omega)]
        have d1 : decide (0 ≤ (j : Int)) = true := by simp
        have hI2 := Lib.hid hI
        clear hI
        go_wp2_with fail
        go_ret2
        refine ⟨?_, Cls.of ?_⟩
        · show _ = Ending.returned (.tuple #[.int .i64 (at0 (idx (nameP tb s) 0 sn)), .bool (decide (0 ≤ idx (nameP tb s) 0 sn))])
          rw [hI2.out, e1, d1]; rfl
        · repeat first | with_reducible exact Below.refl _ _ | with_reducible refine Below.setCell ?_ (by first | omega | (simp; done) | (simp; omega)) _ | with_reducible refine Below.alloc ?_ (by first | omega | (simp; done) | (simp; omega)) _ | with_reducible refine Below.drew ?_ | with_reducible refine Ext.on _ ?_ (by first | omega | (simp; done) | (simp; omega))
    · have hz : sn - j = 0 := by omega
      have hI : idx (nameP tb s) 0 sn = -1 := by rw [HE.out, hz]; rfl
      have hI2 := Lib.hid hI
      clear hI hz
      go_wp2_with fail
      go_ret2
      refine ⟨?_, Cls.of ?_⟩
      · show _ = Ending.returned (.tuple #[.int .i64 (at0 (idx (nameP tb s) 0 sn)), .bool (decide (0 ≤ idx (nameP tb s) 0 sn))])
        rw [hI2.out]; rfl
      · repeat first | with_reducible exact Below.refl _ _ | with_reducible refine Below.setCell ?_ (by first | omega | (simp; done) | (simp; omega)) _ | with_reducible refine Below.alloc ?_ (by first | omega | (simp; done) | (simp; omega)) _ | with_reducible refine Below.drew ?_ | with_reducible refine Ext.on _ ?_ (by first | omega | (simp; done) | (simp; omega))
end Go.Proofs.YtonlmhehddbhoaaDoor
