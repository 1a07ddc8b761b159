/-
  A schema as an argument: its tables, their columns, keys and checks. Plain functions on the numbers and texts of values: truths, and what logic gives. Nothing of the program is imported. Truth and Bool of the program, Bool of the reference, for all arguments. What the functions of truth values give: Truth, Bool, And, Or, Not of the program and of the reference, for all arguments.
-/
import Derived.Test.YtpddkljedhghkaaDoorK01
import Derived.RowKit3
import Derived.Lib.Strings
import Derived.Test.YtpddkljedhghkaaDoorChecked
import Derived.BigQuiet
set_option linter.unusedVariables false
namespace Go.Proofs.YtpddkljedhghkaaDoor
open Go Go.RowKit Go.ChangeShapes Go.WideShapes Go.Joins Go.Deep
theorem SlAt.congr {w : World} {k : Nat} {s : Sl} {c c' : Nat → List Value} (h : SlAt w k s c) (he : ∀ i, i < s.len → c i = c' i) : SlAt w k s c' := by
  refine ⟨h.1, h.2.1, h.2.2.1, fun i hi => ?_⟩
  obtain ⟨b, off, ha, hlt, hc⟩ := h.2.2.2 i hi
  exact ⟨b, off, ha, hlt, fun j hj => by rw [← he i hi]; exact hc j hj⟩
/-- A column. -/
structure Cl where
  name : ByteArray
  ty : Int
  null : Bool
instance : Inhabited Cl := ⟨⟨ByteArray.empty, 0, false⟩⟩
instance : Inhabited Sl := ⟨Sl.z⟩
def Cl.cells (c : Cl) : List Value := [.string c.name, .int .i64 c.ty, .bool c.null]
/-- A table, with the slices that hold its parts. -/
structure Tb where
  name : ByteArray
  cs : Sl
  col : Nat → Cl
  ps : Sl
  prim : Nat → Int
  us : Sl
  uq : Nat → Sl
  uqn : Nat → Nat → Int
  fs : Sl
  fk : Nat → Sl
  fkn : Nat → Nat → Int
  fkt : Nat → ByteArray
  ks : Sl
  checks : List Ex
instance : Inhabited Tb := ⟨⟨ByteArray.empty, Sl.z, fun _ => default, Sl.z, fun _ => 0, Sl.z, fun _ => Sl.z, fun _ _ => 0, Sl.z, fun _ => Sl.z, fun _ _ => 0, fun _ => ByteArray.empty, Sl.z, []⟩⟩
def Tb.cells (t : Tb) : List Value := [.string t.name, t.cs.v, t.ps.v, t.us.v, t.fs.v, t.ks.v]
def intC (f : Nat → Int) (i : Nat) : List Value := [.int .i64 (f i)]
structure TbAt (w : World) (t : Tb) : Prop where
  name : t.name.size ≤ maxLen
  cols : SlAt w 3 t.cs fun i => (t.col i).cells
  colf : ∀ i, i < t.cs.len → (t.col i).name.size ≤ maxLen ∧ (Lit.int .i64 (t.col i).ty).wf = true
  prim : SlAt w 1 t.ps (intC t.prim)
  uqs : SlAt w 1 t.us fun i => [(t.uq i).v]
  uqn : ∀ i, i < t.us.len → SlAt w 1 (t.uq i) (intC (t.uqn i))
  fks : SlAt w 2 t.fs fun i => [(t.fk i).v, .string (t.fkt i)]
  fkn : ∀ i, i < t.fs.len → SlAt w 1 (t.fk i) (intC (t.fkn i)) ∧ (t.fkt i).size ≤ maxLen
  kids : Kids w (fun _ => True) t.ks.a t.ks.len t.ks.cap t.checks
theorem TbAt.later {w w' : World} {t : Tb} (h : TbAt w t) (hb : Below w.heap.size w w') : TbAt w' t :=
  ⟨h.name, h.cols.later hb, h.colf, h.prim.later hb, h.uqs.later hb, fun i hi => (h.uqn i hi).later hb, h.fks.later hb, fun i hi => ⟨(h.fkn i hi).1.later hb, (h.fkn i hi).2⟩, h.kids.later hb⟩
/-- The tables of a schema. -/
def TabsAt (w : World) (s : Sl) (tb : Nat → Tb) : Prop := SlAt w 6 s (fun i => (tb i).cells) ∧ ∀ i, i < s.len → TbAt w (tb i)
theorem TabsAt.later {w w' : World} {s : Sl} {tb : Nat → Tb} (h : TabsAt w s tb) (hb : Below w.heap.size w w') : TabsAt w' s tb := ⟨h.1.later hb, fun i hi => (h.2 i hi).later hb⟩
theorem cellsT : Tryd.prog.cellsOf 53 = 6 := by kernel_rfl
theorem cellsC : Tryd.prog.cellsOf 55 = 3 := by kernel_rfl
theorem cellsF : Tryd.prog.cellsOf 57 = 2 := by kernel_rfl
theorem cellsN : Tryd.prog.cellsOf 3 = 1 := by kernel_rfl
theorem cellsL : Tryd.prog.cellsOf 22 = 1 := by kernel_rfl
theorem list3' {α : Type} {l : List α} (h : l.length = 3) : ∃ a b c, l = [a, b, c] := by
  match l, h with
  | [a, b, c], _ => exact ⟨a, b, c, rfl⟩
theorem list2' {α : Type} {l : List α} (h : l.length = 2) : ∃ a b, l = [a, b] := by
  match l, h with
  | [a, b], _ => exact ⟨a, b, rfl⟩
theorem list1' {α : Type} {l : List α} (h : l.length = 1) : ∃ a, l = [a] := by
  match l, h with
  | [a], _ => exact ⟨a, rfl⟩
section
variable {H : Type} {enc : TypeId × Value → H} {w : World} {base : Nat} {spare : Nat → Bool} {held : Bool}
theorem one_struct3 {P : Program} {t : TypeId} {f0 f1 f2 : Field} {fuel : Nat} {cs : List Value} {x : DataW H × List MemPlace} (ht : P.underlying t = some (.struct #[f0, f1, f2])) (hone : oneCellFields P #[f0, f1, f2] = true) (hC : P.cellsOf t = 3)
    (h : DataW.trod enc P w base spare held fuel t cs = some x) : ∃ c0 c1 c2 y0 y1 y2 n, fuel = n + 1 ∧ cs = [c0, c1, c2] ∧ DataW.trod enc P w base spare held n f0.type [c0] = some y0 ∧ DataW.trod enc P w base spare held n f1.type [c1] = some y1 ∧ DataW.trod enc P w base spare held n f2.type [c2] = some y2 := by
  obtain ⟨xs, n, hn, _, hl, hlen, hg⟩ := DataW.trod_struct ht h
  obtain ⟨c0, c1, c2, rfl⟩ := list3' (hl.trans hC)
  obtain ⟨o0, k0⟩ := hone_of hone 0 f0 rfl
  obtain ⟨o1, k1⟩ := hone_of hone 1 f1 rfl
  obtain ⟨o2, k2⟩ := hone_of hone 2 f2 rfl
  match xs, hlen with
  | [y0, y1, y2], _ => exact ⟨c0, c1, c2, y0, y1, y2, n, hn, rfl, by simpa [o0, k0] using hg 0 f0 rfl, by simpa [o1, k1] using hg 1 f1 rfl, by simpa [o2, k2] using hg 2 f2 rfl⟩
theorem one_struct2 {P : Program} {t : TypeId} {f0 f1 : Field} {fuel : Nat} {cs : List Value} {x : DataW H × List MemPlace} (ht : P.underlying t = some (.struct #[f0, f1])) (hone : oneCellFields P #[f0, f1] = true) (hC : P.cellsOf t = 2)
    (h : DataW.trod enc P w base spare held fuel t cs = some x) : ∃ c0 c1 y0 y1 n, fuel = n + 1 ∧ cs = [c0, c1] ∧ DataW.trod enc P w base spare held n f0.type [c0] = some y0 ∧ DataW.trod enc P w base spare held n f1.type [c1] = some y1 := by
  obtain ⟨xs, n, hn, _, hl, hlen, hg⟩ := DataW.trod_struct ht h
  obtain ⟨c0, c1, rfl⟩ := list2' (hl.trans hC)
  obtain ⟨o0, k0⟩ := hone_of hone 0 f0 rfl
  obtain ⟨o1, k1⟩ := hone_of hone 1 f1 rfl
  match xs, hlen with
  | [y0, y1], _ => exact ⟨c0, c1, y0, y1, n, hn, rfl, by simpa [o0, k0] using hg 0 f0 rfl, by simpa [o1, k1] using hg 1 f1 rfl⟩
theorem open_ints {fuel : Nat} {cs : List Value} {x : DataW H × List MemPlace} (h : DataW.trod enc Tryd.prog w base spare held fuel 22 cs = some x) : ∃ (s : Sl) (f : Nat → Int), cs = [s.v] ∧ SlAt w 1 s (intC f) := by
  obtain ⟨s, cell, rfl, hs, hc⟩ := open_sl Tryd.underlying22 cellsN (by omega) h
  have hi : ∀ i, i < s.len → ∃ n : Int, cell i = [.int .i64 n] := fun i hi => by
    obtain ⟨_, m, y, _, ht⟩ := hc i hi
    obtain ⟨n, e, _, _⟩ := DataW.trod_int Tryd.underlying3 ht
    exact ⟨n, e⟩
  obtain ⟨f, hf⟩ := Go.Deep.choose_lt hi
  exact ⟨s, f, rfl, hs.congr hf⟩
theorem open_cols {fuel : Nat} {cs : List Value} {x : DataW H × List MemPlace} (h : DataW.trod enc Tryd.prog w base spare held fuel 49 cs = some x) : ∃ (s : Sl) (f : Nat → Cl), cs = [s.v] ∧ SlAt w 3 s (fun i => (f i).cells) ∧ ∀ i, i < s.len → (f i).name.size ≤ maxLen ∧ (Lit.int .i64 (f i).ty).wf = true := by
  obtain ⟨s, cell, rfl, hs, hc⟩ := open_sl Tryd.underlying49 cellsC (by omega) h
  have hi : ∀ i, i < s.len → ∃ c : Cl, cell i = c.cells ∧ c.name.size ≤ maxLen ∧ (Lit.int .i64 c.ty).wf = true := fun i hi => by
    obtain ⟨_, m, y, _, ht⟩ := hc i hi
    obtain ⟨c0, c1, c2, y0, y1, y2, n, _, e, t0, t1, t2⟩ := one_struct3 Tryd.underlying55 (by kernel_rfl) cellsC ht
    obtain ⟨k0, e0, _, f0⟩ := DataW.trod_string Tryd.underlying9 t0
    obtain ⟨k1, e1, _, f1⟩ := DataW.trod_int Tryd.underlying3 t1
    obtain ⟨k2, e2, _⟩ := DataW.trod_bool Tryd.underlying4 t2
    simp only [List.cons.injEq, and_true] at e0 e1 e2
    subst e0 e1 e2
    exact ⟨⟨k0, k1, k2⟩, e, f0, f1⟩
  obtain ⟨f, hf⟩ := Go.Deep.choose_lt hi
  exact ⟨s, f, rfl, hs.congr fun i hi => (hf i hi).1, fun i hi => (hf i hi).2⟩
theorem open_uqs {fuel : Nat} {cs : List Value} {x : DataW H × List MemPlace} (h : DataW.trod enc Tryd.prog w base spare held fuel 50 cs = some x) : ∃ (s : Sl) (f : Nat → Sl) (g : Nat → Nat → Int), cs = [s.v] ∧ SlAt w 1 s (fun i => [(f i).v]) ∧ ∀ i, i < s.len → SlAt w 1 (f i) (intC (g i)) := by
  obtain ⟨s, cell, rfl, hs, hc⟩ := open_sl Tryd.underlying50 cellsL (by omega) h
  have hi : ∀ i, i < s.len → ∃ (u : Sl) (g : Nat → Int), cell i = [u.v] ∧ SlAt w 1 u (intC g) := fun i hi => by
    obtain ⟨_, m, y, _, ht⟩ := hc i hi
    exact open_ints ht
  obtain ⟨f, hf⟩ := Go.Deep.choose_lt hi
  obtain ⟨g, hg⟩ := Go.Deep.choose_lt hf
  exact ⟨s, f, g, rfl, hs.congr fun i hi => (hg i hi).1, fun i hi => (hg i hi).2⟩
theorem open_fks {fuel : Nat} {cs : List Value} {x : DataW H × List MemPlace} (h : DataW.trod enc Tryd.prog w base spare held fuel 51 cs = some x) : ∃ (s : Sl) (f : Nat → Sl) (g : Nat → Nat → Int) (t : Nat → ByteArray), cs = [s.v] ∧ SlAt w 2 s (fun i => [(f i).v, .string (t i)]) ∧ ∀ i, i < s.len → SlAt w 1 (f i) (intC (g i)) ∧ (t i).size ≤ maxLen := by
  obtain ⟨s, cell, rfl, hs, hc⟩ := open_sl Tryd.underlying51 cellsF (by omega) h
  have hi : ∀ i, i < s.len → ∃ (u : Sl) (g : Nat → Int) (t : ByteArray), cell i = [u.v, .string t] ∧ SlAt w 1 u (intC g) ∧ t.size ≤ maxLen := fun i hi => by
    obtain ⟨_, m, y, _, ht⟩ := hc i hi
    obtain ⟨c0, c1, y0, y1, n, _, e, t0, t1⟩ := one_struct2 Tryd.underlying57 (by kernel_rfl) cellsF ht
    obtain ⟨u, g, e0, hu⟩ := open_ints t0
    obtain ⟨k1, e1, _, f1⟩ := DataW.trod_string Tryd.underlying9 t1
    simp only [List.cons.injEq, and_true] at e0 e1
    subst e0 e1
    exact ⟨u, g, k1, e, hu, f1⟩
  obtain ⟨f, hf⟩ := Go.Deep.choose_lt hi
  obtain ⟨g, hg⟩ := Go.Deep.choose_lt hf
  obtain ⟨t, ht⟩ := Go.Deep.choose_lt hg
  exact ⟨s, f, g, t, rfl, hs.congr fun i hi => (ht i hi).1, fun i hi => (ht i hi).2⟩
theorem open_tabs {fuel : Nat} {cs : List Value} {x : DataW H × List MemPlace} (h : DataW.trod enc Tryd.prog w base spare held fuel 43 cs = some x) : ∃ (s : Sl) (tb : Nat → Tb), cs = [s.v] ∧ TabsAt w s tb := by
  obtain ⟨s, cell, rfl, hs, hc⟩ := open_sl Tryd.underlying43 cellsT (by omega) h
  have hi : ∀ i, i < s.len → ∃ t : Tb, cell i = t.cells ∧ TbAt w t := fun i hi => by
    obtain ⟨_, m, y, _, ht⟩ := hc i hi
    obtain ⟨c0, c1, c2, c3, c4, c5, y0, y1, y2, y3, y4, y5, n, _, e, t0, t1, t2, t3, t4, t5⟩ := trod_struct6 Tryd.underlying53 (by kernel_rfl) cellsT ht
    obtain ⟨k0, e0, _, f0⟩ := DataW.trod_string Tryd.underlying9 t0
    obtain ⟨s1, g1, e1, h1, h1'⟩ := open_cols t1
    obtain ⟨s2, g2, e2, h2⟩ := open_ints t2
    obtain ⟨s3, g3, q3, e3, h3, h3'⟩ := open_uqs t3
    obtain ⟨s4, g4, q4, r4, e4, h4, h4'⟩ := open_fks t4
    obtain ⟨a5, l5, p5, l, e5, h5⟩ := open_kids _ _ _ t5
    simp only [List.cons.injEq, and_true] at e0 e1 e2 e3 e4 e5
    subst e0 e1 e2 e3 e4 e5
    exact ⟨⟨k0, s1, g1, s2, g2, s3, g3, q3, s4, g4, q4, r4, ⟨a5, l5, p5⟩, l⟩, e, ⟨f0, h1, h1', h2, h3, h3', h4, h4', h5⟩⟩
  obtain ⟨tb, ht⟩ := Go.Deep.choose_lt hi
  exact ⟨s, tb, rfl, hs.congr fun i hi => (ht i hi).1, fun i hi => (ht i hi).2⟩
end
end Go.Proofs.YtpddkljedhghkaaDoor
namespace Go.Proofs.YtpddkljedhghkaaDoor
open Go

/-- The truth of a value with this kind and number. -/
def truT (k n : Int) : Int := if k = 2 then if n = 1 then 1 else 0 else 2
/-- Kind and number of the truth value t, null for any other number. -/
def tvK (t : Int) : Int := if t = 0 then 2 else if t = 1 then 2 else 0
def tvN (t : Int) : Int := if t = 1 then 1 else 0
def andT (a b : Int) : Int := if a = 0 then 0 else if b = 0 then 0 else if a = 2 then 2 else if b = 2 then 2 else 1
def orT (a b : Int) : Int := if a = 1 then 1 else if b = 1 then 1 else if a = 2 then 2 else if b = 2 then 2 else 0
def notT (a : Int) : Int := if a = 0 then 1 else if a = 1 then 0 else 2

theorem truT_cases (k n : Int) : truT k n = 0 ∨ truT k n = 1 ∨ truT k n = 2 := by
  unfold truT; split <;> (try split) <;> simp
theorem truT_tv (t : Int) : truT (tvK t) (tvN t) = if t = 0 then 0 else if t = 1 then 1 else 2 := by
  unfold truT tvK tvN; split <;> split <;> simp_all

/-! ### The order of values -/
def cmpI (a b : Int) : Int := if a < b then -1 else if b < a then 1 else 0
def cmpS (s t : ByteArray) : Int := if Op.bytesLess s.toList t.toList = true then -1 else if s.toList = t.toList then 0 else 1
def cmpV (k n : Int) (s : ByteArray) (k' n' : Int) (s' : ByteArray) : Int := if k = k' then if n = n' then cmpS s s' else cmpI n n' else cmpI k k'

theorem toList_inj {s t : ByteArray} (h : s.toList = t.toList) : s = t := by
  rw [Lib.toList_data, Lib.toList_data] at h
  cases s; cases t; simpa [← Array.toList_inj] using h
theorem less_eq (x : List UInt8) : ∀ y, Op.bytesLess x y = decide (x < y) := by
  induction x with
  | nil => intro y; cases y <;> simp [Op.bytesLess]
  | cons a x ih =>
    intro y
    cases y with
    | nil => simp [Op.bytesLess]
    | cons b y =>
      simp only [Op.bytesLess, ih, List.cons_lt_cons_iff]
      by_cases h : a < b <;> by_cases h' : a = b <;> simp [h, h']
theorem less_trans {a b c : List UInt8} (h : Op.bytesLess a b = true) (h' : Op.bytesLess b c = true) : Op.bytesLess a c = true := by
  rw [less_eq] at *; simp only [decide_eq_true_eq] at *; exact List.lt_trans h h'
theorem less_irrefl (a : List UInt8) : Op.bytesLess a a = false := by
  rw [less_eq]; simp
theorem less_asymm {a b : List UInt8} (h : Op.bytesLess a b = true) : Op.bytesLess b a = false := by
  cases h' : Op.bytesLess b a with
  | false => rfl
  | true => have := less_trans h h'; rw [less_irrefl] at this; cases this
theorem less_total {a b : List UInt8} (h : Op.bytesLess a b = false) (h' : Op.bytesLess b a = false) : a = b := by
  rw [less_eq] at *
  simp only [decide_eq_false_iff_not] at *
  exact List.le_antisymm h' h

theorem cmpI_self (a : Int) : cmpI a a = 0 := by unfold cmpI; split <;> (try split) <;> omega
theorem cmpI_neg (a b : Int) : cmpI b a = -cmpI a b := by unfold cmpI; split <;> split <;> (try split) <;> omega
theorem cmpI_zero {a b : Int} (h : cmpI a b = 0) : a = b := by unfold cmpI at h; split at h <;> (try split at h) <;> omega
theorem cmpS_self (s : ByteArray) : cmpS s s = 0 := by unfold cmpS; rw [less_irrefl]; simp
theorem cmpS_zero {s t : ByteArray} (h : cmpS s t = 0) : s = t := by
  unfold cmpS at h
  split at h
  · omega
  · split at h
    · exact toList_inj ‹_›
    · omega
theorem cmpS_neg (s t : ByteArray) : cmpS t s = -cmpS s t := by
  unfold cmpS
  cases h : Op.bytesLess s.toList t.toList <;> cases h' : Op.bytesLess t.toList s.toList
  · have := less_total h h'; simp [this]
  · have : ¬ s.toList = t.toList := fun e => by rw [e, less_irrefl] at h'; cases h'
    simp [this]
  · have : ¬ t.toList = s.toList := fun e => by rw [e, less_irrefl] at h; cases h
    simp [this]
  · rw [less_asymm h] at h'; cases h'
theorem cmpV_self (k n : Int) (s : ByteArray) : cmpV k n s k n s = 0 := by simp [cmpV, cmpS_self]
theorem cmpV_neg (k n : Int) (s : ByteArray) (k' n' : Int) (s' : ByteArray) : cmpV k' n' s' k n s = -cmpV k n s k' n' s' := by
  unfold cmpV
  by_cases hk : k = k'
  · subst hk
    by_cases hn : n = n'
    · subst hn; simp [cmpS_neg s s']
    · simp [hn, Ne.symm hn, cmpI_neg n n']
  · simp [hk, Ne.symm hk, cmpI_neg k k']
theorem cmpV_zero {k n : Int} {s : ByteArray} {k' n' : Int} {s' : ByteArray} (h : cmpV k n s k' n' s' = 0) : k = k' ∧ n = n' ∧ s = s' := by
  unfold cmpV at h
  by_cases hk : k = k'
  · by_cases hn : n = n'
    · simp [hk, hn] at h; exact ⟨hk, hn, cmpS_zero h⟩
    · simp [hk, hn] at h; exact absurd (cmpI_zero h) hn
  · simp [hk] at h; exact absurd (cmpI_zero h) hk
theorem cmpI_le {a b : Int} (h : cmpI a b ≤ 0) : a ≤ b := by unfold cmpI at h; split at h <;> (try split at h) <;> omega
theorem cmpI_of_lt {a b : Int} (h : a < b) : cmpI a b = -1 := by simp [cmpI, h]
theorem cmpS_trans {s t u : ByteArray} (h : cmpS s t ≤ 0) (h' : cmpS t u ≤ 0) : cmpS s u ≤ 0 := by
  have key : ∀ {x y : ByteArray}, cmpS x y ≤ 0 → Op.bytesLess x.toList y.toList = true ∨ x = y := fun {x y} h => by
    unfold cmpS at h
    split at h
    · exact .inl ‹_›
    · split at h
      · exact .inr (toList_inj ‹_›)
      · omega
  rcases key h with h | rfl
  · rcases key h' with h' | rfl
    · unfold cmpS; rw [less_trans h h']; simp
    · unfold cmpS; rw [h]; simp
  · exact h'
theorem cmpV_trans {k n : Int} {s : ByteArray} {k' n' : Int} {s' : ByteArray} {k2 n2 : Int} {s2 : ByteArray} (h : cmpV k n s k' n' s' ≤ 0) (h' : cmpV k' n' s' k2 n2 s2 ≤ 0) : cmpV k n s k2 n2 s2 ≤ 0 := by
  unfold cmpV at *
  by_cases hk : k = k'
  · subst hk
    by_cases hk2 : k = k2
    · subst hk2
      simp only [if_true] at *
      by_cases hn : n = n'
      · subst hn
        by_cases hn2 : n = n2
        · subst hn2; simp only [if_true] at *; exact cmpS_trans h h'
        · simp only [hn2, if_true, if_false] at *; exact h'
      · simp only [hn, if_false] at h
        have l := cmpI_le h
        by_cases hn2 : n' = n2
        · subst hn2; simp only [hn, if_false]; exact h
        · simp only [hn2, if_false] at h'
          have l' := cmpI_le h'
          rw [if_neg (by omega), cmpI_of_lt (by omega)]; omega
    · simp only [hk2, if_false] at *; exact h'
  · simp only [hk, if_false] at h
    have l := cmpI_le h
    by_cases hk2 : k' = k2
    · subst hk2; simp only [hk, if_false]; exact h
    · simp only [hk2, if_false] at h'
      have l' := cmpI_le h'
      rw [if_neg (by omega), cmpI_of_lt (by omega)]; omega

def b2i (b : Bool) : Int := if b = true then 1 else 0
/-- Are two values the same? -/
def sameB (k n : Int) (s : ByteArray) (k' n' : Int) (s' : ByteArray) : Bool := cmpV k n s k' n' s' == 0
theorem sameB_yes {k n : Int} {s : ByteArray} {k' n' : Int} {s' : ByteArray} (h : k = k') (h' : n = n') (h2 : s.toList = s'.toList) : sameB k n s k' n' s' = true := by
  obtain rfl := toList_inj h2; subst h h'; simp [sameB, cmpV_self]
theorem sameB_no {k n : Int} {s : ByteArray} {k' n' : Int} {s' : ByteArray} (h : ¬ (k = k' ∧ n = n' ∧ s.toList = s'.toList)) : sameB k n s k' n' s' = false := by
  cases h2 : sameB k n s k' n' s' with
  | false => rfl
  | true =>
    obtain ⟨rfl, rfl, rfl⟩ := cmpV_zero (by simpa [sameB] using h2)
    exact absurd ⟨rfl, rfl, rfl⟩ h
def eqT (k n : Int) (s : ByteArray) (k' n' : Int) (s' : ByteArray) : Int := if k = 0 then 2 else if k' = 0 then 2 else b2i (sameB k n s k' n' s')
def lessT (k n : Int) (s : ByteArray) (k' n' : Int) (s' : ByteArray) : Int := if k = 0 then 2 else if k' = 0 then 2 else b2i (decide (cmpV k n s k' n' s' < 0))

theorem truT_yes : truT 2 1 = 1 := rfl
theorem truT_no : truT 2 0 = 0 := rfl
theorem truT_null : truT 0 0 = 2 := rfl
end Go.Proofs.YtpddkljedhghkaaDoor
namespace Go.Proofs.YtpddkljedhghkaaDoor
open Go Go.RowKit

theorem Truth_calls (k n : Int) (s : ByteArray) (w : World) :
    Calls Tryd.prog 118 #[.agg #[.int .i64 k, .int .i64 n, .string s]] w fun e w' => e = .returned (.int .i64 (truT k n)) ∧ Cls w w' := by
  go_enter Tryd.func118, Tryd.ntmps118
  go_wp2
  all_goals
    go_ret
    refine ⟨?_, Cls.of ((Below.refl _ _).alloc (Nat.le_refl _) _)⟩
    simp_all [truT]
theorem Bool_calls (n : Int) (w : World) :
    Calls Tryd.prog 80 #[.int .i64 n] w fun e w' => e = .returned (.agg #[.int .i64 (tvK n), .int .i64 (tvN n), .string ⟨#[]⟩]) ∧ Cls w w' := by
  go_enter Tryd.func80, Tryd.ntmps80
  go_wp2
  all_goals
    refine ret_ex rfl ?_
    simp [results, Tryd.results80, go_sem]
    refine ⟨?_, Cls.of ((Below.refl _ _).alloc (Nat.le_refl _) _)⟩
  all_goals simp_all [tvK, tvN]
  all_goals omega
theorem rBool_calls (n : Int) (w : World) :
    Calls Tryd.prog 93 #[.int .i64 n] w fun e w' => e = .returned (.agg #[.int .i64 (tvK n), .int .i64 (tvN n), .string ⟨#[]⟩]) ∧ Cls w w' := by
  go_enter Tryd.func93, Tryd.ntmps93
  go_wp2
  all_goals
    refine ret_ex rfl ?_
    simp [results, Tryd.results93, go_sem]
    refine ⟨?_, Cls.of ((Below.refl _ _).alloc (Nat.le_refl _) _)⟩
  all_goals simp_all [tvK, tvN]
  all_goals omega
end Go.Proofs.YtpddkljedhghkaaDoor
namespace Go.Proofs.YtpddkljedhghkaaDoor
open Go Go.RowKit

theorem rTruth_calls (k n : Int) (s : ByteArray) (w : World) :
    Calls Tryd.prog 50 #[.agg #[.int .i64 k, .int .i64 n, .string s]] w fun e w' => e = .returned (.int .i64 (truT k n)) ∧ Cls w w' := by
  go_enter Tryd.func50, Tryd.ntmps50
  go_wp2
  all_goals
    go_ret
    refine ⟨?_, Cls.of ((Below.refl _ _).alloc (Nat.le_refl _) _)⟩
    simp_all [truT]
set_option maxHeartbeats 400000 in
theorem decide_and (a b : Int) (w : World) :
    Calls Tryd.prog 119 #[.int .i64 0, .int .i64 a, .int .i64 b] w fun e w' => e = .returned (.agg #[.int .i64 (tvK (andT a b)), .int .i64 (tvN (andT a b)), .string ⟨#[]⟩]) ∧ Cls w w' := by
  go_enter Tryd.func119, Tryd.ntmps119
  go_wp2_with (first | (go_at_call 80; refine (Bool_calls _ _).mono ?_; rintro e _ ⟨rfl, x, rfl⟩))
  all_goals
    refine ret_ex rfl ?_
    simp [results, Tryd.results119, go_sem]
    refine ⟨?_, ?_⟩
  all_goals first | (simp_all [tvK, tvN]; done) | (simp_all [tvK, tvN, andT]; done) | (simp_all [tvK, tvN]; omega) | skip
  all_goals
    refine Cls.of ?_
    repeat first | exact Below.refl _ _ | refine Below.setCell ?_ (by first | omega | (simp; done) | (simp; omega)) _ | refine Below.alloc ?_ (by first | omega | (simp; done) | (simp; omega)) _ | refine Below.drew ?_ | refine Ext.on _ ?_ (by first | omega | (simp; done) | (simp; omega))
set_option maxHeartbeats 400000 in
theorem decide_or (a b : Int) (w : World) :
    Calls Tryd.prog 119 #[.int .i64 1, .int .i64 a, .int .i64 b] w fun e w' => e = .returned (.agg #[.int .i64 (tvK (orT a b)), .int .i64 (tvN (orT a b)), .string ⟨#[]⟩]) ∧ Cls w w' := by
  go_enter Tryd.func119, Tryd.ntmps119
  go_wp2_with (first | (go_at_call 80; refine (Bool_calls _ _).mono ?_; rintro e _ ⟨rfl, x, rfl⟩))
  all_goals
    refine ret_ex rfl ?_
    simp [results, Tryd.results119, go_sem]
    refine ⟨?_, ?_⟩
  all_goals first | (simp_all [tvK, tvN]; done) | (simp_all [tvK, tvN, orT]; done) | (simp_all [tvK, tvN]; omega) | skip
  all_goals
    refine Cls.of ?_
    repeat first | exact Below.refl _ _ | refine Below.setCell ?_ (by first | omega | (simp; done) | (simp; omega)) _ | refine Below.alloc ?_ (by first | omega | (simp; done) | (simp; omega)) _ | refine Below.drew ?_ | refine Ext.on _ ?_ (by first | omega | (simp; done) | (simp; omega))
theorem And_calls (k n : Int) (s : ByteArray) (k' n' : Int) (s' : ByteArray) (w : World) :
    Calls Tryd.prog 90 #[.agg #[.int .i64 k, .int .i64 n, .string s], .agg #[.int .i64 k', .int .i64 n', .string s']] w fun e w' => e = .returned (.agg #[.int .i64 (tvK (andT (truT k n) (truT k' n'))), .int .i64 (tvN (andT (truT k n) (truT k' n'))), .string ⟨#[]⟩]) ∧ Cls w w' := by
  go_enter Tryd.func90, Tryd.ntmps90
  go_wp2
  refine wp_region_ext_tail 5 (by kernel_rfl) (by kernel_rfl) ?_
  simp only [List.take_succ_cons, List.take_zero, List.drop_succ_cons, List.drop_zero]
  repeat (go_big_quiet_step (first | (go_at_call 118; exact Cls.call (Truth_calls _ _ _ _)) | (go_at_call 119; exact Cls.call (decide_and _ _ _))))
  refine wpQuiet_nil ?_
  rintro _ ⟨x, rfl⟩
  go_wp2
  refine ret_ex rfl ?_
  simp [results, Tryd.results90, go_sem]
  refine Cls.of ?_
  repeat first | exact Below.refl _ _ | refine Below.setCell ?_ (by first | omega | (simp; done) | (simp; omega)) _ | refine Below.alloc ?_ (by first | omega | (simp; done) | (simp; omega)) _ | refine Below.drew ?_ | refine Ext.on _ ?_ (by first | omega | (simp; done) | (simp; omega))
theorem Or_calls (k n : Int) (s : ByteArray) (k' n' : Int) (s' : ByteArray) (w : World) :
    Calls Tryd.prog 81 #[.agg #[.int .i64 k, .int .i64 n, .string s], .agg #[.int .i64 k', .int .i64 n', .string s']] w fun e w' => e = .returned (.agg #[.int .i64 (tvK (orT (truT k n) (truT k' n'))), .int .i64 (tvN (orT (truT k n) (truT k' n'))), .string ⟨#[]⟩]) ∧ Cls w w' := by
  go_enter Tryd.func81, Tryd.ntmps81
  go_wp2
  refine wp_region_ext_tail 5 (by kernel_rfl) (by kernel_rfl) ?_
  simp only [List.take_succ_cons, List.take_zero, List.drop_succ_cons, List.drop_zero]
  repeat (go_big_quiet_step (first | (go_at_call 118; exact Cls.call (Truth_calls _ _ _ _)) | (go_at_call 119; exact Cls.call (decide_or _ _ _))))
  refine wpQuiet_nil ?_
  rintro _ ⟨x, rfl⟩
  go_wp2
  refine ret_ex rfl ?_
  simp [results, Tryd.results81, go_sem]
  refine Cls.of ?_
  repeat first | exact Below.refl _ _ | refine Below.setCell ?_ (by first | omega | (simp; done) | (simp; omega)) _ | refine Below.alloc ?_ (by first | omega | (simp; done) | (simp; omega)) _ | refine Below.drew ?_ | refine Ext.on _ ?_ (by first | omega | (simp; done) | (simp; omega))
set_option maxHeartbeats 400000 in
theorem rAnd_calls (k n : Int) (s : ByteArray) (k' n' : Int) (s' : ByteArray) (w : World) :
    Calls Tryd.prog 48 #[.agg #[.int .i64 k, .int .i64 n, .string s], .agg #[.int .i64 k', .int .i64 n', .string s']] w fun e w' => e = .returned (.agg #[.int .i64 (tvK (andT (truT k n) (truT k' n'))), .int .i64 (tvN (andT (truT k n) (truT k' n'))), .string ⟨#[]⟩]) ∧ Cls w w' := by
  go_enter Tryd.func48, Tryd.ntmps48
  go_wp2
  refine wp_region_ext (by kernel_rfl) (by kernel_rfl) ?_
  repeat (go_big_quiet_step ((go_at_call 50; exact Cls.call (rTruth_calls _ _ _ _))))
  refine wpQuiet_nil ?_
  rintro _ ⟨x, rfl⟩
  go_wp2_with (first | (go_at_call 93; with_reducible refine (Cls.call (rBool_calls _ _)).mono ?_; rintro e _ ⟨rfl, y, rfl⟩))
  all_goals
    refine ret_ex rfl ?_
    simp [results, Tryd.results48, go_sem]
    refine ⟨?_, ?_⟩
  all_goals first | (simp_all [tvK, tvN]; done) | (simp_all [tvK, tvN, andT]; done) | (simp_all [tvK, tvN]; omega) | skip
  all_goals
    refine Cls.of ?_
    repeat first | exact Below.refl _ _ | refine Below.setCell ?_ (by first | omega | (simp; done) | (simp; omega)) _ | refine Below.alloc ?_ (by first | omega | (simp; done) | (simp; omega)) _ | refine Below.drew ?_ | refine Ext.on _ ?_ (by first | omega | (simp; done) | (simp; omega))
set_option maxHeartbeats 400000 in
theorem rOr_calls (k n : Int) (s : ByteArray) (k' n' : Int) (s' : ByteArray) (w : World) :
    Calls Tryd.prog 49 #[.agg #[.int .i64 k, .int .i64 n, .string s], .agg #[.int .i64 k', .int .i64 n', .string s']] w fun e w' => e = .returned (.agg #[.int .i64 (tvK (orT (truT k n) (truT k' n'))), .int .i64 (tvN (orT (truT k n) (truT k' n'))), .string ⟨#[]⟩]) ∧ Cls w w' := by
  go_enter Tryd.func49, Tryd.ntmps49
  go_wp2
  refine wp_region_ext (by kernel_rfl) (by kernel_rfl) ?_
  repeat (go_big_quiet_step ((go_at_call 50; exact Cls.call (rTruth_calls _ _ _ _))))
  refine wpQuiet_nil ?_
  rintro _ ⟨x, rfl⟩
  go_wp2_with (first | (go_at_call 93; with_reducible refine (Cls.call (rBool_calls _ _)).mono ?_; rintro e _ ⟨rfl, y, rfl⟩))
  all_goals
    refine ret_ex rfl ?_
    simp [results, Tryd.results49, go_sem]
    refine ⟨?_, ?_⟩
  all_goals first | (simp_all [tvK, tvN]; done) | (simp_all [tvK, tvN, orT]; done) | (simp_all [tvK, tvN]; omega) | skip
  all_goals
    refine Cls.of ?_
    repeat first | exact Below.refl _ _ | refine Below.setCell ?_ (by first | omega | (simp; done) | (simp; omega)) _ | refine Below.alloc ?_ (by first | omega | (simp; done) | (simp; omega)) _ | refine Below.drew ?_ | refine Ext.on _ ?_ (by first | omega | (simp; done) | (simp; omega))
set_option maxHeartbeats 400000 in
theorem Not_calls (k n : Int) (s : ByteArray) (w : World) :
    Calls Tryd.prog 87 #[.agg #[.int .i64 k, .int .i64 n, .string s]] w fun e w' => e = .returned (.agg #[.int .i64 (tvK (notT (truT k n))), .int .i64 (tvN (notT (truT k n))), .string ⟨#[]⟩]) ∧ Cls w w' := by
  have hT := truT_cases k n
  go_enter Tryd.func87, Tryd.ntmps87
  go_wp2_with (first | (go_at_call 118; refine (Truth_calls _ _ _ _).mono ?_; rintro e _ ⟨rfl, x, rfl⟩) | (go_at_call 80; with_reducible refine (Cls.call (Bool_calls _ _)).mono ?_; rintro e _ ⟨rfl, y, rfl⟩))
  all_goals
    refine ret_ex rfl ?_
    simp [results, Tryd.results87, go_sem]
    refine ⟨?_, ?_⟩
  all_goals first | (simp_all [tvK, tvN]; done) | (simp_all [tvK, tvN, notT]; done) | (simp_all [tvK, tvN, notT]; omega) | skip
  all_goals
    refine Cls.of ?_
    repeat first | exact Below.refl _ _ | refine Below.setCell ?_ (by first | omega | (simp; done) | (simp; omega)) _ | refine Below.alloc ?_ (by first | omega | (simp; done) | (simp; omega)) _ | refine Below.drew ?_ | refine Ext.on _ ?_ (by first | omega | (simp; done) | (simp; omega))
set_option maxHeartbeats 400000 in
theorem rNot_calls (k n : Int) (s : ByteArray) (w : World) :
    Calls Tryd.prog 44 #[.agg #[.int .i64 k, .int .i64 n, .string s]] w fun e w' => e = .returned (.agg #[.int .i64 (tvK (notT (truT k n))), .int .i64 (tvN (notT (truT k n))), .string ⟨#[]⟩]) ∧ Cls w w' := by
  have hT := truT_cases k n
  go_enter Tryd.func44, Tryd.ntmps44
  go_wp2_with (first | (go_at_call 50; refine (rTruth_calls _ _ _ _).mono ?_; rintro e _ ⟨rfl, x, rfl⟩) | (go_at_call 93; with_reducible refine (Cls.call (rBool_calls _ _)).mono ?_; rintro e _ ⟨rfl, y, rfl⟩))
  all_goals
    refine ret_ex rfl ?_
    simp [results, Tryd.results44, go_sem]
    refine ⟨?_, ?_⟩
  all_goals first | (simp_all [tvK, tvN]; done) | (simp_all [tvK, tvN, notT]; done) | (simp_all [tvK, tvN]; omega) | skip
  all_goals
    refine Cls.of ?_
    repeat first | exact Below.refl _ _ | refine Below.setCell ?_ (by first | omega | (simp; done) | (simp; omega)) _ | refine Below.alloc ?_ (by first | omega | (simp; done) | (simp; omega)) _ | refine Below.drew ?_ | refine Ext.on _ ?_ (by first | omega | (simp; done) | (simp; omega))
end Go.Proofs.YtpddkljedhghkaaDoor
