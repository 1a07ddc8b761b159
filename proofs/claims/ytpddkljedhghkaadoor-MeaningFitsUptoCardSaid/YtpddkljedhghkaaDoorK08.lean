/-
  A schema and an instance that came in: what they hold, and how many nodes the checks of the schema have. The first table or column with a name: the program's search and the reference's. Find and Column, the program's and the reference's.
-/
import Derived.Test.YtpddkljedhghkaaDoorRows
import Derived.Test.YtpddkljedhghkaaDoorK02
import Derived.Test.YtpddkljedhghkaaDoorK06
import Derived.Test.YtpddkljedhghkaaDoorK07
import Derived.BigQuiet
set_option linter.unusedVariables false
namespace Go.Proofs.YtpddkljedhghkaaDoor
open Go Go.RowKit Go.ChangeShapes Go.WideShapes Go.Joins Go.Deep
def vlC (v : Vl) : List Value := [.int .i64 v.k, .int .i64 v.n, .string v.s]
/-- The rows of one table. -/
structure RwsAt (w : World) (s : Sl) (r : Nat → Sl) (f : Nat → Nat → Vl) : Prop where
  rows : SlAt w 1 s (fun k => [(r k).v])
  vals : ∀ k, k < s.len → SlAt w 3 (r k) (fun j => vlC (f k j))
  txt : ∀ k, k < s.len → ∀ j, j < (r k).len → (f k j).s.size ≤ maxLen
theorem RwsAt.later {w w' : World} {s : Sl} {r : Nat → Sl} {f : Nat → Nat → Vl} (h : RwsAt w s r f) (hb : Below w.heap.size w w') : RwsAt w' s r f := ⟨h.rows.later hb, fun k hk => (h.vals k hk).later hb, h.txt⟩
/-- The lists of rows of an instance. -/
structure InsAt (w : World) (s : Sl) (t : Nat → Sl) (r : Nat → Nat → Sl) (f : Nat → Nat → Nat → Vl) : Prop where
  tabs : SlAt w 1 s (fun i => [(t i).v])
  rws : ∀ i, i < s.len → RwsAt w (t i) (r i) (f i)
theorem InsAt.later {w w' : World} {s : Sl} {t : Nat → Sl} {r : Nat → Nat → Sl} {f : Nat → Nat → Nat → Vl} (h : InsAt w s t r f) (hb : Below w.heap.size w w') : InsAt w' s t r f := ⟨h.tabs.later hb, fun i hi => (h.rws i hi).later hb⟩
theorem cellsI1 : Tryd.prog.cellsOf 61 = 1 := by kernel_rfl
theorem cellsI2 : Tryd.prog.cellsOf 68 = 1 := by kernel_rfl
theorem cellsI3 : Tryd.prog.cellsOf 32 = 1 := by kernel_rfl
theorem cellsI4 : Tryd.prog.cellsOf 39 = 3 := by kernel_rfl
theorem cellsS1 : Tryd.prog.cellsOf 45 = 1 := by kernel_rfl
section
variable {H : Type} {enc : TypeId × Value → H} {w : World} {base : Nat} {spare : Nat → Bool} {held : Bool}
theorem one_struct1B {P : Program} {t : TypeId} {f0 : Field} {fuel : Nat} {cs : List Value} {x : DataW H × List MemPlace} (ht : P.underlying t = some (.struct #[f0])) (hone : oneCellFields P #[f0] = true) (hC : P.cellsOf t = 1)
    (h : DataW.trod enc P w base spare held fuel t cs = some x) : ∃ c0 y0 n, fuel = n + 1 ∧ x.1 = .agg [y0.1] ∧ cs = [c0] ∧ DataW.trod enc P w base spare held n f0.type [c0] = some y0 := by
  obtain ⟨xs, n, hn, hx, hl, hlen, hg⟩ := DataW.trod_struct ht h
  obtain ⟨c0, rfl⟩ := list1' (hl.trans hC)
  obtain ⟨o0, k0⟩ := hone_of hone 0 f0 rfl
  match xs, hlen with
  | [y0], _ => exact ⟨c0, y0, n, hn, by rw [hx]; rfl, rfl, by simpa [o0, k0] using hg 0 f0 rfl⟩
theorem trod_struct6B {P : Program} {t : TypeId} {f0 f1 f2 f3 f4 f5 : Field} {fuel : Nat} {cs : List Value} {x : DataW H × List MemPlace} (ht : P.underlying t = some (.struct #[f0, f1, f2, f3, f4, f5])) (hone : oneCellFields P #[f0, f1, f2, f3, f4, f5] = true) (hC : P.cellsOf t = 6)
    (h : DataW.trod enc P w base spare held fuel t cs = some x) : ∃ c0 c1 c2 c3 c4 c5 y0 y1 y2 y3 y4 y5 n, fuel = n + 1 ∧ x.1 = .agg [y0.1, y1.1, y2.1, y3.1, y4.1, y5.1] ∧ cs = [c0, c1, c2, c3, c4, c5] ∧ DataW.trod enc P w base spare held n f0.type [c0] = some y0 ∧ DataW.trod enc P w base spare held n f1.type [c1] = some y1 ∧
      DataW.trod enc P w base spare held n f2.type [c2] = some y2 ∧ DataW.trod enc P w base spare held n f3.type [c3] = some y3 ∧ DataW.trod enc P w base spare held n f4.type [c4] = some y4 ∧ DataW.trod enc P w base spare held n f5.type [c5] = some y5 := by
  obtain ⟨xs, n, hn, hx, hl, hlen, hg⟩ := DataW.trod_struct ht h
  obtain ⟨c0, c1, c2, c3, c4, c5, rfl⟩ := list6 (hl.trans hC)
  obtain ⟨o0, k0⟩ := hone_of hone 0 f0 rfl
  obtain ⟨o1, k1⟩ := hone_of hone 1 f1 rfl
  obtain ⟨o2, k2⟩ := hone_of hone 2 f2 rfl
  obtain ⟨o3, k3⟩ := hone_of hone 3 f3 rfl
  obtain ⟨o4, k4⟩ := hone_of hone 4 f4 rfl
  obtain ⟨o5, k5⟩ := hone_of hone 5 f5 rfl
  match xs, hlen with
  | [y0, y1, y2, y3, y4, y5], _ =>
    exact ⟨c0, c1, c2, c3, c4, c5, y0, y1, y2, y3, y4, y5, n, hn, by rw [hx]; rfl, rfl, by simpa [o0, k0] using hg 0 f0 rfl, by simpa [o1, k1] using hg 1 f1 rfl, by simpa [o2, k2] using hg 2 f2 rfl, by simpa [o3, k3] using hg 3 f3 rfl, by simpa [o4, k4] using hg 4 f4 rfl, by simpa [o5, k5] using hg 5 f5 rfl⟩
theorem open_slB {P : Program} {t e : TypeId} {k fuel : Nat} {cs : List Value} {x : DataW H × List MemPlace} (ht : P.underlying t = some (.slice e)) (hk : P.cellsOf e = k) (hk0 : 0 < k) (h : DataW.trod enc P w base spare held fuel t cs = some x) :
    ∃ (s : Sl) (cell : Nat → List Value) (elems : List (DataW H × List MemPlace)), cs = [s.v] ∧ SlAt w k s cell ∧ elems.length = s.len ∧ Rows.uptoBulkAll (elems.map (·.1)) + 1 ≤ Rows.uptoBulk x.1 ∧ ∀ i, i < s.len → (cell i).length = k ∧ ∃ m y, m < fuel ∧ elems[i]? = some y ∧ DataW.trod enc P w base spare held m e (cell i) = some y := by
  rcases DataW.trod_slice ht h with ⟨rfl, rfl⟩ | ⟨a, len, cap, elems, rest, n, hn, rfl, rfl, hb, hl, hm, hlen, hel, _, _⟩
  · exact ⟨Sl.z, fun _ => [], [], rfl, ⟨Nat.le_refl _, Nat.zero_le _, fun _ => ⟨rfl, rfl⟩, fun i hi => absurd hi (by simp [Sl.z])⟩, rfl, by simp [Rows.uptoBulk, Rows.uptoBulkAll], fun i hi => absurd hi (by simp [Sl.z])⟩
  · have hi : ∀ i, i < len → ∃ cs' : List Value, cs'.length = k ∧ (∃ m y, m < fuel ∧ elems[i]? = some y ∧ DataW.trod enc P w base spare held m e cs' = some y) ∧ ∀ j, j < k → w.cell? ((a.add (i * k)).add j) = cs'[j]? := fun i hil => by
      have h1 := hel i hil
      rw [List.getElem?_eq_getElem (by omega), hk] at h1
      obtain ⟨cs', hc, ht'⟩ := Option.bind_eq_some_iff.1 h1
      obtain ⟨_, hcl, hat⟩ := World.cells?_some hc
      exact ⟨cs', hcl, ⟨n, _, by omega, List.getElem?_eq_getElem (by omega), ht'⟩, fun j hj => by rw [hat j hj, List.getElem?_eq_getElem (by omega)]⟩
    obtain ⟨u, hu⟩ := Go.Deep.choose_lt hi
    obtain ⟨b, off, spot⟩ := a
    refine ⟨⟨some ⟨b, off, spot⟩, len, cap⟩, u, elems, rfl, ⟨hl, hm, (fun h => by cases h), fun i hil => ?_⟩, hlen, by simp only [Rows.uptoBulk]; omega, fun i hil => ⟨(hu i hil).1, (hu i hil).2.1⟩⟩
    have hil2 : i < len := hil
    have h0 := (hu i hil).2.2 0 hk0
    have hln := (hu i hil).1
    rw [List.getElem?_eq_getElem (by omega)] at h0
    have hspot : spot = none := by
      have h1 := (hu 0 (by omega)).2.2 0 hk0
      have hl1 := (hu 0 (by omega)).1
      rw [List.getElem?_eq_getElem (by omega), Nat.zero_mul, Go.Deep.add_add] at h1
      simpa [Addr.add] using World.cell?_spot h1
    subst hspot
    have hadd2 : ∀ o j, (⟨b, o, none⟩ : Addr).add j = ⟨b, o + j, none⟩ := fun o j => by unfold Addr.add; split <;> simp_all
    refine ⟨b, off, rfl, cells_below (p := ⟨b, off + i * k + 0, none⟩) (by rw [hadd2, hadd2] at h0; exact h0), fun j hj => ?_⟩
    have h3 := (hu i hil).2.2 j hj
    rwa [hadd2, hadd2] at h3
theorem bulk_of_mem : ∀ {l : List (DataW H)} {i : Nat} {z : DataW H}, l[i]? = some z → Rows.uptoBulk z ≤ Rows.uptoBulkAll l
  | [], i, z, h => by simp at h
  | d :: r, 0, z, h => by
    obtain rfl : d = z := by simpa using h
    simp only [Rows.uptoBulkAll]; omega
  | d :: r, i + 1, z, h => by
    have := bulk_of_mem (l := r) (i := i) (z := z) (by simpa using h)
    simp only [Rows.uptoBulkAll]; omega
/-- So many nodes are in all of them if no more is in each. -/
theorem siz_list (u : Nat → Ex) : ∀ (elems : List (DataW H × List MemPlace)), (∀ i z, elems[i]? = some z → 2 * sizE (u i) ≤ Rows.uptoBulk z.1) → 2 * sizL ((List.range elems.length).map u) ≤ Rows.uptoBulkAll (elems.map (·.1)) := by
  intro elems
  induction elems generalizing u with
  | nil => intro _; simp [sizL]
  | cons z r ih =>
    intro h
    rw [List.length_cons, List.range_succ_eq_map, List.map_cons, List.map_map, sizL, List.map_cons, Rows.uptoBulkAll]
    have h0 := h 0 z rfl
    have h1 := ih (u ∘ Nat.succ) fun i z' hz => h (i + 1) z' (by simpa using hz)
    omega
set_option maxRecDepth 100000 in
theorem open_kidsS : ∀ (fuel : Nat) (cs : List Value) (x : DataW H × List MemPlace), DataW.trod enc Tryd.prog w base spare held fuel 28 cs = some x → ∃ a len cap l, cs = [.slice a len cap] ∧ Kids w (fun _ => True) a len cap l ∧ 2 * sizL l + 1 ≤ Rows.uptoBulk x.1 := by
  intro fuel
  induction fuel using Nat.strongRecOn with
  | _ fuel ih =>
    intro cs x h
    rcases DataW.trod_slice Tryd.underlying28 h with ⟨rfl, rfl⟩ | ⟨a, len, cap, elems, rest, n, hn, rfl, rfl, hb, hl, hm, hlen, hel, _, _⟩
    · exact ⟨none, 0, 0, [], rfl, .none, by simp [sizL, Rows.uptoBulk]⟩
    · have hi : ∀ i, i < len → ∃ (e : Ex) (a' : Option Addr) (len' cap' : Nat), ((w.cell? (a.add (i * 6)) = some (.int .i64 e.op) ∧ w.cell? (a.add (i * 6 + 1)) = some (.int .i64 e.ty) ∧ w.cell? (a.add (i * 6 + 2)) = some (.int .i64 e.num) ∧
          w.cell? (a.add (i * 6 + 3)) = some (.string e.text) ∧ w.cell? (a.add (i * 6 + 4)) = some (.int .i64 e.col) ∧ w.cell? (a.add (i * 6 + 5)) = some (.slice a' len' cap')) ∧ e.fine ∧ Kids w (fun _ => True) a' len' cap' e.kids) ∧ ∀ z, elems[i]? = some z → 2 * sizE e ≤ Rows.uptoBulk z.1 := fun i hil => by
        have h1 := hel i hil
        rw [cellsEx] at h1
        rw [List.getElem?_eq_getElem (by omega)] at h1
        obtain ⟨cs', hc, ht⟩ := Option.bind_eq_some_iff.1 h1
        obtain ⟨_, hcl, hat⟩ := World.cells?_some hc
        obtain ⟨c0, c1, c2, c3, c4, c5, y0, y1, y2, y3, y4, y5, m, hnm, hx, rfl, t0, t1, t2, t3, t4, t5⟩ := trod_struct6B Tryd.underlying30 (by kernel_rfl) cellsEx ht
        obtain ⟨k0, e0, z0, f0⟩ := DataW.trod_int Tryd.underlying3 t0
        obtain ⟨k1, e1, z1, f1⟩ := DataW.trod_int Tryd.underlying3 t1
        obtain ⟨k2, e2, z2, f2⟩ := DataW.trod_int Tryd.underlying2 t2
        obtain ⟨k3, e3, z3, f3⟩ := DataW.trod_string Tryd.underlying9 t3
        obtain ⟨k4, e4, z4, f4⟩ := DataW.trod_int Tryd.underlying3 t4
        obtain ⟨a', len', cap', l', e5, hk, hbk⟩ := ih m (by omega) _ _ t5
        simp only [List.cons.injEq, and_true] at e0 e1 e2 e3 e4 e5
        subst e0 e1 e2 e3 e4 e5
        refine ⟨.mk k0 k1 k2 k3 k4 l', a', len', cap', ⟨⟨?_, ?_, ?_, ?_, ?_, ?_⟩, ⟨f0, f1, f2, f3, f4⟩, hk⟩, fun z hz => ?_⟩
        · have := hat 0 (by omega); rw [Go.Deep.add_add] at this; exact this
        · have := hat 1 (by omega); rw [Go.Deep.add_add] at this; exact this
        · have := hat 2 (by omega); rw [Go.Deep.add_add] at this; exact this
        · have := hat 3 (by omega); rw [Go.Deep.add_add] at this; exact this
        · have := hat 4 (by omega); rw [Go.Deep.add_add] at this; exact this
        · have := hat 5 (by omega); rw [Go.Deep.add_add] at this; exact this
        · rw [List.getElem?_eq_getElem (by omega)] at hz
          obtain rfl := Option.some.inj hz
          rw [hx, sizE]
          simp only [Rows.uptoBulk, Rows.uptoBulkAll, z0, z1, z2]
          omega
      obtain ⟨u, hu⟩ := Go.Deep.choose_lt hi
      have hbk : 2 * sizL ((List.range elems.length).map u) ≤ Rows.uptoBulkAll (elems.map (·.1)) := siz_list u elems fun i z hz => by
        have hil : i < len := by have := (List.getElem?_eq_some_iff.1 hz).1; omega
        obtain ⟨_, _, _, _, h2⟩ := hu i hil
        exact h2 z hz
      have hu' : ∀ i, i < len → ∃ (a' : Option Addr) (len' cap' : Nat), (w.cell? (a.add (i * 6)) = some (.int .i64 (u i).op) ∧ w.cell? (a.add (i * 6 + 1)) = some (.int .i64 (u i).ty) ∧ w.cell? (a.add (i * 6 + 2)) = some (.int .i64 (u i).num) ∧
          w.cell? (a.add (i * 6 + 3)) = some (.string (u i).text) ∧ w.cell? (a.add (i * 6 + 4)) = some (.int .i64 (u i).col) ∧ w.cell? (a.add (i * 6 + 5)) = some (.slice a' len' cap')) ∧ (u i).fine ∧ Kids w (fun _ => True) a' len' cap' (u i).kids := fun i hil => by
        obtain ⟨a', len', cap', h1, _⟩ := hu i hil
        exact ⟨a', len', cap', h1⟩
      obtain ⟨ad, hu⟩ := Go.Deep.choose_lt hu'
      obtain ⟨lens, hu⟩ := Go.Deep.choose_lt hu
      obtain ⟨caps, hu⟩ := Go.Deep.choose_lt hu
      have hg : ∀ i, i < len → ((List.range len).map u).getD i Ex.z = u i := fun i hi' => by simp [List.getD, hi']
      refine ⟨some a, len, cap, (List.range len).map u, rfl, .mk (some a) len cap _ ad lens caps (by simp) hl hm (fun h => by cases h) (fun i hi' => ?_) (fun i hi' => by rw [hg i hi']; exact (hu i hi').2.1) (fun i hi' => by rw [hg i hi']; exact (hu i hi').2.2), ?_⟩
      · rw [hg i hi']
        obtain ⟨h0, h1, h2, h3, h4, h5⟩ := (hu i hi').1
        obtain ⟨b, off, spot⟩ := a
        have hspot : spot = none := by simpa [Addr.add] using World.cell?_spot (hu 0 (by omega)).1.1
        subst hspot
        have hadd : ∀ j, (⟨b, off, none⟩ : Addr).add j = ⟨b, off + j, none⟩ := fun j => by unfold Addr.add; split <;> simp_all
        rw [hadd] at h0 h1 h2 h3 h4 h5
        exact ⟨b, off, rfl, cells_below h0, trivial, h0, by rw [Nat.add_assoc]; exact h1, by rw [Nat.add_assoc]; exact h2, by rw [Nat.add_assoc]; exact h3, by rw [Nat.add_assoc]; exact h4, by rw [Nat.add_assoc]; exact h5⟩
      · rw [← hlen]
        simp only [Rows.uptoBulk]
        omega
theorem open_tabsS {fuel : Nat} {cs : List Value} {x : DataW H × List MemPlace} (h : DataW.trod enc Tryd.prog w base spare held fuel 43 cs = some x) : ∃ (s : Sl) (tb : Nat → Tb), cs = [s.v] ∧ TabsAt w s tb ∧ ∀ i, i < s.len → 2 * sizL (tb i).checks ≤ Rows.uptoBulk x.1 := by
  obtain ⟨s, cell, elems, rfl, hs, hlen, hbk, hc⟩ := open_slB Tryd.underlying43 cellsT (by omega) h
  have hi : ∀ i, i < s.len → ∃ t : Tb, cell i = t.cells ∧ TbAt w t ∧ 2 * sizL t.checks ≤ Rows.uptoBulk x.1 := fun i hi => by
    obtain ⟨_, m, y, _, hy, ht⟩ := hc i hi
    obtain ⟨c0, c1, c2, c3, c4, c5, y0, y1, y2, y3, y4, y5, n, _, hx, e, t0, t1, t2, t3, t4, t5⟩ := trod_struct6B Tryd.underlying53 (by kernel_rfl) cellsT ht
    obtain ⟨k0, e0, _, f0⟩ := DataW.trod_string Tryd.underlying9 t0
    obtain ⟨s1, g1, e1, h1, h1'⟩ := open_cols t1
    obtain ⟨s2, g2, e2, h2⟩ := open_ints t2
    obtain ⟨s3, g3, q3, e3, h3, h3'⟩ := open_uqs t3
    obtain ⟨s4, g4, q4, r4, e4, h4, h4'⟩ := open_fks t4
    obtain ⟨a5, l5, p5, l, e5, h5, hb5⟩ := open_kidsS _ _ _ t5
    simp only [List.cons.injEq, and_true] at e0 e1 e2 e3 e4 e5
    subst e0 e1 e2 e3 e4 e5
    refine ⟨⟨k0, s1, g1, s2, g2, s3, g3, q3, s4, g4, q4, r4, ⟨a5, l5, p5⟩, l⟩, e, ⟨f0, h1, h1', h2, h3, h3', h4, h4', h5⟩, ?_⟩
    have hm : Rows.uptoBulk y.1 ≤ Rows.uptoBulkAll (elems.map (·.1)) := bulk_of_mem (i := i) (by simp [hy])
    rw [hx] at hm
    simp only [Rows.uptoBulk, Rows.uptoBulkAll] at hm
    show 2 * sizL l ≤ _
    omega
  obtain ⟨tb, ht⟩ := Go.Deep.choose_lt hi
  exact ⟨s, tb, rfl, ⟨hs.congr fun i hi => (ht i hi).1, fun i hi => (ht i hi).2.1⟩, fun i hi => (ht i hi).2.2⟩
set_option maxRecDepth 100000 in
theorem open_schemaS {r : Reach} {b0 : Nat} {v : Value} {d : DataW H} {p : List MemPlace} (hval : Value.okWide Tryd.prog w r b0 45 v) (h : DataW.Trod enc Tryd.prog w base spare held 45 v d p) :
    ∃ (sl : Sl) (tb : Nat → Tb), v = .agg #[.slice sl.a sl.len sl.cap] ∧ TabsAt w sl tb ∧ ∀ i, i < sl.len → 2 * sizL (tb i).checks ≤ Rows.uptoBulk d := by
  obtain ⟨cs, rfl, hsz⟩ := okWide_struct Tryd.underlying45 hval
  obtain ⟨fuel, hf⟩ := h
  obtain ⟨c0, y0, m, hnm, hx, hcs, t0⟩ := one_struct1B Tryd.underlying45 (by kernel_rfl) cellsS1 hf
  obtain ⟨sl, tb, e0, hk, hb⟩ := open_tabsS t0
  simp only [List.cons.injEq, and_true] at e0
  subst e0
  refine ⟨sl, tb, ?_, hk, fun i hi => ?_⟩
  · obtain ⟨l⟩ := cs
    simp [Value.cells] at hcs
    simp [hcs, Sl.v]
  · have hx' : d = .agg [y0.1] := hx
    have := hb i hi
    rw [hx']
    simp only [Rows.uptoBulk, Rows.uptoBulkAll]
    omega
set_option maxRecDepth 100000 in
theorem trodVI {fuel : Nat} {cs : List Value} {x : DataW H × List MemPlace} (h : DataW.trod enc Tryd.prog w base spare held fuel 39 cs = some x) : ∃ v : Vl, cs = vlC v ∧ v.s.size ≤ maxLen := by
  obtain ⟨c0, c1, c2, y0, y1, y2, n, _, e, t0, t1, t2⟩ := one_struct3 Tryd.underlying39 (by kernel_rfl) cellsI4 h
  obtain ⟨k0, e0, _, f0⟩ := DataW.trod_int Tryd.underlying3 t0
  obtain ⟨k1, e1, _, f1⟩ := DataW.trod_int Tryd.underlying2 t1
  obtain ⟨k2, e2, _, f2⟩ := DataW.trod_string Tryd.underlying9 t2
  simp only [List.cons.injEq, and_true] at e0 e1 e2
  subst e0 e1 e2
  exact ⟨⟨k0, k1, k2⟩, e, f2⟩
theorem open_rowI {fuel : Nat} {cs : List Value} {x : DataW H × List MemPlace} (h : DataW.trod enc Tryd.prog w base spare held fuel 32 cs = some x) : ∃ (s : Sl) (f : Nat → Vl), cs = [s.v] ∧ SlAt w 3 s (fun j => vlC (f j)) ∧ ∀ j, j < s.len → (f j).s.size ≤ maxLen := by
  obtain ⟨s, cell, rfl, hs, hc⟩ := open_sl Tryd.underlying32 cellsI4 (by omega) h
  have hi : ∀ i, i < s.len → ∃ v : Vl, cell i = vlC v ∧ v.s.size ≤ maxLen := fun i hi => by
    obtain ⟨_, m, y, _, ht⟩ := hc i hi
    exact trodVI ht
  obtain ⟨f, hf⟩ := Go.Deep.choose_lt hi
  exact ⟨s, f, rfl, hs.congr fun i hi => (hf i hi).1, fun i hi => (hf i hi).2⟩
theorem open_rowsI {fuel : Nat} {cs : List Value} {x : DataW H × List MemPlace} (h : DataW.trod enc Tryd.prog w base spare held fuel 68 cs = some x) : ∃ (s : Sl) (r : Nat → Sl) (f : Nat → Nat → Vl), cs = [s.v] ∧ RwsAt w s r f := by
  obtain ⟨s, cell, rfl, hs, hc⟩ := open_sl Tryd.underlying68 cellsI3 (by omega) h
  have hi : ∀ i, i < s.len → ∃ (u : Sl) (g : Nat → Vl), cell i = [u.v] ∧ SlAt w 3 u (fun j => vlC (g j)) ∧ ∀ j, j < u.len → (g j).s.size ≤ maxLen := fun i hi => by
    obtain ⟨_, m, y, _, ht⟩ := hc i hi
    exact open_rowI ht
  obtain ⟨r, hr⟩ := Go.Deep.choose_lt hi
  obtain ⟨f, hf⟩ := Go.Deep.choose_lt hr
  exact ⟨s, r, f, rfl, hs.congr fun i hi => (hf i hi).1, fun i hi => (hf i hi).2.1, fun i hi => (hf i hi).2.2⟩
set_option maxRecDepth 100000 in
theorem open_ins {r : Reach} {b0 : Nat} {v : Value} {d : DataW H} {p : List MemPlace} (hval : Value.okWide Tryd.prog w r b0 61 v) (h : DataW.Trod enc Tryd.prog w base spare held 61 v d p) :
    ∃ (s : Sl) (t : Nat → Sl) (r : Nat → Nat → Sl) (f : Nat → Nat → Nat → Vl), v = .agg #[.slice s.a s.len s.cap] ∧ InsAt w s t r f := by
  obtain ⟨cs, rfl, hsz⟩ := okWide_struct Tryd.underlying61 hval
  obtain ⟨fuel, hf⟩ := h
  obtain ⟨c0, y0, m, hnm, hx, hcs, t0⟩ := one_struct1B Tryd.underlying61 (by kernel_rfl) cellsI1 hf
  obtain ⟨s, cell, e0, hs, hc⟩ := open_sl Tryd.underlying59 cellsI2 (by omega) t0
  have hi : ∀ i, i < s.len → ∃ (u : Sl) (r : Nat → Sl) (f : Nat → Nat → Vl), cell i = [u.v] ∧ RwsAt w u r f := fun i hi => by
    obtain ⟨_, m, y, _, ht⟩ := hc i hi
    exact open_rowsI ht
  obtain ⟨t, ht⟩ := Go.Deep.choose_lt hi
  obtain ⟨r, hr⟩ := Go.Deep.choose_lt ht
  obtain ⟨f, hf⟩ := Go.Deep.choose_lt hr
  simp only [List.cons.injEq, and_true] at e0
  subst e0
  refine ⟨s, t, r, f, ?_, hs.congr fun i hi => (hf i hi).1, fun i hi => (hf i hi).2⟩
  obtain ⟨l⟩ := cs
  simp [Value.cells] at hcs
  simp [hcs, Sl.v]
end
end Go.Proofs.YtpddkljedhghkaaDoor
set_option linter.unusedVariables false
namespace Go.Proofs.YtpddkljedhghkaaDoor
open Go Go.RowKit Go.Deep
/-- The first index from j on, of m, with the property; -1 if there is none. -/
def idx (p : Nat → Bool) : Nat → Nat → Int
  | _, 0 => -1
  | j, m + 1 => if p j = true then (j : Int) else idx p (j + 1) m
theorem idx_stop {p : Nat → Bool} {j m : Nat} (h : p j = true) : idx p j (m + 1) = j := by rw [idx, if_pos h]
theorem idx_go {p : Nat → Bool} {j m : Nat} (h : p j = false) : idx p j (m + 1) = idx p (j + 1) m := by rw [idx, if_neg (by rw [h]; exact Bool.false_ne_true)]
theorem idx_bd (p : Nat → Bool) : ∀ m j, -1 ≤ idx p j m ∧ (idx p j m < 0 ∨ idx p j m < j + m)
  | 0, j => by simp [idx]
  | m + 1, j => by
    unfold idx
    split
    · omega
    · have := idx_bd p m (j + 1); omega
def nameP (tb : Nat → Tb) (s : ByteArray) (i : Nat) : Bool := (tb i).name.toList == s.toList
set_option maxHeartbeats 2000000 in
set_option maxRecDepth 20000 in
theorem tabFn_calls (t : Tb) (s : ByteArray) (b : Nat) (w : World) (hb : w.cell? ⟨b, 0, none⟩ = some (.string s)) (hlt : b < w.heap.size) :
    Calls Tryd.prog 96 #[.agg #[.string t.name, .slice t.cs.a t.cs.len t.cs.cap, .slice t.ps.a t.ps.len t.ps.cap, .slice t.us.a t.us.len t.us.cap, .slice t.fs.a t.fs.len t.fs.cap, .slice t.ks.a t.ks.len t.ks.cap], .pointer (some ⟨b, 0, none⟩)] w fun r w' => r = .returned (.bool (t.name.toList == s.toList)) ∧ Cls w w' := by
  go_enter Tryd.func96, Tryd.ntmps96
  go_wp2_with fail
  go_ret
  refine ⟨ret_bool rfl, Cls.of ?_⟩
  repeat first | with_reducible exact Below.refl _ _ | with_reducible refine Below.setCell ?_ (by first | omega | (simp; done) | (simp; omega)) _ | with_reducible refine Below.alloc ?_ (by first | omega | (simp; done) | (simp; omega)) _ | with_reducible refine Below.drew ?_ | with_reducible refine Ext.on _ ?_ (by first | omega | (simp; done) | (simp; omega))
set_option maxHeartbeats 4000000 in
set_option maxRecDepth 20000 in
theorem indexT_calls (sl : Sl) (tb : Nat → Tb) (s : ByteArray) (bx : Nat) (w : World) (h : TabsAt w sl tb) (hb : w.cell? ⟨bx, 0, none⟩ = some (.string s)) (hlt : bx < w.heap.size) :
    Calls Tryd.prog 125 #[.slice sl.a sl.len sl.cap, .func (.func 96) #[] #[.pointer (some ⟨bx, 0, none⟩)]] w fun r w' => r = .returned (.int .i64 (idx (nameP tb s) 0 sl.len)) ∧ Cls w w' := by
  have hle := h.1.1
  have hmax := h.1.2.1
  unfold maxLen at hmax
  have H := Lib.hid h
  obtain ⟨sa, sn, sc⟩ := sl
  simp only at hle hmax
  clear h
  go_enter Tryd.func125, Tryd.ntmps125
  go_wp2_with fail
  go_loopw [8] (fun i wr => ∃ j : Nat, j ≤ sn ∧ i = .int .i64 j ∧ idx (nameP tb s) 0 sn = idx (nameP tb s) j (sn - j) ∧ Cls w wr) (fun i _ => sn - (intOf i).toNat)
  case atStart => exact ⟨0, Nat.zero_le _, rfl, rfl, Cls.of (Below.refl _ _)⟩
  case round =>
    obtain ⟨j, hj, rfl, he, x, rfl⟩ := hrel
    have HE := Lib.hid he
    clear he
    have xs := x.size
    by_cases hltj : j < sn
    · obtain ⟨b, off, ha, hb2, hc⟩ := H.out.1.2.2.2 j hltj
      simp only at ha
      subst ha
      have q0 := hc 0 (by omega)
      have q1 := hc 1 (by omega)
      have q2 := hc 2 (by omega)
      have q3 := hc 3 (by omega)
      have q4 := hc 4 (by omega)
      have q5 := hc 5 (by omega)
      simp only [Tb.cells, Sl.v, List.getElem?_cons_zero, List.getElem?_cons_succ, Nat.add_zero] at q0 q1 q2 q3 q4 q5
      have hN : Hid (nameP tb s j = ((tb j).name.toList == s.toList)) := Lib.hid rfl
      have hS : Hid (sn - j = (sn - (j + 1)) + 1) := Lib.hid (by omega)
      clear hc
      generalize tb j = t at *
      cases hbb : t.name.toList == s.toList
      all_goals
        have HB := Lib.hid hbb
        have C1 : Hid (∀ W, Below w.heap.size w W → Calls Tryd.prog 96 #[.agg #[.string t.name, .slice t.cs.a t.cs.len t.cs.cap, .slice t.ps.a t.ps.len t.ps.cap, .slice t.us.a t.us.len t.us.cap, .slice t.fs.a t.fs.len t.fs.cap, .slice t.ks.a t.ks.len t.ks.cap], .pointer (some ⟨bx, 0, none⟩)] W fun r w' => r = .returned (.bool (t.name.toList == s.toList)) ∧ Cls W w') := Lib.hid (fun W hW => tabFn_calls t s bx W (by rw [hW.cell (p := ⟨bx, 0, none⟩) hlt]; exact hb) (Nat.lt_of_lt_of_le hlt hW.size))
        rw [hbb] at C1
        clear hbb
        go_wp2_with (go_at_call 96; ((with_reducible refine (Cls.call (C1.out _ x.below)).mono ?_); rintro r _ ⟨rfl, y, rfl⟩))
      · go_roundw
        case rel => exact ⟨j + 1, by omega, by go_num, by rw [HE.out, hS.out, idx_go (by rw [hN.out, HB.out])], y, rfl⟩
        case measure => simp [intOf]; omega
      · go_ret
        exact ⟨ret_int (by rw [HE.out, hS.out, idx_stop (by rw [hN.out, HB.out])]), y, rfl⟩
    · have hz : Hid (sn - j = 0) := Lib.hid (by omega)
      go_wp2_with fail
      go_ret
      exact ⟨ret_int (by rw [HE.out, hz.out]; rfl), x, rfl⟩
end Go.Proofs.YtpddkljedhghkaaDoor
set_option linter.unusedVariables false
namespace Go.Proofs.YtpddkljedhghkaaDoor
open Go Go.RowKit Go.Deep
def at0 (r : Int) : Int := if r < 0 then 0 else r
set_option maxHeartbeats 2000000 in
set_option maxRecDepth 20000 in
theorem firstT_calls (sl : Sl) (tb : Nat → Tb) (s : ByteArray) (bx : Nat) (w : World) (h : TabsAt w sl tb) (hb : w.cell? ⟨bx, 0, none⟩ = some (.string s)) (hlt : bx < w.heap.size) :
    Calls Tryd.prog 95 #[.slice sl.a sl.len sl.cap, .func (.func 96) #[] #[.pointer (some ⟨bx, 0, none⟩)]] w fun r w' => r = .returned (.tuple #[.int .i64 (at0 (idx (nameP tb s) 0 sl.len)), .bool (decide (0 ≤ idx (nameP tb s) 0 sl.len))]) ∧ Cls w w' := by
  have C1 := Lib.hid (indexT_calls sl tb s bx w h hb hlt)
  have hbd := idx_bd (nameP tb s) sl.len 0
  clear h hb
  generalize idx (nameP tb s) 0 sl.len = r0 at C1 hbd ⊢
  by_cases hr : r0 < 0
  · have e1 : at0 r0 = 0 := by unfold at0; rw [if_pos hr]
    have d1 : decide (0 ≤ r0) = false := by simp; omega
    rw [e1, d1]
    go_enter Tryd.func95, Tryd.ntmps95
    go_wp2_with (go_at_call 125; ((with_reducible refine C1.out.mono ?_); rintro r _ ⟨rfl, y, rfl⟩))
    all_goals first
      | (exfalso; omega)
      | (go_ret2
         exact ⟨rfl, y, rfl⟩)
  · have e1 : at0 r0 = r0 := by unfold at0; rw [if_neg hr]
    have d1 : decide (0 ≤ r0) = true := by simp; omega
    rw [e1, d1]
    go_enter Tryd.func95, Tryd.ntmps95
    go_wp2_with (go_at_call 125; ((with_reducible refine C1.out.mono ?_); rintro r _ ⟨rfl, y, rfl⟩))
    all_goals first
      | (exfalso; omega)
      | (go_ret2
         exact ⟨rfl, y, rfl⟩)
set_option maxHeartbeats 2000000 in
set_option maxRecDepth 20000 in
theorem Find_calls (sl : Sl) (tb : Nat → Tb) (s : ByteArray) (w : World) (h : TabsAt w sl tb) :
    Calls Tryd.prog 53 #[.agg #[.slice sl.a sl.len sl.cap], .string s] w fun r w' => r = .returned (.tuple #[.int .i64 (at0 (idx (nameP tb s) 0 sl.len)), .bool (decide (0 ≤ idx (nameP tb s) 0 sl.len))]) ∧ Cls w w' := by
  have C1 : Hid (∀ W, Below w.heap.size w W → W.cell? ⟨w.heap.size + 1, 0, none⟩ = some (.string s) → w.heap.size + 1 < W.heap.size → Calls Tryd.prog 95 #[.slice sl.a sl.len sl.cap, .func (.func 96) #[] #[.pointer (some ⟨w.heap.size + 1, 0, none⟩)]] W fun r w' => r = .returned (.tuple #[.int .i64 (at0 (idx (nameP tb s) 0 sl.len)), .bool (decide (0 ≤ idx (nameP tb s) 0 sl.len))]) ∧ Cls W w') :=
    Lib.hid (fun W hW hc hl => firstT_calls sl tb s _ W (h.later hW) hc hl)
  clear h
  go_enter Tryd.func53, Tryd.ntmps53
  go_wp2_with (go_at_call 95; ((with_reducible refine (C1.out _ ?_ ?_ ?_).mono ?_); (· (repeat first | with_reducible exact Below.refl _ _ | with_reducible refine Below.setCell ?_ (by first | omega | (simp; done) | (simp; omega)) _ | with_reducible refine Below.alloc ?_ (by first | omega | (simp; done) | (simp; omega)) _ | with_reducible refine Below.drew ?_ | with_reducible refine Ext.on _ ?_ (by first | omega | (simp; done) | (simp; omega)))); (· simp [go_sem]); (· simp); rintro r _ ⟨rfl, y, rfl⟩))
  go_ret2
  refine ⟨rfl, Cls.of ?_⟩
  repeat first | with_reducible exact Below.refl _ _ | with_reducible refine Below.setCell ?_ (by first | omega | (simp; done) | (simp; omega)) _ | with_reducible refine Below.alloc ?_ (by first | omega | (simp; done) | (simp; omega)) _ | with_reducible refine Below.drew ?_ | with_reducible refine Ext.on _ ?_ (by first | omega | (simp; done) | (simp; omega))
set_option maxHeartbeats 2000000 in
set_option maxRecDepth 20000 in
theorem rFind_calls (sl : Sl) (tb : Nat → Tb) (s : ByteArray) (w : World) (h : TabsAt w sl tb) :
    Calls Tryd.prog 59 #[.agg #[.slice sl.a sl.len sl.cap], .string s] w fun r w' => r = .returned (.tuple #[.int .i64 (at0 (idx (nameP tb s) 0 sl.len)), .bool (decide (0 ≤ idx (nameP tb s) 0 sl.len))]) ∧ Cls w w' := by
  have hle := h.1.1
  have hmax := h.1.2.1
  unfold maxLen at hmax
  have H := Lib.hid h
  obtain ⟨sa, sn, sc⟩ := sl
  simp only at hle hmax
  clear h
  go_enter Tryd.func59, Tryd.ntmps59
  go_wp2_with fail
  go_loopw [6] (fun i wr => ∃ j : Nat, j ≤ sn ∧ i = .int .i64 j ∧ idx (nameP tb s) 0 sn = idx (nameP tb s) j (sn - j) ∧ Cls (w.alloc (.cells #[.slice sa sn sc] 45)) wr) (fun i _ => sn - (intOf i).toNat)
  case atStart => exact ⟨0, Nat.zero_le _, rfl, rfl, Cls.of (Below.refl _ _)⟩
  case round =>
    obtain ⟨j, hj, rfl, he, x, rfl⟩ := hrel
    have HE := Lib.hid he
    clear he
    by_cases hltj : j < sn
    · obtain ⟨b, off, ha, hb2, hc⟩ := H.out.1.2.2.2 j hltj
      simp only at ha
      subst ha
      have q0 := hc 0 (by omega)
      have hb1 : b < w.heap.size + 1 := by omega
      simp only [Tb.cells, Sl.v, List.getElem?_cons_zero, Nat.add_zero] at q0
      have hN : Hid (nameP tb s j = ((tb j).name.toList == s.toList)) := Lib.hid rfl
      have hS : Hid (sn - j = (sn - (j + 1)) + 1) := Lib.hid (by omega)
      clear hc
      generalize tb j = t at *
      cases hbb : t.name.toList == s.toList
      · have HB := Lib.hid hbb
        go_wp2_with fail
        go_roundw
        case rel => exact ⟨j + 1, by omega, by go_num, by rw [HE.out, hS.out, idx_go (by rw [hN.out, HB.out])], x, rfl⟩
        case measure => simp [intOf]; omega
      · have HB := Lib.hid hbb
        have hI : idx (nameP tb s) 0 sn = j := by rw [HE.out, hS.out, idx_stop (by rw [hN.out, HB.out])]
        have e1 : at0 (j : Int) = j := by unfold at0; rw [if_neg (by omega)]
        have d1 : decide (0 ≤ (j : Int)) = true := by simp
        have hI2 := Lib.hid hI
        clear hI
        go_wp2_with fail
        go_ret2
        refine ⟨?_, Cls.of ?_⟩
        · show _ = Ending.returned (.tuple #[.int .i64 (at0 (idx (nameP tb s) 0 sn)), .bool (decide (0 ≤ idx (nameP tb s) 0 sn))])
          rw [hI2.out, e1, d1]; rfl
        · repeat first | with_reducible exact Below.refl _ _ | with_reducible refine Below.setCell ?_ (by first | omega | (simp; done) | (simp; omega)) _ | with_reducible refine Below.alloc ?_ (by first | omega | (simp; done) | (simp; omega)) _ | with_reducible refine Below.drew ?_ | with_reducible refine Ext.on _ ?_ (by first | omega | (simp; done) | (simp; omega))
    · have hz : sn - j = 0 := by omega
      have hI : idx (nameP tb s) 0 sn = -1 := by rw [HE.out, hz]; rfl
      have hI2 := Lib.hid hI
      clear hI hz
      go_wp2_with fail
      go_ret2
      refine ⟨?_, Cls.of ?_⟩
      · show _ = Ending.returned (.tuple #[.int .i64 (at0 (idx (nameP tb s) 0 sn)), .bool (decide (0 ≤ idx (nameP tb s) 0 sn))])
        rw [hI2.out]; rfl
      · repeat first | with_reducible exact Below.refl _ _ | with_reducible refine Below.setCell ?_ (by first | omega | (simp; done) | (simp; omega)) _ | with_reducible refine Below.alloc ?_ (by first | omega | (simp; done) | (simp; omega)) _ | with_reducible refine Below.drew ?_ | with_reducible refine Ext.on _ ?_ (by first | omega | (simp; done) | (simp; omega))
end Go.Proofs.YtpddkljedhghkaaDoor
