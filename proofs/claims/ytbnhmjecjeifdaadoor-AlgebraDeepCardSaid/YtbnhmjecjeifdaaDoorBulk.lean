/-
  How much an expression that came in holds, against the bulk of what was read.
-/
import Derived.Test.YtbnhmjecjeifdaaDoorRows
import Derived.Test.YtbnhmjecjeifdaaDoorTree
set_option linter.unusedVariables false
namespace Go.Proofs.YtbnhmjecjeifdaaDoor
open Go Go.RowKit Go.ChangeShapes Go.WideShapes Go.Joins Go.Deep
mutual
/-- The expressions in an expression, and the letters of their texts. -/
def cntE : Ex → Nat
  | .mk _ _ _ s _ l => s.size + 1 + cntL l
def cntL : List Ex → Nat
  | [] => 0
  | k :: r => cntE k + cntL r
end
theorem cntE_eq (e : Ex) : cntE e = e.text.size + 1 + cntL e.kids := by cases e; rw [cntE]; rfl
theorem cntL_append (l m : List Ex) : cntL (l ++ m) = cntL l + cntL m := by
  induction l with
  | nil => simp [cntL]
  | cons x l ih => simp only [List.cons_append, cntL, ih]; omega
theorem cntE_pos (e : Ex) : 1 ≤ cntE e := by rw [cntE_eq]; omega
theorem cntL_mem {l : List Ex} {k : Ex} (h : k ∈ l) : cntE k ≤ cntL l := by
  induction l with
  | nil => cases h
  | cons x r ih =>
    rw [cntL]
    rcases List.mem_cons.1 h with rfl | h
    · omega
    · have := ih h; omega
theorem cntL_len (l : List Ex) : l.length ≤ cntL l := by
  induction l with
  | nil => simp
  | cons x r ih => have := cntE_pos x; rw [cntL, List.length_cons]; omega
section
variable {H : Type} {enc : TypeId × Value → H} {w : World} {base : Nat} {spare : Nat → Bool} {held : Bool}
/-- So much is in all of them if no more is in each. -/
theorem bulk_list (u : Nat → Ex) : ∀ (elems : List (DataW H × List MemPlace)), (∀ i z, elems[i]? = some z → cntE (u i) ≤ Rows.uptoBulk z.1) → cntL ((List.range elems.length).map u) ≤ Rows.uptoBulkAll (elems.map (·.1)) := by
  intro elems
  induction elems generalizing u with
  | nil => intro _; simp [cntL]
  | cons z r ih =>
    intro h
    rw [List.length_cons, List.range_succ_eq_map, List.map_cons, List.map_map, cntL, List.map_cons, Rows.uptoBulkAll]
    have h0 := h 0 z rfl
    have h1 := ih (u ∘ Nat.succ) fun i z' hz => h (i + 1) z' (by simpa using hz)
    omega
theorem trod_struct6B {P : Program} {t : TypeId} {f0 f1 f2 f3 f4 f5 : Field} {fuel : Nat} {cs : List Value} {x : DataW H × List MemPlace} (ht : P.underlying t = some (.struct #[f0, f1, f2, f3, f4, f5])) (hone : oneCellFields P #[f0, f1, f2, f3, f4, f5] = true) (hC : P.cellsOf t = 6)
    (h : DataW.trod enc P w base spare held fuel t cs = some x) : ∃ c0 c1 c2 c3 c4 c5 y0 y1 y2 y3 y4 y5 n, fuel = n + 1 ∧ x.1 = .agg [y0.1, y1.1, y2.1, y3.1, y4.1, y5.1] ∧ cs = [c0, c1, c2, c3, c4, c5] ∧ DataW.trod enc P w base spare held n f0.type [c0] = some y0 ∧ DataW.trod enc P w base spare held n f1.type [c1] = some y1 ∧
      DataW.trod enc P w base spare held n f2.type [c2] = some y2 ∧ DataW.trod enc P w base spare held n f3.type [c3] = some y3 ∧ DataW.trod enc P w base spare held n f4.type [c4] = some y4 ∧ DataW.trod enc P w base spare held n f5.type [c5] = some y5 := by
  obtain ⟨xs, n, hn, hx, hl, hlen, hg⟩ := DataW.trod_struct ht h
  obtain ⟨c0, c1, c2, c3, c4, c5, rfl⟩ := list6 (hl.trans hC)
  obtain ⟨o0, k0⟩ := hone_of hone 0 f0 rfl
  obtain ⟨o1, k1⟩ := hone_of hone 1 f1 rfl
  obtain ⟨o2, k2⟩ := hone_of hone 2 f2 rfl
  obtain ⟨o3, k3⟩ := hone_of hone 3 f3 rfl
  obtain ⟨o4, k4⟩ := hone_of hone 4 f4 rfl
  obtain ⟨o5, k5⟩ := hone_of hone 5 f5 rfl
  match xs, hlen with
  | [y0, y1, y2, y3, y4, y5], _ =>
    exact ⟨c0, c1, c2, c3, c4, c5, y0, y1, y2, y3, y4, y5, n, hn, by rw [hx]; rfl, rfl, by simpa [o0, k0] using hg 0 f0 rfl, by simpa [o1, k1] using hg 1 f1 rfl, by simpa [o2, k2] using hg 2 f2 rfl, by simpa [o3, k3] using hg 3 f3 rfl, by simpa [o4, k4] using hg 4 f4 rfl, by simpa [o5, k5] using hg 5 f5 rfl⟩
set_option maxRecDepth 100000 in
theorem open_kidsB : ∀ (fuel : Nat) (cs : List Value) (x : DataW H × List MemPlace), DataW.trod enc Tryd.prog w base spare held fuel 22 cs = some x → ∃ a len cap l, cs = [.slice a len cap] ∧ Kids w (fun _ => True) a len cap l ∧ cntL l + 1 ≤ Rows.uptoBulk x.1 := by
  intro fuel
  induction fuel using Nat.strongRecOn with
  | _ fuel ih =>
    intro cs x h
    rcases DataW.trod_slice Tryd.underlying22 h with ⟨rfl, rfl⟩ | ⟨a, len, cap, elems, rest, n, hn, rfl, rfl, hb, hl, hm, hlen, hel, _, _⟩
    · exact ⟨none, 0, 0, [], rfl, .none, by simp [cntL, Rows.uptoBulk]⟩
    · have hi : ∀ i, i < len → ∃ (e : Ex) (a' : Option Addr) (len' cap' : Nat), ((w.cell? (a.add (i * 6)) = some (.int .i64 e.op) ∧ w.cell? (a.add (i * 6 + 1)) = some (.int .i64 e.ty) ∧ w.cell? (a.add (i * 6 + 2)) = some (.int .i64 e.num) ∧
          w.cell? (a.add (i * 6 + 3)) = some (.string e.text) ∧ w.cell? (a.add (i * 6 + 4)) = some (.int .i64 e.col) ∧ w.cell? (a.add (i * 6 + 5)) = some (.slice a' len' cap')) ∧ e.fine ∧ Kids w (fun _ => True) a' len' cap' e.kids) ∧ ∀ z, elems[i]? = some z → cntE e ≤ Rows.uptoBulk z.1 := fun i hil => by
        have h1 := hel i hil
        rw [cellsEx] at h1
        rw [List.getElem?_eq_getElem (by omega)] at h1
        obtain ⟨cs', hc, ht⟩ := Option.bind_eq_some_iff.1 h1
        obtain ⟨_, hcl, hat⟩ := World.cells?_some hc
        obtain ⟨c0, c1, c2, c3, c4, c5, y0, y1, y2, y3, y4, y5, m, hnm, hx, rfl, t0, t1, t2, t3, t4, t5⟩ := trod_struct6B Tryd.underlying24 (by kernel_rfl) cellsEx ht
        obtain ⟨k0, e0, z0, f0⟩ := DataW.trod_int Tryd.underlying3 t0
        obtain ⟨k1, e1, z1, f1⟩ := DataW.trod_int Tryd.underlying3 t1
        obtain ⟨k2, e2, z2, f2⟩ := DataW.trod_int Tryd.underlying2 t2
        obtain ⟨k3, e3, z3, f3⟩ := DataW.trod_string Tryd.underlying9 t3
        obtain ⟨k4, e4, z4, f4⟩ := DataW.trod_int Tryd.underlying3 t4
        obtain ⟨a', len', cap', l', e5, hk, hbk⟩ := ih m (by omega) _ _ t5
        simp only [List.cons.injEq, and_true] at e0 e1 e2 e3 e4 e5
        subst e0 e1 e2 e3 e4 e5
        refine ⟨.mk k0 k1 k2 k3 k4 l', a', len', cap', ⟨⟨?_, ?_, ?_, ?_, ?_, ?_⟩, ⟨f0, f1, f2, f3, f4⟩, hk⟩, fun z hz => ?_⟩
        · have := hat 0 (by omega); rw [Go.Deep.add_add] at this; exact this
        · have := hat 1 (by omega); rw [Go.Deep.add_add] at this; exact this
        · have := hat 2 (by omega); rw [Go.Deep.add_add] at this; exact this
        · have := hat 3 (by omega); rw [Go.Deep.add_add] at this; exact this
        · have := hat 4 (by omega); rw [Go.Deep.add_add] at this; exact this
        · have := hat 5 (by omega); rw [Go.Deep.add_add] at this; exact this
        · rw [List.getElem?_eq_getElem (by omega)] at hz
          obtain rfl := Option.some.inj hz
          rw [hx, cntE]
          simp only [Rows.uptoBulk, Rows.uptoBulkAll, z3]
          have hs : k3.data.toList.length = k3.size := Array.length_toList
          omega
      obtain ⟨u, hu⟩ := Go.Deep.choose_lt hi
      have hbk : cntL ((List.range elems.length).map u) ≤ Rows.uptoBulkAll (elems.map (·.1)) := bulk_list u elems fun i z hz => by
        have hil : i < len := by have := (List.getElem?_eq_some_iff.1 hz).1; omega
        obtain ⟨_, _, _, _, h2⟩ := hu i hil
        exact h2 z hz
      have hu' : ∀ i, i < len → ∃ (a' : Option Addr) (len' cap' : Nat), (w.cell? (a.add (i * 6)) = some (.int .i64 (u i).op) ∧ w.cell? (a.add (i * 6 + 1)) = some (.int .i64 (u i).ty) ∧ w.cell? (a.add (i * 6 + 2)) = some (.int .i64 (u i).num) ∧
          w.cell? (a.add (i * 6 + 3)) = some (.string (u i).text) ∧ w.cell? (a.add (i * 6 + 4)) = some (.int .i64 (u i).col) ∧ w.cell? (a.add (i * 6 + 5)) = some (.slice a' len' cap')) ∧ (u i).fine ∧ Kids w (fun _ => True) a' len' cap' (u i).kids := fun i hil => by
        obtain ⟨a', len', cap', h1, _⟩ := hu i hil
        exact ⟨a', len', cap', h1⟩
      obtain ⟨ad, hu⟩ := Go.Deep.choose_lt hu'
      obtain ⟨lens, hu⟩ := Go.Deep.choose_lt hu
      obtain ⟨caps, hu⟩ := Go.Deep.choose_lt hu
      have hg : ∀ i, i < len → ((List.range len).map u).getD i Ex.z = u i := fun i hi' => by simp [List.getD, hi']
      refine ⟨some a, len, cap, (List.range len).map u, rfl, .mk (some a) len cap _ ad lens caps (by simp) hl hm (fun h => by cases h) (fun i hi' => ?_) (fun i hi' => by rw [hg i hi']; exact (hu i hi').2.1) (fun i hi' => by rw [hg i hi']; exact (hu i hi').2.2), ?_⟩
      · rw [hg i hi']
        obtain ⟨h0, h1, h2, h3, h4, h5⟩ := (hu i hi').1
        obtain ⟨b, off, spot⟩ := a
        have hspot : spot = none := by simpa [Addr.add] using World.cell?_spot (hu 0 (by omega)).1.1
        subst hspot
        have hadd : ∀ j, (⟨b, off, none⟩ : Addr).add j = ⟨b, off + j, none⟩ := fun j => by unfold Addr.add; split <;> simp_all
        rw [hadd] at h0 h1 h2 h3 h4 h5
        exact ⟨b, off, rfl, cells_below h0, trivial, h0, by rw [Nat.add_assoc]; exact h1, by rw [Nat.add_assoc]; exact h2, by rw [Nat.add_assoc]; exact h3, by rw [Nat.add_assoc]; exact h4, by rw [Nat.add_assoc]; exact h5⟩
      · rw [← hlen]
        simp only [Rows.uptoBulk]
        omega
set_option maxRecDepth 100000 in
theorem open_exB {r : Reach} {b0 : Nat} {v : Value} {d : DataW H} {p : List MemPlace} (hval : Value.okWide Tryd.prog w r b0 24 v) (h : DataW.Trod enc Tryd.prog w base spare held 24 v d p) :
    ∃ (e : Ex) (a : Option Addr) (len cap : Nat), v = .agg #[.int .i64 e.op, .int .i64 e.ty, .int .i64 e.num, .string e.text, .int .i64 e.col, .slice a len cap] ∧ e.fine ∧ Kids w (fun _ => True) a len cap e.kids ∧ cntE e ≤ Rows.uptoBulk d := by
  obtain ⟨cs, rfl, hsz⟩ := okWide_struct Tryd.underlying24 hval
  obtain ⟨fuel, hf⟩ := h
  obtain ⟨c0, c1, c2, c3, c4, c5, y0, y1, y2, y3, y4, y5, m, hnm, hx, hcs, t0, t1, t2, t3, t4, t5⟩ := trod_struct6B Tryd.underlying24 (by kernel_rfl) cellsEx hf
  obtain ⟨k0, e0, z0, f0⟩ := DataW.trod_int Tryd.underlying3 t0
  obtain ⟨k1, e1, z1, f1⟩ := DataW.trod_int Tryd.underlying3 t1
  obtain ⟨k2, e2, z2, f2⟩ := DataW.trod_int Tryd.underlying2 t2
  obtain ⟨k3, e3, z3, f3⟩ := DataW.trod_string Tryd.underlying9 t3
  obtain ⟨k4, e4, z4, f4⟩ := DataW.trod_int Tryd.underlying3 t4
  obtain ⟨a', len', cap', l', e5, hk, hbk⟩ := open_kidsB _ _ _ t5
  simp only [List.cons.injEq, and_true] at e0 e1 e2 e3 e4 e5
  subst e0 e1 e2 e3 e4 e5
  refine ⟨.mk k0 k1 k2 k3 k4 l', a', len', cap', ?_, ⟨f0, f1, f2, f3, f4⟩, hk, ?_⟩
  · obtain ⟨l⟩ := cs
    simp [Value.cells] at hcs
    simp [hcs, Ex.op, Ex.ty, Ex.num, Ex.text, Ex.col]
  · have hx' : d = .agg [y0.1, y1.1, y2.1, y3.1, y4.1, y5.1] := hx
    rw [hx', cntE]
    simp only [Rows.uptoBulk, Rows.uptoBulkAll, z3]
    have hs : k3.data.toList.length = k3.size := Array.length_toList
    omega
end
end Go.Proofs.YtbnhmjecjeifdaaDoor
