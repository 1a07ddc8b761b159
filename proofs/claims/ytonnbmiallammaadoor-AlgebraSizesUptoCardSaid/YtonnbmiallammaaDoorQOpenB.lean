/-
  A query that came in, opened, with how much is in it.
-/
import Derived.Test.YtonnbmiallammaaDoorQBulk
set_option linter.unusedVariables false
namespace Go.Proofs.YtonnbmiallammaaDoor
open Go Go.RowKit Go.ChangeShapes Go.WideShapes Go.Joins Go.Deep
section
variable {H : Type} {enc : TypeId × Value → H} {w : World} {base : Nat} {spare : Nat → Bool} {held : Bool}
set_option maxRecDepth 100000 in
theorem trodQB {fuel : Nat} {cs : List Value} {x : DataW H × List MemPlace} (h : DataW.trod enc Tryd.prog w base spare held fuel 63 cs = some x) :
    ∃ c0 c1 c2 c3 c4 c5 c6 c7 c8 c9 c10 c11 c12 c13 c14 y0 y1 y2 y3 y4 y5 y6 y7 y8 y9 n, fuel = n + 1 ∧ x.1 = .agg [y0.1, y1.1, y2.1, y3.1, y4.1, y5.1, y6.1, y7.1, y8.1, y9.1] ∧ cs = [c0, c1, c2, c3, c4, c5, c6, c7, c8, c9, c10, c11, c12, c13, c14] ∧ DataW.trod enc Tryd.prog w base spare held n 3 [c0] = some y0 ∧ DataW.trod enc Tryd.prog w base spare held n 9 [c1] = some y1 ∧ DataW.trod enc Tryd.prog w base spare held n 3 [c2] = some y2 ∧ DataW.trod enc Tryd.prog w base spare held n 4 [c3] = some y3 ∧ DataW.trod enc Tryd.prog w base spare held n 24 [c4, c5, c6, c7, c8, c9] = some y4 ∧ DataW.trod enc Tryd.prog w base spare held n 22 [c10] = some y5 ∧ DataW.trod enc Tryd.prog w base spare held n 59 [c11] = some y6 ∧ DataW.trod enc Tryd.prog w base spare held n 31 [c12] = some y7 ∧ DataW.trod enc Tryd.prog w base spare held n 60 [c13] = some y8 ∧ DataW.trod enc Tryd.prog w base spare held n 61 [c14] = some y9 := by
  obtain ⟨xs, n, hn, hx, hl, hlen, hg⟩ := DataW.trod_struct Tryd.underlying63 h
  obtain ⟨c0, c1, c2, c3, c4, c5, c6, c7, c8, c9, c10, c11, c12, c13, c14, rfl⟩ := list15 (hl.trans k_Query)
  match xs, hlen with
  | [y0, y1, y2, y3, y4, y5, y6, y7, y8, y9], _ =>
    exact ⟨c0, c1, c2, c3, c4, c5, c6, c7, c8, c9, c10, c11, c12, c13, c14, y0, y1, y2, y3, y4, y5, y6, y7, y8, y9, n, hn, by rw [hx]; rfl, rfl, by simpa [k_int, k_string, k_bool, k_Expr, k_lExpr, k_lAgg, k_lint, k_llValue, k_lQuery] using hg 0 _ rfl, by simpa [k_int, k_string, k_bool, k_Expr, k_lExpr, k_lAgg, k_lint, k_llValue, k_lQuery] using hg 1 _ rfl, by simpa [k_int, k_string, k_bool, k_Expr, k_lExpr, k_lAgg, k_lint, k_llValue, k_lQuery] using hg 2 _ rfl, by simpa [k_int, k_string, k_bool, k_Expr, k_lExpr, k_lAgg, k_lint, k_llValue, k_lQuery] using hg 3 _ rfl, by simpa [k_int, k_string, k_bool, k_Expr, k_lExpr, k_lAgg, k_lint, k_llValue, k_lQuery] using hg 4 _ rfl, by simpa [k_int, k_string, k_bool, k_Expr, k_lExpr, k_lAgg, k_lint, k_llValue, k_lQuery] using hg 5 _ rfl, by simpa [k_int, k_string, k_bool, k_Expr, k_lExpr, k_lAgg, k_lint, k_llValue, k_lQuery] using hg 6 _ rfl, by simpa [k_int, k_string, k_bool, k_Expr, k_lExpr, k_lAgg, k_lint, k_llValue, k_lQuery] using hg 7 _ rfl, by simpa [k_int, k_string, k_bool, k_Expr, k_lExpr, k_lAgg, k_lint, k_llValue, k_lQuery] using hg 8 _ rfl, by simpa [k_int, k_string, k_bool, k_Expr, k_lExpr, k_lAgg, k_lint, k_llValue, k_lQuery] using hg 9 _ rfl⟩
set_option maxRecDepth 100000 in
theorem trodGB {fuel : Nat} {cs : List Value} {x : DataW H × List MemPlace} (h : DataW.trod enc Tryd.prog w base spare held fuel 69 cs = some x) :
    ∃ c0 c1 c2 c3 c4 c5 c6 y0 y1 n, fuel = n + 1 ∧ x.1 = .agg [y0.1, y1.1] ∧ cs = [c0, c1, c2, c3, c4, c5, c6] ∧ DataW.trod enc Tryd.prog w base spare held n 3 [c0] = some y0 ∧ DataW.trod enc Tryd.prog w base spare held n 24 [c1, c2, c3, c4, c5, c6] = some y1 := by
  obtain ⟨xs, n, hn, hx, hl, hlen, hg⟩ := DataW.trod_struct Tryd.underlying69 h
  obtain ⟨c0, c1, c2, c3, c4, c5, c6, rfl⟩ := list7 (hl.trans k_Agg)
  match xs, hlen with
  | [y0, y1], _ =>
    exact ⟨c0, c1, c2, c3, c4, c5, c6, y0, y1, n, hn, by rw [hx]; rfl, rfl, by simpa [k_int, k_string, k_bool, k_Expr, k_lExpr, k_lAgg, k_lint, k_llValue, k_lQuery] using hg 0 _ rfl, by simpa [k_int, k_string, k_bool, k_Expr, k_lExpr, k_lAgg, k_lint, k_llValue, k_lQuery] using hg 1 _ rfl⟩
theorem open_exQB {fuel : Nat} {c0 c1 c2 c3 c4 c5 : Value} {x : DataW H × List MemPlace} (h : DataW.trod enc Tryd.prog w base spare held fuel 24 [c0, c1, c2, c3, c4, c5] = some x) : ∃ (e : Ex) (s : Sl), c0 = .int .i64 e.op ∧ c1 = .int .i64 e.ty ∧ c2 = .int .i64 e.num ∧ c3 = .string e.text ∧ c4 = .int .i64 e.col ∧ c5 = s.v ∧ e.fine ∧ Kids w (fun _ => True) s.a s.len s.cap e.kids ∧ cntE e ≤ Rows.uptoBulk x.1 := by
  obtain ⟨d0, d1, d2, d3, d4, d5, y0, y1, y2, y3, y4, y5, m, hnm, hx, hcs, t0, t1, t2, t3, t4, t5⟩ := trod_struct6B Tryd.underlying24 (by kernel_rfl) cellsEx h
  simp only [List.cons.injEq, and_true] at hcs
  obtain ⟨rfl, rfl, rfl, rfl, rfl, rfl⟩ := hcs
  obtain ⟨k0, e0, _, f0⟩ := DataW.trod_int Tryd.underlying3 t0
  obtain ⟨k1, e1, _, f1⟩ := DataW.trod_int Tryd.underlying3 t1
  obtain ⟨k2, e2, _, f2⟩ := DataW.trod_int Tryd.underlying2 t2
  obtain ⟨k3, e3, z3, f3⟩ := DataW.trod_string Tryd.underlying9 t3
  obtain ⟨k4, e4, _, f4⟩ := DataW.trod_int Tryd.underlying3 t4
  obtain ⟨a', len', cap', l', e5, hk, hbk⟩ := open_kidsB _ _ _ t5
  simp only [List.cons.injEq, and_true] at e0 e1 e2 e3 e4 e5
  exact ⟨.mk k0 k1 k2 k3 k4 l', ⟨a', len', cap'⟩, e0, e1, e2, e3, e4, e5, ⟨f0, f1, f2, f3, f4⟩, hk, by
    rw [hx, cntE]
    simp only [Rows.uptoBulk, Rows.uptoBulkAll, z3]
    have hs : k3.data.toList.length = k3.size := Array.length_toList
    omega⟩
theorem bulk_pos : ∀ d : DataW H, 1 ≤ Rows.uptoBulk d := by
  intro d
  cases d with
  | lit l => cases l <;> simp [Rows.uptoBulk]
  | _ => simp [Rows.uptoBulk]
theorem open_valsB {fuel : Nat} {cs : List Value} {x : DataW H × List MemPlace} (h : DataW.trod enc Tryd.prog w base spare held fuel 100 cs = some x) : ∃ (s : Sl) (f : Nat → Vl), cs = [s.v] ∧ SlAt w 3 s (fun i => (f i).cells) ∧ s.len + 1 ≤ Rows.uptoBulk x.1 := by
  obtain ⟨s, cell, elems, rfl, hs, hlen, hb, hc⟩ := open_slB Tryd.underlying100 k_Value (by omega) h
  have hi : ∀ i, i < s.len → ∃ v : Vl, cell i = v.cells := fun i hi => by
    obtain ⟨_, m, y, _, _, ht⟩ := hc i hi
    exact trodV ht
  obtain ⟨f, hf⟩ := Go.Deep.choose_lt hi
  have h1 := bulk_sum (fun _ => 1) elems fun i z _ => bulk_pos z.1
  have h2 := sumN_len (f := fun _ => 1) (n := elems.length) fun i _ => Nat.le_refl _
  exact ⟨s, f, rfl, hs.congr hf, by omega⟩
theorem open_rowsB {fuel : Nat} {cs : List Value} {x : DataW H × List MemPlace} (h : DataW.trod enc Tryd.prog w base spare held fuel 60 cs = some x) : ∃ (s : Sl) (r : Nat → Sl) (f : Nat → Nat → Vl), cs = [s.v] ∧ SlAt w 1 s (fun i => [(r i).v]) ∧ (∀ i, i < s.len → SlAt w 3 (r i) (fun j => (f i j).cells)) ∧ sumN (fun i => (r i).len) s.len + 1 ≤ Rows.uptoBulk x.1 := by
  obtain ⟨s, cell, elems, rfl, hs, hlen, hb, hc⟩ := open_slB Tryd.underlying60 k_lValue (by omega) h
  have hi : ∀ i, i < s.len → ∃ (u : Sl) (g : Nat → Vl), cell i = [u.v] ∧ SlAt w 3 u (fun j => (g j).cells) ∧ ∀ z, elems[i]? = some z → u.len ≤ Rows.uptoBulk z.1 := fun i hi => by
    obtain ⟨_, m, y, _, he, ht⟩ := hc i hi
    obtain ⟨u, g, e, hu, hbu⟩ := open_valsB ht
    refine ⟨u, g, e, hu, fun z hz => ?_⟩
    obtain rfl := Option.some.inj (he.symm.trans hz)
    omega
  obtain ⟨r, hr⟩ := Go.Deep.choose_lt hi
  obtain ⟨f, hf⟩ := Go.Deep.choose_lt hr
  have h1 := bulk_sum (fun i => (r i).len) elems fun i z hz => (hf i (by have := (List.getElem?_eq_some_iff.1 hz).1; omega)).2.2 z hz
  rw [hlen] at h1
  exact ⟨s, r, f, rfl, hs.congr fun i hi => (hf i hi).1, fun i hi => (hf i hi).2.1, by omega⟩
theorem open_aggsB {fuel : Nat} {cs : List Value} {x : DataW H × List MemPlace} (h : DataW.trod enc Tryd.prog w base spare held fuel 59 cs = some x) : ∃ (s : Sl) (f : Nat → Ag), cs = [s.v] ∧ SlAt w 7 s (fun i => (f i).cells) ∧ (∀ i, i < s.len → AgAt w (f i)) ∧ sumN (fun i => cntE (f i).arg) s.len + 1 ≤ Rows.uptoBulk x.1 := by
  obtain ⟨s, cell, elems, rfl, hs, hlen, hb, hc⟩ := open_slB Tryd.underlying59 k_Agg (by omega) h
  have hi : ∀ i, i < s.len → ∃ g : Ag, cell i = g.cells ∧ AgAt w g ∧ ∀ z, elems[i]? = some z → cntE g.arg ≤ Rows.uptoBulk z.1 := fun i hi => by
    obtain ⟨_, m, y, _, he, ht⟩ := hc i hi
    obtain ⟨c0, c1, c2, c3, c4, c5, c6, y0, y1, n, _, hx, e, t0, t1⟩ := trodGB ht
    obtain ⟨k0, e0, _, f0⟩ := DataW.trod_int Tryd.underlying3 t0
    obtain ⟨ex, s1, rfl, rfl, rfl, rfl, rfl, rfl, hf, hk, hbe⟩ := open_exQB t1
    simp only [List.cons.injEq, and_true] at e0
    subst e0
    refine ⟨⟨k0, ex, s1⟩, e, ⟨hf, hk⟩, fun z hz => ?_⟩
    obtain rfl := Option.some.inj (he.symm.trans hz)
    rw [hx]
    simp only [Rows.uptoBulk, Rows.uptoBulkAll]
    show cntE ex ≤ _
    omega
  obtain ⟨f, hf⟩ := Go.Deep.choose_lt hi
  have h1 := bulk_sum (fun i => cntE (f i).arg) elems fun i z hz => (hf i (by have := (List.getElem?_eq_some_iff.1 hz).1; omega)).2.2 z hz
  rw [hlen] at h1
  exact ⟨s, f, rfl, hs.congr fun i hi => (hf i hi).1, fun i hi => (hf i hi).2.1, by omega⟩
theorem open_qB : ∀ (fuel : Nat) (cs : List Value) (x : DataW H × List MemPlace), DataW.trod enc Tryd.prog w base spare held fuel 63 cs = some x → ∃ q : Qy, cs = q.cells ∧ QAt w q ∧ cntQ q ≤ Rows.uptoBulk x.1 := by
  intro fuel
  induction fuel using Nat.strongRecOn with
  | _ fuel ih =>
    intro cs x h
    obtain ⟨c0, c1, c2, c3, c4, c5, c6, c7, c8, c9, c10, c11, c12, c13, c14, y0, y1, y2, y3, y4, y5, y6, y7, y8, y9, n, rfl, hx, rfl, t0, t1, t2, t3, t4, t5, t6, t7, t8, t9⟩ := trodQB h
    obtain ⟨k0, e0, _, f0⟩ := DataW.trod_int Tryd.underlying3 t0
    obtain ⟨k1, e1, z1, f1⟩ := DataW.trod_string Tryd.underlying9 t1
    obtain ⟨k2, e2, _, f2⟩ := DataW.trod_int Tryd.underlying3 t2
    obtain ⟨k3, e3, _⟩ := DataW.trod_bool Tryd.underlying4 t3
    obtain ⟨ex, s4, rfl, rfl, rfl, rfl, rfl, rfl, hf, hk, b4⟩ := open_exQB t4
    obtain ⟨a5, l5, p5, l, e5, h5, b5⟩ := open_kidsB _ _ _ t5
    obtain ⟨s6, g6, e6, h6, h6', b6⟩ := open_aggsB t6
    obtain ⟨s7, g7, e7, h7⟩ := open_intsQ t7
    obtain ⟨s8, r8, g8, e8, h8, h8', b8⟩ := open_rowsB t8
    obtain ⟨s9, cell, elems, e9, h9, hlen, b9, hc⟩ := open_slB Tryd.underlying61 k_Query (by omega) t9
    have hi : ∀ i, i < s9.len → ∃ q : Qy, cell i = q.cells ∧ QAt w q ∧ ∀ z, elems[i]? = some z → cntQ q ≤ Rows.uptoBulk z.1 := fun i hi => by
      obtain ⟨_, m, y, hm, he, ht⟩ := hc i hi
      obtain ⟨q, e, hq, hb⟩ := ih m (by omega) _ _ ht
      refine ⟨q, e, hq, fun z hz => ?_⟩
      obtain rfl := Option.some.inj (he.symm.trans hz)
      exact hb
    obtain ⟨kid, hkid⟩ := Go.Deep.choose_lt hi
    have h1 := bulk_sum (fun i => cntQ (kid i)) elems fun i z hz => (hkid i (by have := (List.getElem?_eq_some_iff.1 hz).1; omega)).2.2 z hz
    rw [hlen] at h1
    simp only [List.cons.injEq, and_true] at e0 e1 e2 e3 e5 e6 e7 e8 e9
    subst e0 e1 e2 e3 e5 e6 e7 e8 e9
    refine ⟨.mk ⟨k0, k1, k2, k3, ex, s4, ⟨a5, l5, p5⟩, l, s6, g6, s7, g7, s8, r8, g8⟩ s9 kid, rfl, .mk _ _ _ ⟨f1, hf, hk, h5, h6, h6', h7, h8, h8'⟩ (h9.congr fun i hi => (hkid i hi).1) fun i hi => (hkid i hi).2.1, ?_⟩
    rw [hx]
    simp only [Rows.uptoBulk, Rows.uptoBulkAll, z1]
    have hs : k1.data.toList.length = k1.size := Array.length_toList
    show 1 + (k1.size + cntE ex + cntL l + sumN (fun i => cntE (g6 i).arg) s6.len + sumN (fun i => (r8 i).len) s8.len) + sumN (fun i => cntQ (kid i)) s9.len ≤ _
    omega
end
end Go.Proofs.YtonnbmiallammaaDoor
