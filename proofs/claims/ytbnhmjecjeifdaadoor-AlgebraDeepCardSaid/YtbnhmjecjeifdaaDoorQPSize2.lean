/-
  The expressions that an operator itself uses, as the program gathers them.
-/
import Derived.Test.YtbnhmjecjeifdaaDoorQPSize1
import Derived.Test.YtbnhmjecjeifdaaDoorShift
import Derived.Test.YtbnhmjecjeifdaaDoorOpT
import Derived.Laws.AppendOwnNone
set_option linter.unusedVariables false
namespace Go.Proofs.YtbnhmjecjeifdaaDoor
open Go Go.RowKit Go.Deep
/-- A row of expressions that a call made, whose Kids lie in the world at its start. -/
structure RowE (N : Nat) (w0 wr : World) (v : Value) (rs : List Rec) : Prop where
  own : wr.ownsRow w0.heap.size 24 6 v rs.length (flatR rs)
  kid : ∀ r ∈ rs, r.e.fine ∧ Kids w0 (fun b => b < N) r.a r.len r.cap r.e.kids
theorem RowE.nil (N : Nat) (w0 wr : World) : RowE N w0 wr (.slice none 0 0) [] := ⟨World.ownsRow_nil _ _ _ 6, fun r h => by simp at h⟩
theorem rowKids {wr : World} {base : Nat} {v : Value} {rs : List Rec} (hown : wr.ownsRow base 24 6 v rs.length (flatR rs)) (hkid : ∀ r ∈ rs, r.e.fine ∧ Kids wr (fun _ => True) r.a r.len r.cap r.e.kids) : ∃ a cap, v = .slice a rs.length cap ∧ Kids wr (fun _ => True) a rs.length cap (rs.map Rec.e) := by
  have hr : ∀ i, i < rs.length → rs.getD i Rec.z ∈ rs := fun i hi => by simp [List.getD, hi]
  have he : ∀ i, i < rs.length → (rs.map Rec.e).getD i Ex.z = (rs.getD i Rec.z).e := fun i hi => by simp [List.getD, hi]
  have hin : ∀ i, i < rs.length → (rs.getD i Rec.z).e.fine ∧ Kids wr (fun _ => True) (rs.getD i Rec.z).a (rs.getD i Rec.z).len (rs.getD i Rec.z).cap (rs.getD i Rec.z).e.kids := fun i hi => by
    exact hkid _ (hr i hi)
  rcases hown.2 with ⟨rfl, h0⟩ | ⟨g, cap, cur, rfl, hg, hh, hn, hc, hs, ht⟩
  · have : rs = [] := List.eq_nil_of_length_eq_zero h0
    subst this
    exact ⟨none, 0, rfl, .none⟩
  · refine ⟨some ⟨g, 0, none⟩, cap, rfl, .mk _ _ _ _ (fun i => (rs.getD i Rec.z).a) (fun i => (rs.getD i Rec.z).len) (fun i => (rs.getD i Rec.z).cap) (by simp) hn hc (fun h => by cases h) (fun i hi => ?_) (fun i hi => by rw [he i hi]; exact (hin i hi).1) (fun i hi => by rw [he i hi]; exact (hin i hi).2)⟩
    rw [he i hi]
    have hcell := World.ownsRow.cells hown (g := g) rfl
    have hadd : ∀ j, (⟨g, 0, none⟩ : Addr).add j = ⟨g, 0 + j, none⟩ := fun j => by unfold Addr.add; split <;> simp_all
    obtain ⟨f0, f1, f2, f3, f4, f5⟩ := flatR_at rs i hi
    have c0 := hcell _ _ f0
    have c1 := hcell _ _ f1
    have c2 := hcell _ _ f2
    have c3 := hcell _ _ f3
    have c4 := hcell _ _ f4
    have c5 := hcell _ _ f5
    rw [hadd] at c0 c1 c2 c3 c4 c5
    exact ⟨g, 0, rfl, (Array.getElem?_eq_some_iff.1 hh).1, trivial, c0, c1, c2, c3, c4, c5⟩
theorem RowE.kids {N : Nat} {w0 wr : World} {v : Value} {rs : List Rec} (h : RowE N w0 wr v rs) (hb : Below w0.heap.size w0 wr) : ∃ a cap, v = .slice a rs.length cap ∧ Kids wr (fun _ => True) a rs.length cap (rs.map Rec.e) :=
  rowKids h.own fun r hr => ⟨(h.kid r hr).1, ((h.kid r hr).2.later hb).any⟩
theorem RowE.push {N : Nat} {w0 w3 : World} {v v3 : Value} {rs qs : List Rec} {wr : World} (h : RowE N w0 wr v rs) (hq : ∀ r ∈ qs, r.e.fine ∧ Kids w0 (fun b => b < N) r.a r.len r.cap r.e.kids) (hown : w3.ownsRow w0.heap.size 24 6 v3 (rs.length + qs.length) (flatR rs ++ flatR qs)) : RowE N w0 w3 v3 (rs ++ qs) :=
  ⟨by rw [List.length_append, flatR_append]; exact hown, fun r hr => by rcases List.mem_append.1 hr with hr | hr; exact h.kid r hr; exact hq r hr⟩
/-- What a slice of expressions holds, cell by cell. -/
theorem kids_recs {w : World} {ad0 : Addr} {len cap : Nat} {l : List Ex} (hk : Kids w (fun _ => True) (some ad0) len cap l) : ∃ qs : List Rec, qs.map Rec.e = l ∧ qs.length = len ∧ (∀ r ∈ qs, r.e.fine ∧ Kids w (fun b => b < w.heap.size) r.a r.len r.cap r.e.kids) ∧
    ∀ W, Below w.heap.size w W → ∀ j u, (flatR qs)[j]? = some u → W.cell? (ad0.add j) = some u := by
  cases hk with
  | mk _ _ _ _ ad lens caps hl hc hm hn hcell hf h =>
    have hg : ∀ i, i < len → ((List.range len).map fun i => (⟨l.getD i Ex.z, ad i, lens i, caps i⟩ : Rec)).getD i Rec.z = ⟨l.getD i Ex.z, ad i, lens i, caps i⟩ := fun i hi => by simp [List.getD, hi]
    refine ⟨(List.range len).map fun i => ⟨l.getD i Ex.z, ad i, lens i, caps i⟩, ?_, by simp, fun r hr => ?_, fun W hW j u hu => ?_⟩
    · rw [List.map_map]
      refine List.ext_getElem (by simp [hl]) fun i h1 h2 => ?_
      simp [List.getD, h2]
    · obtain ⟨i, hi, rfl⟩ := List.mem_map.1 hr
      exact ⟨hf i (List.mem_range.1 hi), (h i (List.mem_range.1 hi)).carry (Nat.le_refl _) fun b hb _ => ⟨hb, rfl⟩⟩
    · have hj : j < len * 6 := by
        have := (List.getElem?_eq_some_iff.1 hu).1
        rw [flatR_length] at this
        simpa using this
      obtain ⟨i, m, hi, hm6, rfl⟩ : ∃ i m, i < len ∧ m < 6 ∧ j = i * 6 + m := ⟨j / 6, j % 6, by omega, by omega, by omega⟩
      obtain ⟨b, off, ha, hb, _, q0, q1, q2, q3, q4, q5⟩ := hcell i hi
      have ha2 := Option.some.inj ha
      subst ha2
      have hadd : ∀ j, (⟨b, off, none⟩ : Addr).add j = ⟨b, off + j, none⟩ := fun j => by unfold Addr.add; split <;> simp_all
      obtain ⟨f0, f1, f2, f3, f4, f5⟩ := flatR_at _ i (show i < ((List.range len).map fun i => (⟨l.getD i Ex.z, ad i, lens i, caps i⟩ : Rec)).length by simpa using hi)
      rw [hg i hi] at f0 f1 f2 f3 f4 f5
      rw [hadd, hW.cell (p := ⟨b, _, none⟩) hb, ← Nat.add_assoc]
      rcases (by omega : m = 0 ∨ m = 1 ∨ m = 2 ∨ m = 3 ∨ m = 4 ∨ m = 5) with rfl | rfl | rfl | rfl | rfl | rfl
      · rw [Nat.add_zero] at hu ⊢; rw [f0] at hu; rw [q0]; exact hu
      · rw [f1] at hu; rw [q1]; exact hu
      · rw [f2] at hu; rw [q2]; exact hu
      · rw [f3] at hu; rw [q3]; exact hu
      · rw [f4] at hu; rw [q4]; exact hu
      · rw [f5] at hu; rw [q5]; exact hu
theorem flatR_one1 (r : Rec) : flatR [r] = r.cells := by simp [flatR]
theorem own_slice {w : World} {base size n : Nat} {e : TypeId} {v : Value} {xs : List Value} (h : w.ownsRow base e size v n xs) : ∃ a n c, v = .slice a n c := by
  rcases h.2 with ⟨rfl, _⟩ | ⟨g, cap, cur, rfl, _⟩
  · exact ⟨_, _, _, rfl⟩
  · exact ⟨_, _, _, rfl⟩
theorem cells_two' (w : World) (o : Obj) (l : List Value) (t : TypeId) : ∀ j u, l[j]? = some u → ((w.alloc o).alloc (.cells l.toArray t)).cell? ((⟨w.heap.size + 1, 0, none⟩ : Addr).add j) = some u := by
  have h := cells_new (w.alloc o) l t
  simpa using h
def usesB (h f : Int) : Bool := if f = 8 then decide (h = 8 ∨ h = 10) else if f = 16 then decide (h = 16 ∨ h = 48) else decide (h = 48)
set_option maxHeartbeats 4000000 in
theorem uses_calls (s : ByteArray) (has kids f : Int) (w : World) (hh : has = 0 ∨ has = 1 ∨ has = 192 ∨ has = 8 ∨ has = 16 ∨ has = 10 ∨ has = 4 ∨ has = 48) (hf : f = 8 ∨ f = 16 ∨ f = 32) :
    Calls Tryd.prog 147 #[.agg #[.string s, .int .i64 has, .int .i64 kids], .int .i64 f] w fun r w' => r = .returned (.bool (usesB has f)) ∧ Cls w w' := by
  rcases hh with rfl | rfl | rfl | rfl | rfl | rfl | rfl | rfl <;> rcases hf with rfl | rfl | rfl
  all_goals
    go_enter Tryd.func147, Tryd.ntmps147
    go_wp2_with fail
    go_ret
    refine ⟨ret_bool (by first | rfl | decide), Cls.of ?_⟩
    repeat first | with_reducible exact Below.refl _ _ | with_reducible refine Below.setCell ?_ (by first | omega | (simp; done) | (simp; omega)) _ | with_reducible refine Below.alloc ?_ (by first | omega | (simp; done) | (simp; omega)) _ | with_reducible refine Below.drew ?_ | with_reducible refine Ext.on _ ?_ (by first | omega | (simp; done) | (simp; omega))
def argsL (f : Nat → Ag) : Nat → List Ex
  | 0 => []
  | j + 1 => if (f j).fn = 1 then argsL f j else argsL f j ++ [(f j).arg]
theorem argsL_sum (p : Qr) : ∀ j, nodL (argsL p.agg j) = sumN (agF p) j
  | 0 => rfl
  | j + 1 => by
    have h := argsL_sum p j
    rw [argsL, sumN, show agF p j = (if (p.agg j).fn = 1 then 0 else nodE (p.agg j).arg) from rfl]
    split
    · omega
    · rw [nodL_append, h]; simp [nodL]
theorem argsL_len (f : Nat → Ag) : ∀ j, (argsL f j).length ≤ j
  | 0 => Nat.le_refl _
  | j + 1 => by have := argsL_len f j; rw [argsL]; split <;> simp <;> omega
set_option maxHeartbeats 4000000 in
set_option maxRecDepth 20000 in
theorem arguments_calls (N : Nat) (sl : Sl) (f : Nat → Ag) (w : World) (h : SlAt w 7 sl fun i => (f i).cells) (hg : ∀ i, i < sl.len → (f i).arg.fine ∧ Kids w (fun b => b < N) (f i).ka.a (f i).ka.len (f i).ka.cap (f i).arg.kids) (hl : sl.len ≤ 2 ^ 22) :
    Calls Tryd.prog 148 #[.slice sl.a sl.len sl.cap] w fun r w' => ∃ (v : Value) (rs : List Rec), r = .returned v ∧ RowE N w w' v rs ∧ rs.map Rec.e = argsL f sl.len ∧ Cls w w' := by
  obtain ⟨i0, hi, hz0, hz1, hz2⟩ := info_parts infoEx
  have hle := h.1
  have hmax := h.2.1
  unfold maxLen at hmax
  have H := Lib.hid h
  have HG := Lib.hid hg
  clear h hg
  obtain ⟨sa, sn, sc⟩ := sl
  simp only at hl hle hmax H HG ⊢
  go_enter Tryd.func148, Tryd.ntmps148
  go_wp2_with fail
  go_loopw [3, 8] (fun u i wr => ∃ (j : Nat) (x : Value) (rs : List Rec), j ≤ sn ∧ i = .int .i64 j ∧ x = u ∧ RowE N w wr u rs ∧ rs.map Rec.e = argsL f j ∧ Cls w wr) (fun _ i _ => sn - (intOf i).toNat)
  case atStart => exact ⟨0, _, [], Nat.zero_le _, rfl, rfl, RowE.nil _ _ _, rfl, Cls.of (Below.refl _ _)⟩
  case round =>
    obtain ⟨j, u, rs, hj, rfl, hu, hrow, hmap, y, rfl⟩ := hrel
    subst hu
    have ys := y.size
    have HR := Lib.hid hrow
    have HM := Lib.hid hmap
    have hrl : rs.length ≤ j := by have h1 := congrArg List.length hmap; have h2 := argsL_len f j; simp at h1; omega
    clear hrow hmap
    by_cases hlt : j < sn
    · obtain ⟨b, off, ha, hb, hc⟩ := H.out.2.2.2 j hlt
      simp only at ha
      subst ha
      have p0 := hc 0 (by omega)
      have p1 := hc 1 (by omega)
      have p2 := hc 2 (by omega)
      have p3 := hc 3 (by omega)
      have p4 := hc 4 (by omega)
      have p5 := hc 5 (by omega)
      have p6 := hc 6 (by omega)
      simp only [Ag.cells, Sl.v, List.getElem?_cons_zero, List.getElem?_cons_succ, Nat.add_zero] at p0 p1 p2 p3 p4 p5 p6
      have HA := Lib.hid (HG.out j hlt)
      have HS : Hid (argsL f (j + 1) = if (f j).fn = 1 then argsL f j else argsL f j ++ [(f j).arg]) := Lib.hid rfl
      clear hc
      generalize f j = g at *
      by_cases hfn : g.fn = 1
      · have bfn : (g.fn != 1) = false := by simp [hfn]
        have HS2 : Hid (argsL f (j + 1) = argsL f j) := Lib.hid (by rw [HS.out, if_pos hfn])
        clear hfn HS
        go_wp2_with fail
        go_roundw
        case rel =>
          refine ⟨j + 1, _, rs, by omega, by go_num, rfl, ⟨own_later HR.out.own (by repeat first | with_reducible exact Below.refl _ _ | with_reducible refine Below.setCell ?_ (by first | omega | (simp; done) | (simp; omega)) _ | with_reducible refine Below.alloc ?_ (by first | omega | (simp; done) | (simp; omega)) _ | with_reducible refine Below.drew ?_ | with_reducible refine Ext.on _ ?_ (by first | omega | (simp; done) | (simp; omega))), HR.out.kid⟩, by rw [HS2.out]; exact HM.out, Cls.of ?_⟩
          repeat first | with_reducible exact Below.refl _ _ | with_reducible refine Below.setCell ?_ (by first | omega | (simp; done) | (simp; omega)) _ | with_reducible refine Below.alloc ?_ (by first | omega | (simp; done) | (simp; omega)) _ | with_reducible refine Below.drew ?_ | with_reducible refine Ext.on _ ?_ (by first | omega | (simp; done) | (simp; omega))
        case measure => simp [intOf]; omega
      · have bfn : (g.fn != 1) = true := by simp [hfn]
        have HS2 : Hid (argsL f (j + 1) = argsL f j ++ [g.arg]) := Lib.hid (by rw [HS.out, if_neg hfn])
        clear hfn HS
        go_wp2_with (at_builtin; refine wpList_append_own_at _ rfl _ _ 22 rfl w.heap.size 24 i0 (.agg #[.int .i64 0, .int .i64 0, .int .i64 0, .string ⟨#[]⟩, .int .i64 0, .slice none 0 0]) 6 72 Tryd.underlying22 hi hz0 hz1 hz2 rfl (by decide) u rs.length (flatR rs) rfl (own_later HR.out.own (by repeat first | with_reducible exact Below.refl _ _ | with_reducible refine Below.setCell ?_ (by first | omega | (simp; done) | (simp; omega)) _ | with_reducible refine Below.alloc ?_ (by first | omega | (simp; done) | (simp; omega)) _ | with_reducible refine Below.drew ?_ | with_reducible refine Ext.on _ ?_ (by first | omega | (simp; done) | (simp; omega)))) ⟨y.val.heap.size + 1, 0, none⟩ 1 1 (Rec.cells ⟨g.arg, g.ka.a, g.ka.len, g.ka.cap⟩) rfl rfl (cells_two' _ _ _ _) (Rec.one _) (by unfold maxLen; omega) (by omega) (by simp; omega) ?_; intro v3 w3 hown3 hg3 _ _; have HO3 := Lib.hid hown3; have HG3 := Lib.hid hg3; clear hown3 hg3)
        go_roundw
        case rel =>
          refine ⟨j + 1, _, rs ++ [⟨g.arg, g.ka.a, g.ka.len, g.ka.cap⟩], by omega, by go_num, rfl, RowE.push HR.out (fun r hr => by simp at hr; subst hr; exact ⟨HA.out.1, HA.out.2⟩) (by rw [flatR_one1]; exact HO3.out), by rw [List.map_append, HM.out, HS2.out]; rfl, Cls.of (Below.grown (w := (y.val.alloc _).alloc _) ?_ HG3.out (by simp; omega) (fun k hk => (HR.out.own.lt k hk).1))⟩
          repeat first | with_reducible exact Below.refl _ _ | with_reducible refine Below.setCell ?_ (by first | omega | (simp; done) | (simp; omega)) _ | with_reducible refine Below.alloc ?_ (by first | omega | (simp; done) | (simp; omega)) _ | with_reducible refine Below.drew ?_ | with_reducible refine Ext.on _ ?_ (by first | omega | (simp; done) | (simp; omega))
        case measure => simp [intOf]; omega
    · obtain rfl : j = sn := by omega
      go_wp2_with fail
      go_ret
      exact ⟨u, rs, rfl, HR.out, HM.out, y, rfl⟩
end Go.Proofs.YtbnhmjecjeifdaaDoor
