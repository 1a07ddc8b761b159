/-
  The types of a table that is scanned, over a schema that has it first.
-/
import Derived.Test.YtbnhmjecjeifdaaDoorDTypes2
import Derived.Test.YtbnhmjecjeifdaaDoorTypes2
set_option linter.unusedVariables false
namespace Go.Proofs.YtbnhmjecjeifdaaDoor
open Go Go.RowKit Go.Deep
set_option maxHeartbeats 8000000 in
set_option maxRecDepth 20000 in
theorem scanTypes_first (sl : Sl) (tb : Nat → Tb) (s : ByteArray) (w : World) (h : TabsAt w sl tb) (h0 : 0 < sl.len) (hn : nameP tb s 0 = true) (hl : (tb 0).cs.len ≤ 1000) :
    Calls Tryd.prog 150 #[.agg #[.slice sl.a sl.len sl.cap], .string s] w (TysIs (tb 0).cs.len w) := by
  have C1 : Hid (∀ W, Below w.heap.size w W → Calls Tryd.prog 43 #[.agg #[.slice sl.a sl.len sl.cap], .string s] W fun r w' => r = .returned (.tuple #[.int .i64 0, .bool true]) ∧ Cls W w') := Lib.hid (fun W hW => by
    have h1 := Find_calls sl tb s W (h.later hW)
    have h2 : idx (nameP tb s) 0 sl.len = 0 := by
      obtain ⟨n, hn2⟩ : ∃ n, sl.len = n + 1 := ⟨sl.len - 1, by omega⟩
      rw [hn2, idx_stop hn]; rfl
    rw [h2] at h1
    exact h1)
  have C2 : Hid (∀ W, Below w.heap.size w W → Calls Tryd.prog 140 #[.agg #[.string (tb 0).name, .slice (tb 0).cs.a (tb 0).cs.len (tb 0).cs.cap, .slice (tb 0).ps.a (tb 0).ps.len (tb 0).ps.cap, .slice (tb 0).us.a (tb 0).us.len (tb 0).us.cap, .slice (tb 0).fs.a (tb 0).fs.len (tb 0).fs.cap, .slice (tb 0).ks.a (tb 0).ks.len (tb 0).ks.cap]] W fun r w' => ∃ s : Sl, r = .returned (.slice s.a s.len s.cap) ∧ s.len = (tb 0).cs.len ∧ Cls W w') := Lib.hid (fun W hW => (Types_calls (tb 0) W ((h.2 0 h0).later hW) hl).mono fun r w' ⟨s, h1, h2, _, h4⟩ => ⟨s, h1, h2, h4⟩)
  obtain ⟨b, off, ha, hb, hc⟩ := h.1.2.2.2 0 h0
  have hle := h.1.1
  have hmax := h.1.2.1
  unfold maxLen at hmax
  have hb1 : b < w.heap.size + 1 := by omega
  have p0 := hc 0 (by omega)
  have p1 := hc 1 (by omega)
  have p2 := hc 2 (by omega)
  have p3 := hc 3 (by omega)
  have p4 := hc 4 (by omega)
  have p5 := hc 5 (by omega)
  simp only [Tb.cells, Sl.v, List.getElem?_cons_zero, List.getElem?_cons_succ, Nat.zero_mul, Nat.add_zero] at p0 p1 p2 p3 p4 p5
  clear h hn hl hc
  obtain ⟨sa, sn, sc⟩ := sl
  simp only at ha hle hmax h0 C1
  subst ha
  generalize tb 0 = t at *
  go_enter Tryd.func150, Tryd.ntmps150
  go_wp2_with (first | (go_at_call 43; ((with_reducible refine (C1.out _ ?_).mono ?_); (· (repeat first | with_reducible exact Below.refl _ _ | with_reducible refine Below.setCell ?_ (by first | omega | (simp; done) | (simp; omega)) _ | with_reducible refine Below.alloc ?_ (by first | omega | (simp; done) | (simp; omega)) _ | with_reducible refine Below.drew ?_ | with_reducible refine Ext.on _ ?_ (by first | omega | (simp; done) | (simp; omega)))); rintro r _ ⟨rfl, y, rfl⟩; have ys := y.size; simp at ys; obtain ⟨a0, _, _, _, _⟩ := y.lts (b := w.heap.size) (by simp))) | (go_at_call 140; ((with_reducible refine (C2.out _ ?_).mono ?_); (· (repeat first | with_reducible exact Below.refl _ _ | with_reducible refine Below.setCell ?_ (by first | omega | (simp; done) | (simp; omega)) _ | with_reducible refine Below.alloc ?_ (by first | omega | (simp; done) | (simp; omega)) _ | with_reducible refine Below.drew ?_ | with_reducible refine Ext.on _ ?_ (by first | omega | (simp; done) | (simp; omega)))); rintro r w2 hq; obtain ⟨s2, rfl, hs2, z, rfl⟩ := hq; have HS := Lib.hid hs2; clear hs2)))
  go_ret2
  refine ⟨s2, rfl, HS.out, Cls.of ?_⟩
  repeat first | with_reducible exact Below.refl _ _ | with_reducible refine Below.setCell ?_ (by first | omega | (simp; done) | (simp; omega)) _ | with_reducible refine Below.alloc ?_ (by first | omega | (simp; done) | (simp; omega)) _ | with_reducible refine Below.drew ?_ | with_reducible refine Ext.on _ ?_ (by first | omega | (simp; done) | (simp; omega))
end Go.Proofs.YtbnhmjecjeifdaaDoor
