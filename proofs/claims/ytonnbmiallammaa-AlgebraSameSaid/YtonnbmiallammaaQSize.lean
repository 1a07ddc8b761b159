/-
  The reference's size of a query: that there is one, whichever.
-/
import Derived.Test.YtonnbmiallammaaQFew
set_option linter.unusedVariables false
namespace Go.Proofs.Ytonnbmiallammaa
open Go Go.RowKit Go.Deep
/-- Some number. -/
def SomeI (w : World) (r : Ending) (w' : World) : Prop := ∃ n : Int, r = .returned (.int .i64 n) ∧ Cls w w'
def SizeQOf (q : Qy) : Prop := ∀ (w : World), QAt w q → Calls Try.prog 30 #[.agg #[.int .i64 q.p.op, .string q.p.table, .int .i64 q.p.kind, .bool q.p.all, .int .i64 q.p.cond.op, .int .i64 q.p.cond.ty, .int .i64 q.p.cond.num, .string q.p.cond.text, .int .i64 q.p.cond.col, .slice q.p.ck.a q.p.ck.len q.p.ck.cap, .slice q.p.es.a q.p.es.len q.p.es.cap, .slice q.p.gs.a q.p.gs.len q.p.gs.cap, .slice q.p.ts.a q.p.ts.len q.p.ts.cap, .slice q.p.rs.a q.p.rs.len q.p.rs.cap, .slice q.ks.a q.ks.len q.ks.cap]] w fun r w' => SomeI w r w'
set_option maxHeartbeats 8000000 in
set_option maxRecDepth 20000 in
theorem sizeQ_10 (p : Qr) (ks : Sl) (kid : Nat → Qy) (ih : ∀ i, SizeQOf (kid i)) (hop : p.op = 10) : SizeQOf (.mk p ks kid) := by
  intro w h
  have hp := h.part
  have hq := h.slice
  have hkid := h.kid
  simp only [Qy.p, Qy.ks, Qy.kid] at hp hq hkid ⊢
  clear h
  obtain ⟨op, table, kind, all, cond, ck, ⟨ea, en, ec⟩, exprs, ⟨ga, gn, gc⟩, agg, ⟨ta, tn, tc⟩, typ, ⟨ra, rn, rc⟩, row, val⟩ := p
  obtain ⟨ka, kn, kc⟩ := ks
  simp only at hop
  have HEX : Hid (Kids w (fun _ => True) ea en ec exprs) := Lib.hid hp.exprs
  have HAG : Hid (SlAt w 7 ⟨ga, gn, gc⟩ fun i => (agg i).cells) := Lib.hid hp.aggs
  have HAA : Hid (∀ i, i < gn → AgAt w (agg i)) := Lib.hid hp.agg
  have HRW : Hid (SlAt w 1 ⟨ra, rn, rc⟩ fun i => [(row i).v]) := Lib.hid hp.rows
  have HRL : Hid (∀ i, i < rn → (row i).len ≤ maxLen) := Lib.hid (fun i hi => Nat.le_trans (hp.vals i hi).1 (hp.vals i hi).2.1)
  have HKD : Hid (SlAt w 15 ⟨ka, kn, kc⟩ fun i => (kid i).cells) := Lib.hid hq
  have HKA : Hid (∀ i, i < kn → QAt w (kid i)) := Lib.hid hkid
  have HI := Lib.hid ih
  have hen : en ≤ maxLen := Nat.le_trans HEX.out.le HEX.out.max
  have hgn : gn ≤ maxLen := Nat.le_trans HAG.out.1 HAG.out.2.1
  have hrn : rn ≤ maxLen := Nat.le_trans HRW.out.1 HRW.out.2.1
  have hkn : kn ≤ maxLen := Nat.le_trans HKD.out.1 HKD.out.2.1
  unfold maxLen at hen hgn hrn hkn
  have C0 : Hid (∀ W, Below w.heap.size w W → Calls Try.prog 21 #[.agg #[.int .i64 cond.op, .int .i64 cond.ty, .int .i64 cond.num, .string cond.text, .int .i64 cond.col, .slice ck.a ck.len ck.cap]] W fun r w' => r = .returned (.int .i64 (sizeW cond)) ∧ Cls W w') := Lib.hid (fun W hW => Size_calls cond ck.a ck.len ck.cap _ W (hp.condk.later hW))
  clear hp hq hkid ih
  generalize sizeW cond = sc at C0
  subst hop
  go_enter Try.func30, Try.ntmps30
  go_wp2_with (go_at_call 21; ((with_reducible refine (C0.out _ ?_).mono ?_); (· (repeat first | with_reducible exact Below.refl _ _ | with_reducible refine Below.setCell ?_ (by first | omega | (simp; done) | (simp; omega)) _ | with_reducible refine Below.alloc ?_ (by first | omega | (simp; done) | (simp; omega)) _ | with_reducible refine Below.drew ?_ | with_reducible refine Ext.on _ ?_ (by first | omega | (simp; done) | (simp; omega)))); rintro r _ ⟨rfl, y0, rfl⟩))
  go_loopw [3, 4] (fun u i wr => ∃ (m : Nat) (t : Int), m ≤ en ∧ i = .int .i64 m ∧ u = .int .i64 t ∧ Cls (w.alloc (.cells #[.int .i64 10, .string table, .int .i64 kind, .bool all, .int .i64 cond.op, .int .i64 cond.ty, .int .i64 cond.num, .string cond.text, .int .i64 cond.col, .slice ck.a ck.len ck.cap, .slice ea en ec, .slice ga gn gc, .slice ta tn tc, .slice ra rn rc, .slice ka kn kc] 43)) wr) (fun _ i _ => en - (intOf i).toNat)
  case atStart =>
    refine ⟨0, _, Nat.zero_le _, rfl, rfl, Cls.of ?_⟩
    repeat first | with_reducible exact Below.refl _ _ | with_reducible refine Below.setCell ?_ (by first | omega | (simp; done) | (simp; omega)) _ | with_reducible refine Below.alloc ?_ (by first | omega | (simp; done) | (simp; omega)) _ | with_reducible refine Below.drew ?_ | with_reducible refine Ext.on _ ?_ (by first | omega | (simp; done) | (simp; omega))
  case round =>
    obtain ⟨m4, t4, hm4, rfl, rfl, y4, rfl⟩ := hrel
    have ys4 := y4.size
    simp at ys4
    by_cases hlt4 : m4 < en
    · obtain ⟨a', len', cap', ⟨b2, off2, rfl, hb2', hok, p0, p1, p2, p3, p4, p5⟩, hfine, hk'⟩ := HEX.out.at_ (i := m4) hlt4
      have hb3 : b2 < w.heap.size + 1 := by omega
      have C1 : Hid (∀ W, Below w.heap.size w W → Calls Try.prog 21 #[.agg #[.int .i64 (exprs.getD m4 Ex.z).op, .int .i64 (exprs.getD m4 Ex.z).ty, .int .i64 (exprs.getD m4 Ex.z).num, .string (exprs.getD m4 Ex.z).text, .int .i64 (exprs.getD m4 Ex.z).col, .slice a' len' cap']] W fun r w' => r = .returned (.int .i64 (sizeW (exprs.getD m4 Ex.z))) ∧ Cls W w') := Lib.hid (fun W hW => Size_calls _ a' len' cap' _ W (hk'.later hW))
      clear hk' hfine hok
      generalize sizeW (exprs.getD m4 Ex.z) = be at C1
      generalize exprs.getD m4 Ex.z = e at *
      go_wp2_with (go_at_call 21; ((with_reducible refine (C1.out _ ?_).mono ?_); (· (repeat first | with_reducible exact Below.refl _ _ | with_reducible refine Below.setCell ?_ (by first | omega | (simp; done) | (simp; omega)) _ | with_reducible refine Below.alloc ?_ (by first | omega | (simp; done) | (simp; omega)) _ | with_reducible refine Below.drew ?_ | with_reducible refine Ext.on _ ?_ (by first | omega | (simp; done) | (simp; omega)))); rintro r _ ⟨rfl, z, rfl⟩))
      go_roundw
      case rel =>
        refine ⟨m4 + 1, _, by omega, by go_num, rfl, Cls.of ?_⟩
        repeat first | with_reducible exact Below.refl _ _ | with_reducible refine Below.setCell ?_ (by first | omega | (simp; done) | (simp; omega)) _ | with_reducible refine Below.alloc ?_ (by first | omega | (simp; done) | (simp; omega)) _ | with_reducible refine Below.drew ?_ | with_reducible refine Ext.on _ ?_ (by first | omega | (simp; done) | (simp; omega))
      case measure => simp [intOf]; omega
    · go_wp2_with fail
      go_loopw [3, 5] (fun u i wr => ∃ (m : Nat) (t : Int), m ≤ gn ∧ i = .int .i64 m ∧ u = .int .i64 t ∧ Cls (w.alloc (.cells #[.int .i64 10, .string table, .int .i64 kind, .bool all, .int .i64 cond.op, .int .i64 cond.ty, .int .i64 cond.num, .string cond.text, .int .i64 cond.col, .slice ck.a ck.len ck.cap, .slice ea en ec, .slice ga gn gc, .slice ta tn tc, .slice ra rn rc, .slice ka kn kc] 43)) wr) (fun _ i _ => gn - (intOf i).toNat)
      case atStart =>
        refine ⟨0, _, Nat.zero_le _, rfl, rfl, Cls.of ?_⟩
        repeat first | with_reducible exact Below.refl _ _ | with_reducible refine Below.setCell ?_ (by first | omega | (simp; done) | (simp; omega)) _ | with_reducible refine Below.alloc ?_ (by first | omega | (simp; done) | (simp; omega)) _ | with_reducible refine Below.drew ?_ | with_reducible refine Ext.on _ ?_ (by first | omega | (simp; done) | (simp; omega))
      case round =>
        obtain ⟨m5, t5, hm5, rfl, rfl, y5, rfl⟩ := hrel
        have ys5 := y5.size
        simp at ys5
        by_cases hlt5 : m5 < gn
        · obtain ⟨b2, off2, ha2, hb2', hc2⟩ := HAG.out.2.2.2 m5 hlt5
          simp only at ha2
          subst ha2
          have hb3 : b2 < w.heap.size + 1 := by omega
          have p0 := hc2 0 (by omega)
          have p1 := hc2 1 (by omega)
          have p2 := hc2 2 (by omega)
          have p3 := hc2 3 (by omega)
          have p4 := hc2 4 (by omega)
          have p5 := hc2 5 (by omega)
          have p6 := hc2 6 (by omega)
          simp only [Ag.cells, Sl.v, List.getElem?_cons_zero, List.getElem?_cons_succ, Nat.add_zero] at p0 p1 p2 p3 p4 p5 p6
          have C1 : Hid (∀ W, Below w.heap.size w W → Calls Try.prog 21 #[.agg #[.int .i64 (agg m5).arg.op, .int .i64 (agg m5).arg.ty, .int .i64 (agg m5).arg.num, .string (agg m5).arg.text, .int .i64 (agg m5).arg.col, .slice (agg m5).ka.a (agg m5).ka.len (agg m5).ka.cap]] W fun r w' => r = .returned (.int .i64 (sizeW (agg m5).arg)) ∧ Cls W w') := Lib.hid (fun W hW => Size_calls _ _ _ _ _ W ((HAA.out m5 hlt5).2.later hW))
          clear hc2
          generalize sizeW (agg m5).arg = be at C1
          generalize agg m5 = g at *
          have e1 : ∀ o : Nat, off2 + m5 * 7 + 1 + o = off2 + m5 * 7 + (1 + o) := fun o => by omega
          by_cases hfn : g.fn = 1
          · have bfn : (g.fn != 1) = false := by simp [hfn]
            clear hfn
            go_wp2_with (go_at_call 21; ((with_reducible refine (C1.out _ ?_).mono ?_); (· (repeat first | with_reducible exact Below.refl _ _ | with_reducible refine Below.setCell ?_ (by first | omega | (simp; done) | (simp; omega)) _ | with_reducible refine Below.alloc ?_ (by first | omega | (simp; done) | (simp; omega)) _ | with_reducible refine Below.drew ?_ | with_reducible refine Ext.on _ ?_ (by first | omega | (simp; done) | (simp; omega)))); rintro r _ ⟨rfl, z, rfl⟩))
            go_roundw
            case rel =>
              refine ⟨m5 + 1, _, by omega, by go_num, rfl, Cls.of ?_⟩
              repeat first | with_reducible exact Below.refl _ _ | with_reducible refine Below.setCell ?_ (by first | omega | (simp; done) | (simp; omega)) _ | with_reducible refine Below.alloc ?_ (by first | omega | (simp; done) | (simp; omega)) _ | with_reducible refine Below.drew ?_ | with_reducible refine Ext.on _ ?_ (by first | omega | (simp; done) | (simp; omega))
            case measure => simp [intOf]; omega
          · have bfn : (g.fn != 1) = true := by simp [hfn]
            clear hfn
            go_wp2_with (go_at_call 21; ((with_reducible refine (C1.out _ ?_).mono ?_); (· (repeat first | with_reducible exact Below.refl _ _ | with_reducible refine Below.setCell ?_ (by first | omega | (simp; done) | (simp; omega)) _ | with_reducible refine Below.alloc ?_ (by first | omega | (simp; done) | (simp; omega)) _ | with_reducible refine Below.drew ?_ | with_reducible refine Ext.on _ ?_ (by first | omega | (simp; done) | (simp; omega)))); rintro r _ ⟨rfl, z, rfl⟩))
            go_roundw
            case rel =>
              refine ⟨m5 + 1, _, by omega, by go_num, rfl, Cls.of ?_⟩
              repeat first | with_reducible exact Below.refl _ _ | with_reducible refine Below.setCell ?_ (by first | omega | (simp; done) | (simp; omega)) _ | with_reducible refine Below.alloc ?_ (by first | omega | (simp; done) | (simp; omega)) _ | with_reducible refine Below.drew ?_ | with_reducible refine Ext.on _ ?_ (by first | omega | (simp; done) | (simp; omega))
            case measure => simp [intOf]; omega
        · go_wp2_with fail
          go_loopw [3, 6] (fun u i wr => ∃ (m : Nat) (t : Int), m ≤ rn ∧ i = .int .i64 m ∧ u = .int .i64 t ∧ Cls (w.alloc (.cells #[.int .i64 10, .string table, .int .i64 kind, .bool all, .int .i64 cond.op, .int .i64 cond.ty, .int .i64 cond.num, .string cond.text, .int .i64 cond.col, .slice ck.a ck.len ck.cap, .slice ea en ec, .slice ga gn gc, .slice ta tn tc, .slice ra rn rc, .slice ka kn kc] 43)) wr) (fun _ i _ => rn - (intOf i).toNat)
          case atStart =>
            refine ⟨0, _, Nat.zero_le _, rfl, rfl, Cls.of ?_⟩
            repeat first | with_reducible exact Below.refl _ _ | with_reducible refine Below.setCell ?_ (by first | omega | (simp; done) | (simp; omega)) _ | with_reducible refine Below.alloc ?_ (by first | omega | (simp; done) | (simp; omega)) _ | with_reducible refine Below.drew ?_ | with_reducible refine Ext.on _ ?_ (by first | omega | (simp; done) | (simp; omega))
          case round =>
            obtain ⟨m6, t6, hm6, rfl, rfl, y6, rfl⟩ := hrel
            have ys6 := y6.size
            simp at ys6
            by_cases hlt6 : m6 < rn
            · obtain ⟨b2, off2, ha2, hb2', hc2⟩ := HRW.out.2.2.2 m6 hlt6
              simp only at ha2
              subst ha2
              have hb3 : b2 < w.heap.size + 1 := by omega
              have p0 := hc2 0 (by omega)
              have hl2 := HRL.out m6 hlt6
              unfold maxLen at hl2
              simp only [Sl.v, List.getElem?_cons_zero, Nat.add_zero, Nat.mul_one] at p0
              clear hc2
              generalize row m6 = u at p0 hl2
              go_wp2_with fail
              go_roundw
              case rel =>
                refine ⟨m6 + 1, _, by omega, by go_num, rfl, Cls.of ?_⟩
                repeat first | with_reducible exact Below.refl _ _ | with_reducible refine Below.setCell ?_ (by first | omega | (simp; done) | (simp; omega)) _ | with_reducible refine Below.alloc ?_ (by first | omega | (simp; done) | (simp; omega)) _ | with_reducible refine Below.drew ?_ | with_reducible refine Ext.on _ ?_ (by first | omega | (simp; done) | (simp; omega))
              case measure => simp [intOf]; omega
            · go_wp2_with fail
              go_loopw [3, 7] (fun u i wr => ∃ (m : Nat) (t : Int), m ≤ kn ∧ i = .int .i64 m ∧ u = .int .i64 t ∧ Cls (w.alloc (.cells #[.int .i64 10, .string table, .int .i64 kind, .bool all, .int .i64 cond.op, .int .i64 cond.ty, .int .i64 cond.num, .string cond.text, .int .i64 cond.col, .slice ck.a ck.len ck.cap, .slice ea en ec, .slice ga gn gc, .slice ta tn tc, .slice ra rn rc, .slice ka kn kc] 43)) wr) (fun _ i _ => kn - (intOf i).toNat)
              case atStart =>
                refine ⟨0, _, Nat.zero_le _, rfl, rfl, Cls.of ?_⟩
                repeat first | with_reducible exact Below.refl _ _ | with_reducible refine Below.setCell ?_ (by first | omega | (simp; done) | (simp; omega)) _ | with_reducible refine Below.alloc ?_ (by first | omega | (simp; done) | (simp; omega)) _ | with_reducible refine Below.drew ?_ | with_reducible refine Ext.on _ ?_ (by first | omega | (simp; done) | (simp; omega))
              case round =>
                obtain ⟨m7, t7, hm7, rfl, rfl, y7, rfl⟩ := hrel
                have ys7 := y7.size
                simp at ys7
                by_cases hlt7 : m7 < kn
                · obtain ⟨b2, off2, ha2, hb2', hc2⟩ := HKD.out.2.2.2 m7 hlt7
                  simp only at ha2
                  subst ha2
                  have hb3 : b2 < w.heap.size + 1 := by omega
                  have p0 := hc2 0 (by omega)
                  have p1 := hc2 1 (by omega)
                  have p2 := hc2 2 (by omega)
                  have p3 := hc2 3 (by omega)
                  have p4 := hc2 4 (by omega)
                  have p5 := hc2 5 (by omega)
                  have p6 := hc2 6 (by omega)
                  have p7 := hc2 7 (by omega)
                  have p8 := hc2 8 (by omega)
                  have p9 := hc2 9 (by omega)
                  have p10 := hc2 10 (by omega)
                  have p11 := hc2 11 (by omega)
                  have p12 := hc2 12 (by omega)
                  have p13 := hc2 13 (by omega)
                  have p14 := hc2 14 (by omega)
                  simp only [Qy.cells, Sl.v, List.getElem?_cons_zero, List.getElem?_cons_succ, Nat.add_zero] at p0 p1 p2 p3 p4 p5 p6 p7 p8 p9 p10 p11 p12 p13 p14
                  have C1 : Hid (∀ W, Below w.heap.size w W → Calls Try.prog 30 #[.agg #[.int .i64 (kid m7).p.op, .string (kid m7).p.table, .int .i64 (kid m7).p.kind, .bool (kid m7).p.all, .int .i64 (kid m7).p.cond.op, .int .i64 (kid m7).p.cond.ty, .int .i64 (kid m7).p.cond.num, .string (kid m7).p.cond.text, .int .i64 (kid m7).p.cond.col, .slice (kid m7).p.ck.a (kid m7).p.ck.len (kid m7).p.ck.cap, .slice (kid m7).p.es.a (kid m7).p.es.len (kid m7).p.es.cap, .slice (kid m7).p.gs.a (kid m7).p.gs.len (kid m7).p.gs.cap, .slice (kid m7).p.ts.a (kid m7).p.ts.len (kid m7).p.ts.cap, .slice (kid m7).p.rs.a (kid m7).p.rs.len (kid m7).p.rs.cap, .slice (kid m7).ks.a (kid m7).ks.len (kid m7).ks.cap]] W fun r w' => SomeI W r w') := Lib.hid (fun W hW => HI.out m7 W ((HKA.out m7 hlt7).later hW))
                  clear hc2
                  generalize kid m7 = k at *
                  go_wp2_with (go_at_call 30; ((with_reducible refine (C1.out _ ?_).mono ?_); (· (repeat first | with_reducible exact Below.refl _ _ | with_reducible refine Below.setCell ?_ (by first | omega | (simp; done) | (simp; omega)) _ | with_reducible refine Below.alloc ?_ (by first | omega | (simp; done) | (simp; omega)) _ | with_reducible refine Below.drew ?_ | with_reducible refine Ext.on _ ?_ (by first | omega | (simp; done) | (simp; omega)))); rintro r w2 hq; obtain ⟨be, rfl, z, rfl⟩ := hq))
                  go_roundw
                  case rel =>
                    refine ⟨m7 + 1, _, by omega, by go_num, rfl, Cls.of ?_⟩
                    repeat first | with_reducible exact Below.refl _ _ | with_reducible refine Below.setCell ?_ (by first | omega | (simp; done) | (simp; omega)) _ | with_reducible refine Below.alloc ?_ (by first | omega | (simp; done) | (simp; omega)) _ | with_reducible refine Below.drew ?_ | with_reducible refine Ext.on _ ?_ (by first | omega | (simp; done) | (simp; omega))
                  case measure => simp [intOf]; omega
                · go_wp2_with fail
                  go_ret
                  refine ⟨_, rfl, Cls.of ?_⟩
                  repeat first | with_reducible exact Below.refl _ _ | with_reducible refine Below.setCell ?_ (by first | omega | (simp; done) | (simp; omega)) _ | with_reducible refine Below.alloc ?_ (by first | omega | (simp; done) | (simp; omega)) _ | with_reducible refine Below.drew ?_ | with_reducible refine Ext.on _ ?_ (by first | omega | (simp; done) | (simp; omega))
set_option maxHeartbeats 8000000 in
set_option maxRecDepth 20000 in
theorem sizeQ_4 (p : Qr) (ks : Sl) (kid : Nat → Qy) (ih : ∀ i, SizeQOf (kid i)) (hop : p.op = 4) : SizeQOf (.mk p ks kid) := by
  intro w h
  have hp := h.part
  have hq := h.slice
  have hkid := h.kid
  simp only [Qy.p, Qy.ks, Qy.kid] at hp hq hkid ⊢
  clear h
  obtain ⟨op, table, kind, all, cond, ck, ⟨ea, en, ec⟩, exprs, ⟨ga, gn, gc⟩, agg, ⟨ta, tn, tc⟩, typ, ⟨ra, rn, rc⟩, row, val⟩ := p
  obtain ⟨ka, kn, kc⟩ := ks
  simp only at hop
  have HEX : Hid (Kids w (fun _ => True) ea en ec exprs) := Lib.hid hp.exprs
  have HAG : Hid (SlAt w 7 ⟨ga, gn, gc⟩ fun i => (agg i).cells) := Lib.hid hp.aggs
  have HAA : Hid (∀ i, i < gn → AgAt w (agg i)) := Lib.hid hp.agg
  have HRW : Hid (SlAt w 1 ⟨ra, rn, rc⟩ fun i => [(row i).v]) := Lib.hid hp.rows
  have HRL : Hid (∀ i, i < rn → (row i).len ≤ maxLen) := Lib.hid (fun i hi => Nat.le_trans (hp.vals i hi).1 (hp.vals i hi).2.1)
  have HKD : Hid (SlAt w 15 ⟨ka, kn, kc⟩ fun i => (kid i).cells) := Lib.hid hq
  have HKA : Hid (∀ i, i < kn → QAt w (kid i)) := Lib.hid hkid
  have HI := Lib.hid ih
  have hen : en ≤ maxLen := Nat.le_trans HEX.out.le HEX.out.max
  have hgn : gn ≤ maxLen := Nat.le_trans HAG.out.1 HAG.out.2.1
  have hrn : rn ≤ maxLen := Nat.le_trans HRW.out.1 HRW.out.2.1
  have hkn : kn ≤ maxLen := Nat.le_trans HKD.out.1 HKD.out.2.1
  unfold maxLen at hen hgn hrn hkn
  have C0 : Hid (∀ W, Below w.heap.size w W → Calls Try.prog 21 #[.agg #[.int .i64 cond.op, .int .i64 cond.ty, .int .i64 cond.num, .string cond.text, .int .i64 cond.col, .slice ck.a ck.len ck.cap]] W fun r w' => r = .returned (.int .i64 (sizeW cond)) ∧ Cls W w') := Lib.hid (fun W hW => Size_calls cond ck.a ck.len ck.cap _ W (hp.condk.later hW))
  clear hp hq hkid ih
  generalize sizeW cond = sc at C0
  subst hop
  go_enter Try.func30, Try.ntmps30
  go_wp2_with (go_at_call 21; ((with_reducible refine (C0.out _ ?_).mono ?_); (· (repeat first | with_reducible exact Below.refl _ _ | with_reducible refine Below.setCell ?_ (by first | omega | (simp; done) | (simp; omega)) _ | with_reducible refine Below.alloc ?_ (by first | omega | (simp; done) | (simp; omega)) _ | with_reducible refine Below.drew ?_ | with_reducible refine Ext.on _ ?_ (by first | omega | (simp; done) | (simp; omega)))); rintro r _ ⟨rfl, y0, rfl⟩))
  go_loopw [3, 4] (fun u i wr => ∃ (m : Nat) (t : Int), m ≤ en ∧ i = .int .i64 m ∧ u = .int .i64 t ∧ Cls (w.alloc (.cells #[.int .i64 4, .string table, .int .i64 kind, .bool all, .int .i64 cond.op, .int .i64 cond.ty, .int .i64 cond.num, .string cond.text, .int .i64 cond.col, .slice ck.a ck.len ck.cap, .slice ea en ec, .slice ga gn gc, .slice ta tn tc, .slice ra rn rc, .slice ka kn kc] 43)) wr) (fun _ i _ => en - (intOf i).toNat)
  case atStart =>
    refine ⟨0, _, Nat.zero_le _, rfl, rfl, Cls.of ?_⟩
    repeat first | with_reducible exact Below.refl _ _ | with_reducible refine Below.setCell ?_ (by first | omega | (simp; done) | (simp; omega)) _ | with_reducible refine Below.alloc ?_ (by first | omega | (simp; done) | (simp; omega)) _ | with_reducible refine Below.drew ?_ | with_reducible refine Ext.on _ ?_ (by first | omega | (simp; done) | (simp; omega))
  case round =>
    obtain ⟨m4, t4, hm4, rfl, rfl, y4, rfl⟩ := hrel
    have ys4 := y4.size
    simp at ys4
    by_cases hlt4 : m4 < en
    · obtain ⟨a', len', cap', ⟨b2, off2, rfl, hb2', hok, p0, p1, p2, p3, p4, p5⟩, hfine, hk'⟩ := HEX.out.at_ (i := m4) hlt4
      have hb3 : b2 < w.heap.size + 1 := by omega
      have C1 : Hid (∀ W, Below w.heap.size w W → Calls Try.prog 21 #[.agg #[.int .i64 (exprs.getD m4 Ex.z).op, .int .i64 (exprs.getD m4 Ex.z).ty, .int .i64 (exprs.getD m4 Ex.z).num, .string (exprs.getD m4 Ex.z).text, .int .i64 (exprs.getD m4 Ex.z).col, .slice a' len' cap']] W fun r w' => r = .returned (.int .i64 (sizeW (exprs.getD m4 Ex.z))) ∧ Cls W w') := Lib.hid (fun W hW => Size_calls _ a' len' cap' _ W (hk'.later hW))
      clear hk' hfine hok
      generalize sizeW (exprs.getD m4 Ex.z) = be at C1
      generalize exprs.getD m4 Ex.z = e at *
      go_wp2_with (go_at_call 21; ((with_reducible refine (C1.out _ ?_).mono ?_); (· (repeat first | with_reducible exact Below.refl _ _ | with_reducible refine Below.setCell ?_ (by first | omega | (simp; done) | (simp; omega)) _ | with_reducible refine Below.alloc ?_ (by first | omega | (simp; done) | (simp; omega)) _ | with_reducible refine Below.drew ?_ | with_reducible refine Ext.on _ ?_ (by first | omega | (simp; done) | (simp; omega)))); rintro r _ ⟨rfl, z, rfl⟩))
      go_roundw
      case rel =>
        refine ⟨m4 + 1, _, by omega, by go_num, rfl, Cls.of ?_⟩
        repeat first | with_reducible exact Below.refl _ _ | with_reducible refine Below.setCell ?_ (by first | omega | (simp; done) | (simp; omega)) _ | with_reducible refine Below.alloc ?_ (by first | omega | (simp; done) | (simp; omega)) _ | with_reducible refine Below.drew ?_ | with_reducible refine Ext.on _ ?_ (by first | omega | (simp; done) | (simp; omega))
      case measure => simp [intOf]; omega
    · go_wp2_with fail
      go_loopw [3, 5] (fun u i wr => ∃ (m : Nat) (t : Int), m ≤ gn ∧ i = .int .i64 m ∧ u = .int .i64 t ∧ Cls (w.alloc (.cells #[.int .i64 4, .string table, .int .i64 kind, .bool all, .int .i64 cond.op, .int .i64 cond.ty, .int .i64 cond.num, .string cond.text, .int .i64 cond.col, .slice ck.a ck.len ck.cap, .slice ea en ec, .slice ga gn gc, .slice ta tn tc, .slice ra rn rc, .slice ka kn kc] 43)) wr) (fun _ i _ => gn - (intOf i).toNat)
      case atStart =>
        refine ⟨0, _, Nat.zero_le _, rfl, rfl, Cls.of ?_⟩
        repeat first | with_reducible exact Below.refl _ _ | with_reducible refine Below.setCell ?_ (by first | omega | (simp; done) | (simp; omega)) _ | with_reducible refine Below.alloc ?_ (by first | omega | (simp; done) | (simp; omega)) _ | with_reducible refine Below.drew ?_ | with_reducible refine Ext.on _ ?_ (by first | omega | (simp; done) | (simp; omega))
      case round =>
        obtain ⟨m5, t5, hm5, rfl, rfl, y5, rfl⟩ := hrel
        have ys5 := y5.size
        simp at ys5
        by_cases hlt5 : m5 < gn
        all_goals
          go_wp2_with fail
          go_loopw [3, 6] (fun u i wr => ∃ (m : Nat) (t : Int), m ≤ rn ∧ i = .int .i64 m ∧ u = .int .i64 t ∧ Cls (w.alloc (.cells #[.int .i64 4, .string table, .int .i64 kind, .bool all, .int .i64 cond.op, .int .i64 cond.ty, .int .i64 cond.num, .string cond.text, .int .i64 cond.col, .slice ck.a ck.len ck.cap, .slice ea en ec, .slice ga gn gc, .slice ta tn tc, .slice ra rn rc, .slice ka kn kc] 43)) wr) (fun _ i _ => rn - (intOf i).toNat)
          case atStart =>
            refine ⟨0, _, Nat.zero_le _, rfl, rfl, Cls.of ?_⟩
            repeat first | with_reducible exact Below.refl _ _ | with_reducible refine Below.setCell ?_ (by first | omega | (simp; done) | (simp; omega)) _ | with_reducible refine Below.alloc ?_ (by first | omega | (simp; done) | (simp; omega)) _ | with_reducible refine Below.drew ?_ | with_reducible refine Ext.on _ ?_ (by first | omega | (simp; done) | (simp; omega))
          case round =>
            obtain ⟨m6, t6, hm6, rfl, rfl, y6, rfl⟩ := hrel
            have ys6 := y6.size
            simp at ys6
            by_cases hlt6 : m6 < rn
            · obtain ⟨b2, off2, ha2, hb2', hc2⟩ := HRW.out.2.2.2 m6 hlt6
              simp only at ha2
              subst ha2
              have hb3 : b2 < w.heap.size + 1 := by omega
              have p0 := hc2 0 (by omega)
              have hl2 := HRL.out m6 hlt6
              unfold maxLen at hl2
              simp only [Sl.v, List.getElem?_cons_zero, Nat.add_zero, Nat.mul_one] at p0
              clear hc2
              generalize row m6 = u at p0 hl2
              go_wp2_with fail
              go_roundw
              case rel =>
                refine ⟨m6 + 1, _, by omega, by go_num, rfl, Cls.of ?_⟩
                repeat first | with_reducible exact Below.refl _ _ | with_reducible refine Below.setCell ?_ (by first | omega | (simp; done) | (simp; omega)) _ | with_reducible refine Below.alloc ?_ (by first | omega | (simp; done) | (simp; omega)) _ | with_reducible refine Below.drew ?_ | with_reducible refine Ext.on _ ?_ (by first | omega | (simp; done) | (simp; omega))
              case measure => simp [intOf]; omega
            · go_wp2_with fail
              go_loopw [3, 7] (fun u i wr => ∃ (m : Nat) (t : Int), m ≤ kn ∧ i = .int .i64 m ∧ u = .int .i64 t ∧ Cls (w.alloc (.cells #[.int .i64 4, .string table, .int .i64 kind, .bool all, .int .i64 cond.op, .int .i64 cond.ty, .int .i64 cond.num, .string cond.text, .int .i64 cond.col, .slice ck.a ck.len ck.cap, .slice ea en ec, .slice ga gn gc, .slice ta tn tc, .slice ra rn rc, .slice ka kn kc] 43)) wr) (fun _ i _ => kn - (intOf i).toNat)
              case atStart =>
                refine ⟨0, _, Nat.zero_le _, rfl, rfl, Cls.of ?_⟩
                repeat first | with_reducible exact Below.refl _ _ | with_reducible refine Below.setCell ?_ (by first | omega | (simp; done) | (simp; omega)) _ | with_reducible refine Below.alloc ?_ (by first | omega | (simp; done) | (simp; omega)) _ | with_reducible refine Below.drew ?_ | with_reducible refine Ext.on _ ?_ (by first | omega | (simp; done) | (simp; omega))
              case round =>
                obtain ⟨m7, t7, hm7, rfl, rfl, y7, rfl⟩ := hrel
                have ys7 := y7.size
                simp at ys7
                by_cases hlt7 : m7 < kn
                · obtain ⟨b2, off2, ha2, hb2', hc2⟩ := HKD.out.2.2.2 m7 hlt7
                  simp only at ha2
                  subst ha2
                  have hb3 : b2 < w.heap.size + 1 := by omega
                  have p0 := hc2 0 (by omega)
                  have p1 := hc2 1 (by omega)
                  have p2 := hc2 2 (by omega)
                  have p3 := hc2 3 (by omega)
                  have p4 := hc2 4 (by omega)
                  have p5 := hc2 5 (by omega)
                  have p6 := hc2 6 (by omega)
                  have p7 := hc2 7 (by omega)
                  have p8 := hc2 8 (by omega)
                  have p9 := hc2 9 (by omega)
                  have p10 := hc2 10 (by omega)
                  have p11 := hc2 11 (by omega)
                  have p12 := hc2 12 (by omega)
                  have p13 := hc2 13 (by omega)
                  have p14 := hc2 14 (by omega)
                  simp only [Qy.cells, Sl.v, List.getElem?_cons_zero, List.getElem?_cons_succ, Nat.add_zero] at p0 p1 p2 p3 p4 p5 p6 p7 p8 p9 p10 p11 p12 p13 p14
                  have C1 : Hid (∀ W, Below w.heap.size w W → Calls Try.prog 30 #[.agg #[.int .i64 (kid m7).p.op, .string (kid m7).p.table, .int .i64 (kid m7).p.kind, .bool (kid m7).p.all, .int .i64 (kid m7).p.cond.op, .int .i64 (kid m7).p.cond.ty, .int .i64 (kid m7).p.cond.num, .string (kid m7).p.cond.text, .int .i64 (kid m7).p.cond.col, .slice (kid m7).p.ck.a (kid m7).p.ck.len (kid m7).p.ck.cap, .slice (kid m7).p.es.a (kid m7).p.es.len (kid m7).p.es.cap, .slice (kid m7).p.gs.a (kid m7).p.gs.len (kid m7).p.gs.cap, .slice (kid m7).p.ts.a (kid m7).p.ts.len (kid m7).p.ts.cap, .slice (kid m7).p.rs.a (kid m7).p.rs.len (kid m7).p.rs.cap, .slice (kid m7).ks.a (kid m7).ks.len (kid m7).ks.cap]] W fun r w' => SomeI W r w') := Lib.hid (fun W hW => HI.out m7 W ((HKA.out m7 hlt7).later hW))
                  clear hc2
                  generalize kid m7 = k at *
                  go_wp2_with (go_at_call 30; ((with_reducible refine (C1.out _ ?_).mono ?_); (· (repeat first | with_reducible exact Below.refl _ _ | with_reducible refine Below.setCell ?_ (by first | omega | (simp; done) | (simp; omega)) _ | with_reducible refine Below.alloc ?_ (by first | omega | (simp; done) | (simp; omega)) _ | with_reducible refine Below.drew ?_ | with_reducible refine Ext.on _ ?_ (by first | omega | (simp; done) | (simp; omega)))); rintro r w2 hq; obtain ⟨be, rfl, z, rfl⟩ := hq))
                  go_roundw
                  case rel =>
                    refine ⟨m7 + 1, _, by omega, by go_num, rfl, Cls.of ?_⟩
                    repeat first | with_reducible exact Below.refl _ _ | with_reducible refine Below.setCell ?_ (by first | omega | (simp; done) | (simp; omega)) _ | with_reducible refine Below.alloc ?_ (by first | omega | (simp; done) | (simp; omega)) _ | with_reducible refine Below.drew ?_ | with_reducible refine Ext.on _ ?_ (by first | omega | (simp; done) | (simp; omega))
                  case measure => simp [intOf]; omega
                · go_wp2_with fail
                  go_ret
                  refine ⟨_, rfl, Cls.of ?_⟩
                  repeat first | with_reducible exact Below.refl _ _ | with_reducible refine Below.setCell ?_ (by first | omega | (simp; done) | (simp; omega)) _ | with_reducible refine Below.alloc ?_ (by first | omega | (simp; done) | (simp; omega)) _ | with_reducible refine Below.drew ?_ | with_reducible refine Ext.on _ ?_ (by first | omega | (simp; done) | (simp; omega))
set_option maxHeartbeats 8000000 in
set_option maxRecDepth 20000 in
theorem sizeQ_3 (p : Qr) (ks : Sl) (kid : Nat → Qy) (ih : ∀ i, SizeQOf (kid i)) (hop : p.op = 3) : SizeQOf (.mk p ks kid) := by
  intro w h
  have hp := h.part
  have hq := h.slice
  have hkid := h.kid
  simp only [Qy.p, Qy.ks, Qy.kid] at hp hq hkid ⊢
  clear h
  obtain ⟨op, table, kind, all, cond, ck, ⟨ea, en, ec⟩, exprs, ⟨ga, gn, gc⟩, agg, ⟨ta, tn, tc⟩, typ, ⟨ra, rn, rc⟩, row, val⟩ := p
  obtain ⟨ka, kn, kc⟩ := ks
  simp only at hop
  have HEX : Hid (Kids w (fun _ => True) ea en ec exprs) := Lib.hid hp.exprs
  have HAG : Hid (SlAt w 7 ⟨ga, gn, gc⟩ fun i => (agg i).cells) := Lib.hid hp.aggs
  have HAA : Hid (∀ i, i < gn → AgAt w (agg i)) := Lib.hid hp.agg
  have HRW : Hid (SlAt w 1 ⟨ra, rn, rc⟩ fun i => [(row i).v]) := Lib.hid hp.rows
  have HRL : Hid (∀ i, i < rn → (row i).len ≤ maxLen) := Lib.hid (fun i hi => Nat.le_trans (hp.vals i hi).1 (hp.vals i hi).2.1)
  have HKD : Hid (SlAt w 15 ⟨ka, kn, kc⟩ fun i => (kid i).cells) := Lib.hid hq
  have HKA : Hid (∀ i, i < kn → QAt w (kid i)) := Lib.hid hkid
  have HI := Lib.hid ih
  have hen : en ≤ maxLen := Nat.le_trans HEX.out.le HEX.out.max
  have hgn : gn ≤ maxLen := Nat.le_trans HAG.out.1 HAG.out.2.1
  have hrn : rn ≤ maxLen := Nat.le_trans HRW.out.1 HRW.out.2.1
  have hkn : kn ≤ maxLen := Nat.le_trans HKD.out.1 HKD.out.2.1
  unfold maxLen at hen hgn hrn hkn
  have C0 : Hid (∀ W, Below w.heap.size w W → Calls Try.prog 21 #[.agg #[.int .i64 cond.op, .int .i64 cond.ty, .int .i64 cond.num, .string cond.text, .int .i64 cond.col, .slice ck.a ck.len ck.cap]] W fun r w' => r = .returned (.int .i64 (sizeW cond)) ∧ Cls W w') := Lib.hid (fun W hW => Size_calls cond ck.a ck.len ck.cap _ W (hp.condk.later hW))
  clear hp hq hkid ih
  generalize sizeW cond = sc at C0
  subst hop
  go_enter Try.func30, Try.ntmps30
  go_wp2_with (go_at_call 21; ((with_reducible refine (C0.out _ ?_).mono ?_); (· (repeat first | with_reducible exact Below.refl _ _ | with_reducible refine Below.setCell ?_ (by first | omega | (simp; done) | (simp; omega)) _ | with_reducible refine Below.alloc ?_ (by first | omega | (simp; done) | (simp; omega)) _ | with_reducible refine Below.drew ?_ | with_reducible refine Ext.on _ ?_ (by first | omega | (simp; done) | (simp; omega)))); rintro r _ ⟨rfl, y0, rfl⟩))
  go_loopw [3, 4] (fun u i wr => ∃ (m : Nat) (t : Int), m ≤ en ∧ i = .int .i64 m ∧ u = .int .i64 t ∧ Cls (w.alloc (.cells #[.int .i64 3, .string table, .int .i64 kind, .bool all, .int .i64 cond.op, .int .i64 cond.ty, .int .i64 cond.num, .string cond.text, .int .i64 cond.col, .slice ck.a ck.len ck.cap, .slice ea en ec, .slice ga gn gc, .slice ta tn tc, .slice ra rn rc, .slice ka kn kc] 43)) wr) (fun _ i _ => en - (intOf i).toNat)
  case atStart =>
    refine ⟨0, _, Nat.zero_le _, rfl, rfl, Cls.of ?_⟩
    repeat first | with_reducible exact Below.refl _ _ | with_reducible refine Below.setCell ?_ (by first | omega | (simp; done) | (simp; omega)) _ | with_reducible refine Below.alloc ?_ (by first | omega | (simp; done) | (simp; omega)) _ | with_reducible refine Below.drew ?_ | with_reducible refine Ext.on _ ?_ (by first | omega | (simp; done) | (simp; omega))
  case round =>
    obtain ⟨m4, t4, hm4, rfl, rfl, y4, rfl⟩ := hrel
    have ys4 := y4.size
    simp at ys4
    by_cases hlt4 : m4 < en
    all_goals
      go_wp2_with fail
      go_loopw [3, 5] (fun u i wr => ∃ (m : Nat) (t : Int), m ≤ gn ∧ i = .int .i64 m ∧ u = .int .i64 t ∧ Cls (w.alloc (.cells #[.int .i64 3, .string table, .int .i64 kind, .bool all, .int .i64 cond.op, .int .i64 cond.ty, .int .i64 cond.num, .string cond.text, .int .i64 cond.col, .slice ck.a ck.len ck.cap, .slice ea en ec, .slice ga gn gc, .slice ta tn tc, .slice ra rn rc, .slice ka kn kc] 43)) wr) (fun _ i _ => gn - (intOf i).toNat)
      case atStart =>
        refine ⟨0, _, Nat.zero_le _, rfl, rfl, Cls.of ?_⟩
        repeat first | with_reducible exact Below.refl _ _ | with_reducible refine Below.setCell ?_ (by first | omega | (simp; done) | (simp; omega)) _ | with_reducible refine Below.alloc ?_ (by first | omega | (simp; done) | (simp; omega)) _ | with_reducible refine Below.drew ?_ | with_reducible refine Ext.on _ ?_ (by first | omega | (simp; done) | (simp; omega))
      case round =>
        obtain ⟨m5, t5, hm5, rfl, rfl, y5, rfl⟩ := hrel
        have ys5 := y5.size
        simp at ys5
        by_cases hlt5 : m5 < gn
        all_goals
          go_wp2_with fail
          go_loopw [3, 6] (fun u i wr => ∃ (m : Nat) (t : Int), m ≤ rn ∧ i = .int .i64 m ∧ u = .int .i64 t ∧ Cls (w.alloc (.cells #[.int .i64 3, .string table, .int .i64 kind, .bool all, .int .i64 cond.op, .int .i64 cond.ty, .int .i64 cond.num, .string cond.text, .int .i64 cond.col, .slice ck.a ck.len ck.cap, .slice ea en ec, .slice ga gn gc, .slice ta tn tc, .slice ra rn rc, .slice ka kn kc] 43)) wr) (fun _ i _ => rn - (intOf i).toNat)
          case atStart =>
            refine ⟨0, _, Nat.zero_le _, rfl, rfl, Cls.of ?_⟩
            repeat first | with_reducible exact Below.refl _ _ | with_reducible refine Below.setCell ?_ (by first | omega | (simp; done) | (simp; omega)) _ | with_reducible refine Below.alloc ?_ (by first | omega | (simp; done) | (simp; omega)) _ | with_reducible refine Below.drew ?_ | with_reducible refine Ext.on _ ?_ (by first | omega | (simp; done) | (simp; omega))
          case round =>
            obtain ⟨m6, t6, hm6, rfl, rfl, y6, rfl⟩ := hrel
            have ys6 := y6.size
            simp at ys6
            by_cases hlt6 : m6 < rn
            · obtain ⟨b2, off2, ha2, hb2', hc2⟩ := HRW.out.2.2.2 m6 hlt6
              simp only at ha2
              subst ha2
              have hb3 : b2 < w.heap.size + 1 := by omega
              have p0 := hc2 0 (by omega)
              have hl2 := HRL.out m6 hlt6
              unfold maxLen at hl2
              simp only [Sl.v, List.getElem?_cons_zero, Nat.add_zero, Nat.mul_one] at p0
              clear hc2
              generalize row m6 = u at p0 hl2
              go_wp2_with fail
              go_roundw
              case rel =>
                refine ⟨m6 + 1, _, by omega, by go_num, rfl, Cls.of ?_⟩
                repeat first | with_reducible exact Below.refl _ _ | with_reducible refine Below.setCell ?_ (by first | omega | (simp; done) | (simp; omega)) _ | with_reducible refine Below.alloc ?_ (by first | omega | (simp; done) | (simp; omega)) _ | with_reducible refine Below.drew ?_ | with_reducible refine Ext.on _ ?_ (by first | omega | (simp; done) | (simp; omega))
              case measure => simp [intOf]; omega
            · go_wp2_with fail
              go_loopw [3, 7] (fun u i wr => ∃ (m : Nat) (t : Int), m ≤ kn ∧ i = .int .i64 m ∧ u = .int .i64 t ∧ Cls (w.alloc (.cells #[.int .i64 3, .string table, .int .i64 kind, .bool all, .int .i64 cond.op, .int .i64 cond.ty, .int .i64 cond.num, .string cond.text, .int .i64 cond.col, .slice ck.a ck.len ck.cap, .slice ea en ec, .slice ga gn gc, .slice ta tn tc, .slice ra rn rc, .slice ka kn kc] 43)) wr) (fun _ i _ => kn - (intOf i).toNat)
              case atStart =>
                refine ⟨0, _, Nat.zero_le _, rfl, rfl, Cls.of ?_⟩
                repeat first | with_reducible exact Below.refl _ _ | with_reducible refine Below.setCell ?_ (by first | omega | (simp; done) | (simp; omega)) _ | with_reducible refine Below.alloc ?_ (by first | omega | (simp; done) | (simp; omega)) _ | with_reducible refine Below.drew ?_ | with_reducible refine Ext.on _ ?_ (by first | omega | (simp; done) | (simp; omega))
              case round =>
                obtain ⟨m7, t7, hm7, rfl, rfl, y7, rfl⟩ := hrel
                have ys7 := y7.size
                simp at ys7
                by_cases hlt7 : m7 < kn
                · obtain ⟨b2, off2, ha2, hb2', hc2⟩ := HKD.out.2.2.2 m7 hlt7
                  simp only at ha2
                  subst ha2
                  have hb3 : b2 < w.heap.size + 1 := by omega
                  have p0 := hc2 0 (by omega)
                  have p1 := hc2 1 (by omega)
                  have p2 := hc2 2 (by omega)
                  have p3 := hc2 3 (by omega)
                  have p4 := hc2 4 (by omega)
                  have p5 := hc2 5 (by omega)
                  have p6 := hc2 6 (by omega)
                  have p7 := hc2 7 (by omega)
                  have p8 := hc2 8 (by omega)
                  have p9 := hc2 9 (by omega)
                  have p10 := hc2 10 (by omega)
                  have p11 := hc2 11 (by omega)
                  have p12 := hc2 12 (by omega)
                  have p13 := hc2 13 (by omega)
                  have p14 := hc2 14 (by omega)
                  simp only [Qy.cells, Sl.v, List.getElem?_cons_zero, List.getElem?_cons_succ, Nat.add_zero] at p0 p1 p2 p3 p4 p5 p6 p7 p8 p9 p10 p11 p12 p13 p14
                  have C1 : Hid (∀ W, Below w.heap.size w W → Calls Try.prog 30 #[.agg #[.int .i64 (kid m7).p.op, .string (kid m7).p.table, .int .i64 (kid m7).p.kind, .bool (kid m7).p.all, .int .i64 (kid m7).p.cond.op, .int .i64 (kid m7).p.cond.ty, .int .i64 (kid m7).p.cond.num, .string (kid m7).p.cond.text, .int .i64 (kid m7).p.cond.col, .slice (kid m7).p.ck.a (kid m7).p.ck.len (kid m7).p.ck.cap, .slice (kid m7).p.es.a (kid m7).p.es.len (kid m7).p.es.cap, .slice (kid m7).p.gs.a (kid m7).p.gs.len (kid m7).p.gs.cap, .slice (kid m7).p.ts.a (kid m7).p.ts.len (kid m7).p.ts.cap, .slice (kid m7).p.rs.a (kid m7).p.rs.len (kid m7).p.rs.cap, .slice (kid m7).ks.a (kid m7).ks.len (kid m7).ks.cap]] W fun r w' => SomeI W r w') := Lib.hid (fun W hW => HI.out m7 W ((HKA.out m7 hlt7).later hW))
                  clear hc2
                  generalize kid m7 = k at *
                  go_wp2_with (go_at_call 30; ((with_reducible refine (C1.out _ ?_).mono ?_); (· (repeat first | with_reducible exact Below.refl _ _ | with_reducible refine Below.setCell ?_ (by first | omega | (simp; done) | (simp; omega)) _ | with_reducible refine Below.alloc ?_ (by first | omega | (simp; done) | (simp; omega)) _ | with_reducible refine Below.drew ?_ | with_reducible refine Ext.on _ ?_ (by first | omega | (simp; done) | (simp; omega)))); rintro r w2 hq; obtain ⟨be, rfl, z, rfl⟩ := hq))
                  go_roundw
                  case rel =>
                    refine ⟨m7 + 1, _, by omega, by go_num, rfl, Cls.of ?_⟩
                    repeat first | with_reducible exact Below.refl _ _ | with_reducible refine Below.setCell ?_ (by first | omega | (simp; done) | (simp; omega)) _ | with_reducible refine Below.alloc ?_ (by first | omega | (simp; done) | (simp; omega)) _ | with_reducible refine Below.drew ?_ | with_reducible refine Ext.on _ ?_ (by first | omega | (simp; done) | (simp; omega))
                  case measure => simp [intOf]; omega
                · go_wp2_with fail
                  go_ret
                  refine ⟨_, rfl, Cls.of ?_⟩
                  repeat first | with_reducible exact Below.refl _ _ | with_reducible refine Below.setCell ?_ (by first | omega | (simp; done) | (simp; omega)) _ | with_reducible refine Below.alloc ?_ (by first | omega | (simp; done) | (simp; omega)) _ | with_reducible refine Below.drew ?_ | with_reducible refine Ext.on _ ?_ (by first | omega | (simp; done) | (simp; omega))
set_option maxHeartbeats 8000000 in
set_option maxRecDepth 20000 in
theorem sizeQ_5 (p : Qr) (ks : Sl) (kid : Nat → Qy) (ih : ∀ i, SizeQOf (kid i)) (hop : p.op = 5) : SizeQOf (.mk p ks kid) := by
  intro w h
  have hp := h.part
  have hq := h.slice
  have hkid := h.kid
  simp only [Qy.p, Qy.ks, Qy.kid] at hp hq hkid ⊢
  clear h
  obtain ⟨op, table, kind, all, cond, ck, ⟨ea, en, ec⟩, exprs, ⟨ga, gn, gc⟩, agg, ⟨ta, tn, tc⟩, typ, ⟨ra, rn, rc⟩, row, val⟩ := p
  obtain ⟨ka, kn, kc⟩ := ks
  simp only at hop
  have HEX : Hid (Kids w (fun _ => True) ea en ec exprs) := Lib.hid hp.exprs
  have HAG : Hid (SlAt w 7 ⟨ga, gn, gc⟩ fun i => (agg i).cells) := Lib.hid hp.aggs
  have HAA : Hid (∀ i, i < gn → AgAt w (agg i)) := Lib.hid hp.agg
  have HRW : Hid (SlAt w 1 ⟨ra, rn, rc⟩ fun i => [(row i).v]) := Lib.hid hp.rows
  have HRL : Hid (∀ i, i < rn → (row i).len ≤ maxLen) := Lib.hid (fun i hi => Nat.le_trans (hp.vals i hi).1 (hp.vals i hi).2.1)
  have HKD : Hid (SlAt w 15 ⟨ka, kn, kc⟩ fun i => (kid i).cells) := Lib.hid hq
  have HKA : Hid (∀ i, i < kn → QAt w (kid i)) := Lib.hid hkid
  have HI := Lib.hid ih
  have hen : en ≤ maxLen := Nat.le_trans HEX.out.le HEX.out.max
  have hgn : gn ≤ maxLen := Nat.le_trans HAG.out.1 HAG.out.2.1
  have hrn : rn ≤ maxLen := Nat.le_trans HRW.out.1 HRW.out.2.1
  have hkn : kn ≤ maxLen := Nat.le_trans HKD.out.1 HKD.out.2.1
  unfold maxLen at hen hgn hrn hkn
  have C0 : Hid (∀ W, Below w.heap.size w W → Calls Try.prog 21 #[.agg #[.int .i64 cond.op, .int .i64 cond.ty, .int .i64 cond.num, .string cond.text, .int .i64 cond.col, .slice ck.a ck.len ck.cap]] W fun r w' => r = .returned (.int .i64 (sizeW cond)) ∧ Cls W w') := Lib.hid (fun W hW => Size_calls cond ck.a ck.len ck.cap _ W (hp.condk.later hW))
  clear hp hq hkid ih
  generalize sizeW cond = sc at C0
  subst hop
  go_enter Try.func30, Try.ntmps30
  go_wp2_with (go_at_call 21; ((with_reducible refine (C0.out _ ?_).mono ?_); (· (repeat first | with_reducible exact Below.refl _ _ | with_reducible refine Below.setCell ?_ (by first | omega | (simp; done) | (simp; omega)) _ | with_reducible refine Below.alloc ?_ (by first | omega | (simp; done) | (simp; omega)) _ | with_reducible refine Below.drew ?_ | with_reducible refine Ext.on _ ?_ (by first | omega | (simp; done) | (simp; omega)))); rintro r _ ⟨rfl, y0, rfl⟩))
  go_loopw [3, 4] (fun u i wr => ∃ (m : Nat) (t : Int), m ≤ en ∧ i = .int .i64 m ∧ u = .int .i64 t ∧ Cls (w.alloc (.cells #[.int .i64 5, .string table, .int .i64 kind, .bool all, .int .i64 cond.op, .int .i64 cond.ty, .int .i64 cond.num, .string cond.text, .int .i64 cond.col, .slice ck.a ck.len ck.cap, .slice ea en ec, .slice ga gn gc, .slice ta tn tc, .slice ra rn rc, .slice ka kn kc] 43)) wr) (fun _ i _ => en - (intOf i).toNat)
  case atStart =>
    refine ⟨0, _, Nat.zero_le _, rfl, rfl, Cls.of ?_⟩
    repeat first | with_reducible exact Below.refl _ _ | with_reducible refine Below.setCell ?_ (by first | omega | (simp; done) | (simp; omega)) _ | with_reducible refine Below.alloc ?_ (by first | omega | (simp; done) | (simp; omega)) _ | with_reducible refine Below.drew ?_ | with_reducible refine Ext.on _ ?_ (by first | omega | (simp; done) | (simp; omega))
  case round =>
    obtain ⟨m4, t4, hm4, rfl, rfl, y4, rfl⟩ := hrel
    have ys4 := y4.size
    simp at ys4
    by_cases hlt4 : m4 < en
    all_goals
      go_wp2_with fail
      go_loopw [3, 5] (fun u i wr => ∃ (m : Nat) (t : Int), m ≤ gn ∧ i = .int .i64 m ∧ u = .int .i64 t ∧ Cls (w.alloc (.cells #[.int .i64 5, .string table, .int .i64 kind, .bool all, .int .i64 cond.op, .int .i64 cond.ty, .int .i64 cond.num, .string cond.text, .int .i64 cond.col, .slice ck.a ck.len ck.cap, .slice ea en ec, .slice ga gn gc, .slice ta tn tc, .slice ra rn rc, .slice ka kn kc] 43)) wr) (fun _ i _ => gn - (intOf i).toNat)
      case atStart =>
        refine ⟨0, _, Nat.zero_le _, rfl, rfl, Cls.of ?_⟩
        repeat first | with_reducible exact Below.refl _ _ | with_reducible refine Below.setCell ?_ (by first | omega | (simp; done) | (simp; omega)) _ | with_reducible refine Below.alloc ?_ (by first | omega | (simp; done) | (simp; omega)) _ | with_reducible refine Below.drew ?_ | with_reducible refine Ext.on _ ?_ (by first | omega | (simp; done) | (simp; omega))
      case round =>
        obtain ⟨m5, t5, hm5, rfl, rfl, y5, rfl⟩ := hrel
        have ys5 := y5.size
        simp at ys5
        by_cases hlt5 : m5 < gn
        all_goals
          go_wp2_with fail
          go_loopw [3, 6] (fun u i wr => ∃ (m : Nat) (t : Int), m ≤ rn ∧ i = .int .i64 m ∧ u = .int .i64 t ∧ Cls (w.alloc (.cells #[.int .i64 5, .string table, .int .i64 kind, .bool all, .int .i64 cond.op, .int .i64 cond.ty, .int .i64 cond.num, .string cond.text, .int .i64 cond.col, .slice ck.a ck.len ck.cap, .slice ea en ec, .slice ga gn gc, .slice ta tn tc, .slice ra rn rc, .slice ka kn kc] 43)) wr) (fun _ i _ => rn - (intOf i).toNat)
          case atStart =>
            refine ⟨0, _, Nat.zero_le _, rfl, rfl, Cls.of ?_⟩
            repeat first | with_reducible exact Below.refl _ _ | with_reducible refine Below.setCell ?_ (by first | omega | (simp; done) | (simp; omega)) _ | with_reducible refine Below.alloc ?_ (by first | omega | (simp; done) | (simp; omega)) _ | with_reducible refine Below.drew ?_ | with_reducible refine Ext.on _ ?_ (by first | omega | (simp; done) | (simp; omega))
          case round =>
            obtain ⟨m6, t6, hm6, rfl, rfl, y6, rfl⟩ := hrel
            have ys6 := y6.size
            simp at ys6
            by_cases hlt6 : m6 < rn
            · obtain ⟨b2, off2, ha2, hb2', hc2⟩ := HRW.out.2.2.2 m6 hlt6
              simp only at ha2
              subst ha2
              have hb3 : b2 < w.heap.size + 1 := by omega
              have p0 := hc2 0 (by omega)
              have hl2 := HRL.out m6 hlt6
              unfold maxLen at hl2
              simp only [Sl.v, List.getElem?_cons_zero, Nat.add_zero, Nat.mul_one] at p0
              clear hc2
              generalize row m6 = u at p0 hl2
              go_wp2_with fail
              go_roundw
              case rel =>
                refine ⟨m6 + 1, _, by omega, by go_num, rfl, Cls.of ?_⟩
                repeat first | with_reducible exact Below.refl _ _ | with_reducible refine Below.setCell ?_ (by first | omega | (simp; done) | (simp; omega)) _ | with_reducible refine Below.alloc ?_ (by first | omega | (simp; done) | (simp; omega)) _ | with_reducible refine Below.drew ?_ | with_reducible refine Ext.on _ ?_ (by first | omega | (simp; done) | (simp; omega))
              case measure => simp [intOf]; omega
            · go_wp2_with fail
              go_loopw [3, 7] (fun u i wr => ∃ (m : Nat) (t : Int), m ≤ kn ∧ i = .int .i64 m ∧ u = .int .i64 t ∧ Cls (w.alloc (.cells #[.int .i64 5, .string table, .int .i64 kind, .bool all, .int .i64 cond.op, .int .i64 cond.ty, .int .i64 cond.num, .string cond.text, .int .i64 cond.col, .slice ck.a ck.len ck.cap, .slice ea en ec, .slice ga gn gc, .slice ta tn tc, .slice ra rn rc, .slice ka kn kc] 43)) wr) (fun _ i _ => kn - (intOf i).toNat)
              case atStart =>
                refine ⟨0, _, Nat.zero_le _, rfl, rfl, Cls.of ?_⟩
                repeat first | with_reducible exact Below.refl _ _ | with_reducible refine Below.setCell ?_ (by first | omega | (simp; done) | (simp; omega)) _ | with_reducible refine Below.alloc ?_ (by first | omega | (simp; done) | (simp; omega)) _ | with_reducible refine Below.drew ?_ | with_reducible refine Ext.on _ ?_ (by first | omega | (simp; done) | (simp; omega))
              case round =>
                obtain ⟨m7, t7, hm7, rfl, rfl, y7, rfl⟩ := hrel
                have ys7 := y7.size
                simp at ys7
                by_cases hlt7 : m7 < kn
                · obtain ⟨b2, off2, ha2, hb2', hc2⟩ := HKD.out.2.2.2 m7 hlt7
                  simp only at ha2
                  subst ha2
                  have hb3 : b2 < w.heap.size + 1 := by omega
                  have p0 := hc2 0 (by omega)
                  have p1 := hc2 1 (by omega)
                  have p2 := hc2 2 (by omega)
                  have p3 := hc2 3 (by omega)
                  have p4 := hc2 4 (by omega)
                  have p5 := hc2 5 (by omega)
                  have p6 := hc2 6 (by omega)
                  have p7 := hc2 7 (by omega)
                  have p8 := hc2 8 (by omega)
                  have p9 := hc2 9 (by omega)
                  have p10 := hc2 10 (by omega)
                  have p11 := hc2 11 (by omega)
                  have p12 := hc2 12 (by omega)
                  have p13 := hc2 13 (by omega)
                  have p14 := hc2 14 (by omega)
                  simp only [Qy.cells, Sl.v, List.getElem?_cons_zero, List.getElem?_cons_succ, Nat.add_zero] at p0 p1 p2 p3 p4 p5 p6 p7 p8 p9 p10 p11 p12 p13 p14
                  have C1 : Hid (∀ W, Below w.heap.size w W → Calls Try.prog 30 #[.agg #[.int .i64 (kid m7).p.op, .string (kid m7).p.table, .int .i64 (kid m7).p.kind, .bool (kid m7).p.all, .int .i64 (kid m7).p.cond.op, .int .i64 (kid m7).p.cond.ty, .int .i64 (kid m7).p.cond.num, .string (kid m7).p.cond.text, .int .i64 (kid m7).p.cond.col, .slice (kid m7).p.ck.a (kid m7).p.ck.len (kid m7).p.ck.cap, .slice (kid m7).p.es.a (kid m7).p.es.len (kid m7).p.es.cap, .slice (kid m7).p.gs.a (kid m7).p.gs.len (kid m7).p.gs.cap, .slice (kid m7).p.ts.a (kid m7).p.ts.len (kid m7).p.ts.cap, .slice (kid m7).p.rs.a (kid m7).p.rs.len (kid m7).p.rs.cap, .slice (kid m7).ks.a (kid m7).ks.len (kid m7).ks.cap]] W fun r w' => SomeI W r w') := Lib.hid (fun W hW => HI.out m7 W ((HKA.out m7 hlt7).later hW))
                  clear hc2
                  generalize kid m7 = k at *
                  go_wp2_with (go_at_call 30; ((with_reducible refine (C1.out _ ?_).mono ?_); (· (repeat first | with_reducible exact Below.refl _ _ | with_reducible refine Below.setCell ?_ (by first | omega | (simp; done) | (simp; omega)) _ | with_reducible refine Below.alloc ?_ (by first | omega | (simp; done) | (simp; omega)) _ | with_reducible refine Below.drew ?_ | with_reducible refine Ext.on _ ?_ (by first | omega | (simp; done) | (simp; omega)))); rintro r w2 hq; obtain ⟨be, rfl, z, rfl⟩ := hq))
                  go_roundw
                  case rel =>
                    refine ⟨m7 + 1, _, by omega, by go_num, rfl, Cls.of ?_⟩
                    repeat first | with_reducible exact Below.refl _ _ | with_reducible refine Below.setCell ?_ (by first | omega | (simp; done) | (simp; omega)) _ | with_reducible refine Below.alloc ?_ (by first | omega | (simp; done) | (simp; omega)) _ | with_reducible refine Below.drew ?_ | with_reducible refine Ext.on _ ?_ (by first | omega | (simp; done) | (simp; omega))
                  case measure => simp [intOf]; omega
                · go_wp2_with fail
                  go_ret
                  refine ⟨_, rfl, Cls.of ?_⟩
                  repeat first | with_reducible exact Below.refl _ _ | with_reducible refine Below.setCell ?_ (by first | omega | (simp; done) | (simp; omega)) _ | with_reducible refine Below.alloc ?_ (by first | omega | (simp; done) | (simp; omega)) _ | with_reducible refine Below.drew ?_ | with_reducible refine Ext.on _ ?_ (by first | omega | (simp; done) | (simp; omega))
set_option maxHeartbeats 8000000 in
set_option maxRecDepth 20000 in
theorem sizeQ_no (p : Qr) (ks : Sl) (kid : Nat → Qy) (ih : ∀ i, SizeQOf (kid i)) (hop : ¬ p.op = 10 ∧ ¬ p.op = 4 ∧ ¬ p.op = 3 ∧ ¬ p.op = 5) : SizeQOf (.mk p ks kid) := by
  intro w h
  have hp := h.part
  have hq := h.slice
  have hkid := h.kid
  simp only [Qy.p, Qy.ks, Qy.kid] at hp hq hkid ⊢
  clear h
  obtain ⟨op, table, kind, all, cond, ck, ⟨ea, en, ec⟩, exprs, ⟨ga, gn, gc⟩, agg, ⟨ta, tn, tc⟩, typ, ⟨ra, rn, rc⟩, row, val⟩ := p
  obtain ⟨ka, kn, kc⟩ := ks
  simp only at hop
  have HEX : Hid (Kids w (fun _ => True) ea en ec exprs) := Lib.hid hp.exprs
  have HAG : Hid (SlAt w 7 ⟨ga, gn, gc⟩ fun i => (agg i).cells) := Lib.hid hp.aggs
  have HAA : Hid (∀ i, i < gn → AgAt w (agg i)) := Lib.hid hp.agg
  have HRW : Hid (SlAt w 1 ⟨ra, rn, rc⟩ fun i => [(row i).v]) := Lib.hid hp.rows
  have HRL : Hid (∀ i, i < rn → (row i).len ≤ maxLen) := Lib.hid (fun i hi => Nat.le_trans (hp.vals i hi).1 (hp.vals i hi).2.1)
  have HKD : Hid (SlAt w 15 ⟨ka, kn, kc⟩ fun i => (kid i).cells) := Lib.hid hq
  have HKA : Hid (∀ i, i < kn → QAt w (kid i)) := Lib.hid hkid
  have HI := Lib.hid ih
  have hen : en ≤ maxLen := Nat.le_trans HEX.out.le HEX.out.max
  have hgn : gn ≤ maxLen := Nat.le_trans HAG.out.1 HAG.out.2.1
  have hrn : rn ≤ maxLen := Nat.le_trans HRW.out.1 HRW.out.2.1
  have hkn : kn ≤ maxLen := Nat.le_trans HKD.out.1 HKD.out.2.1
  unfold maxLen at hen hgn hrn hkn
  have C0 : Hid (∀ W, Below w.heap.size w W → Calls Try.prog 21 #[.agg #[.int .i64 cond.op, .int .i64 cond.ty, .int .i64 cond.num, .string cond.text, .int .i64 cond.col, .slice ck.a ck.len ck.cap]] W fun r w' => r = .returned (.int .i64 (sizeW cond)) ∧ Cls W w') := Lib.hid (fun W hW => Size_calls cond ck.a ck.len ck.cap _ W (hp.condk.later hW))
  clear hp hq hkid ih
  generalize sizeW cond = sc at C0
  obtain ⟨g10, g4, g3, g5⟩ := hop
  have b3 : (op == 3) = false := by simp [g3]
  have b5 : (op == 5) = false := by simp [g5]
  have b10 : (op == 10) = false := by simp [g10]
  have b4 : (op == 4) = false := by simp [g4]
  clear g10 g4 g3 g5
  go_enter Try.func30, Try.ntmps30
  go_wp2_with fail
  go_loopw [3, 4] (fun u i wr => ∃ (m : Nat) (t : Int), m ≤ en ∧ i = .int .i64 m ∧ u = .int .i64 t ∧ Cls (w.alloc (.cells #[.int .i64 op, .string table, .int .i64 kind, .bool all, .int .i64 cond.op, .int .i64 cond.ty, .int .i64 cond.num, .string cond.text, .int .i64 cond.col, .slice ck.a ck.len ck.cap, .slice ea en ec, .slice ga gn gc, .slice ta tn tc, .slice ra rn rc, .slice ka kn kc] 43)) wr) (fun _ i _ => en - (intOf i).toNat)
  case atStart =>
    refine ⟨0, _, Nat.zero_le _, rfl, rfl, Cls.of ?_⟩
    repeat first | with_reducible exact Below.refl _ _ | with_reducible refine Below.setCell ?_ (by first | omega | (simp; done) | (simp; omega)) _ | with_reducible refine Below.alloc ?_ (by first | omega | (simp; done) | (simp; omega)) _ | with_reducible refine Below.drew ?_ | with_reducible refine Ext.on _ ?_ (by first | omega | (simp; done) | (simp; omega))
  case round =>
    obtain ⟨m4, t4, hm4, rfl, rfl, y4, rfl⟩ := hrel
    have ys4 := y4.size
    simp at ys4
    by_cases hlt4 : m4 < en
    all_goals
      go_wp2_with fail
      go_loopw [3, 5] (fun u i wr => ∃ (m : Nat) (t : Int), m ≤ gn ∧ i = .int .i64 m ∧ u = .int .i64 t ∧ Cls (w.alloc (.cells #[.int .i64 op, .string table, .int .i64 kind, .bool all, .int .i64 cond.op, .int .i64 cond.ty, .int .i64 cond.num, .string cond.text, .int .i64 cond.col, .slice ck.a ck.len ck.cap, .slice ea en ec, .slice ga gn gc, .slice ta tn tc, .slice ra rn rc, .slice ka kn kc] 43)) wr) (fun _ i _ => gn - (intOf i).toNat)
      case atStart =>
        refine ⟨0, _, Nat.zero_le _, rfl, rfl, Cls.of ?_⟩
        repeat first | with_reducible exact Below.refl _ _ | with_reducible refine Below.setCell ?_ (by first | omega | (simp; done) | (simp; omega)) _ | with_reducible refine Below.alloc ?_ (by first | omega | (simp; done) | (simp; omega)) _ | with_reducible refine Below.drew ?_ | with_reducible refine Ext.on _ ?_ (by first | omega | (simp; done) | (simp; omega))
      case round =>
        obtain ⟨m5, t5, hm5, rfl, rfl, y5, rfl⟩ := hrel
        have ys5 := y5.size
        simp at ys5
        by_cases hlt5 : m5 < gn
        all_goals
          go_wp2_with fail
          go_loopw [3, 6] (fun u i wr => ∃ (m : Nat) (t : Int), m ≤ rn ∧ i = .int .i64 m ∧ u = .int .i64 t ∧ Cls (w.alloc (.cells #[.int .i64 op, .string table, .int .i64 kind, .bool all, .int .i64 cond.op, .int .i64 cond.ty, .int .i64 cond.num, .string cond.text, .int .i64 cond.col, .slice ck.a ck.len ck.cap, .slice ea en ec, .slice ga gn gc, .slice ta tn tc, .slice ra rn rc, .slice ka kn kc] 43)) wr) (fun _ i _ => rn - (intOf i).toNat)
          case atStart =>
            refine ⟨0, _, Nat.zero_le _, rfl, rfl, Cls.of ?_⟩
            repeat first | with_reducible exact Below.refl _ _ | with_reducible refine Below.setCell ?_ (by first | omega | (simp; done) | (simp; omega)) _ | with_reducible refine Below.alloc ?_ (by first | omega | (simp; done) | (simp; omega)) _ | with_reducible refine Below.drew ?_ | with_reducible refine Ext.on _ ?_ (by first | omega | (simp; done) | (simp; omega))
          case round =>
            obtain ⟨m6, t6, hm6, rfl, rfl, y6, rfl⟩ := hrel
            have ys6 := y6.size
            simp at ys6
            by_cases hlt6 : m6 < rn
            · obtain ⟨b2, off2, ha2, hb2', hc2⟩ := HRW.out.2.2.2 m6 hlt6
              simp only at ha2
              subst ha2
              have hb3 : b2 < w.heap.size + 1 := by omega
              have p0 := hc2 0 (by omega)
              have hl2 := HRL.out m6 hlt6
              unfold maxLen at hl2
              simp only [Sl.v, List.getElem?_cons_zero, Nat.add_zero, Nat.mul_one] at p0
              clear hc2
              generalize row m6 = u at p0 hl2
              go_wp2_with fail
              go_roundw
              case rel =>
                refine ⟨m6 + 1, _, by omega, by go_num, rfl, Cls.of ?_⟩
                repeat first | with_reducible exact Below.refl _ _ | with_reducible refine Below.setCell ?_ (by first | omega | (simp; done) | (simp; omega)) _ | with_reducible refine Below.alloc ?_ (by first | omega | (simp; done) | (simp; omega)) _ | with_reducible refine Below.drew ?_ | with_reducible refine Ext.on _ ?_ (by first | omega | (simp; done) | (simp; omega))
              case measure => simp [intOf]; omega
            · go_wp2_with fail
              go_loopw [3, 7] (fun u i wr => ∃ (m : Nat) (t : Int), m ≤ kn ∧ i = .int .i64 m ∧ u = .int .i64 t ∧ Cls (w.alloc (.cells #[.int .i64 op, .string table, .int .i64 kind, .bool all, .int .i64 cond.op, .int .i64 cond.ty, .int .i64 cond.num, .string cond.text, .int .i64 cond.col, .slice ck.a ck.len ck.cap, .slice ea en ec, .slice ga gn gc, .slice ta tn tc, .slice ra rn rc, .slice ka kn kc] 43)) wr) (fun _ i _ => kn - (intOf i).toNat)
              case atStart =>
                refine ⟨0, _, Nat.zero_le _, rfl, rfl, Cls.of ?_⟩
                repeat first | with_reducible exact Below.refl _ _ | with_reducible refine Below.setCell ?_ (by first | omega | (simp; done) | (simp; omega)) _ | with_reducible refine Below.alloc ?_ (by first | omega | (simp; done) | (simp; omega)) _ | with_reducible refine Below.drew ?_ | with_reducible refine Ext.on _ ?_ (by first | omega | (simp; done) | (simp; omega))
              case round =>
                obtain ⟨m7, t7, hm7, rfl, rfl, y7, rfl⟩ := hrel
                have ys7 := y7.size
                simp at ys7
                by_cases hlt7 : m7 < kn
                · obtain ⟨b2, off2, ha2, hb2', hc2⟩ := HKD.out.2.2.2 m7 hlt7
                  simp only at ha2
                  subst ha2
                  have hb3 : b2 < w.heap.size + 1 := by omega
                  have p0 := hc2 0 (by omega)
                  have p1 := hc2 1 (by omega)
                  have p2 := hc2 2 (by omega)
                  have p3 := hc2 3 (by omega)
                  have p4 := hc2 4 (by omega)
                  have p5 := hc2 5 (by omega)
                  have p6 := hc2 6 (by omega)
                  have p7 := hc2 7 (by omega)
                  have p8 := hc2 8 (by omega)
                  have p9 := hc2 9 (by omega)
                  have p10 := hc2 10 (by omega)
                  have p11 := hc2 11 (by omega)
                  have p12 := hc2 12 (by omega)
                  have p13 := hc2 13 (by omega)
                  have p14 := hc2 14 (by omega)
                  simp only [Qy.cells, Sl.v, List.getElem?_cons_zero, List.getElem?_cons_succ, Nat.add_zero] at p0 p1 p2 p3 p4 p5 p6 p7 p8 p9 p10 p11 p12 p13 p14
                  have C1 : Hid (∀ W, Below w.heap.size w W → Calls Try.prog 30 #[.agg #[.int .i64 (kid m7).p.op, .string (kid m7).p.table, .int .i64 (kid m7).p.kind, .bool (kid m7).p.all, .int .i64 (kid m7).p.cond.op, .int .i64 (kid m7).p.cond.ty, .int .i64 (kid m7).p.cond.num, .string (kid m7).p.cond.text, .int .i64 (kid m7).p.cond.col, .slice (kid m7).p.ck.a (kid m7).p.ck.len (kid m7).p.ck.cap, .slice (kid m7).p.es.a (kid m7).p.es.len (kid m7).p.es.cap, .slice (kid m7).p.gs.a (kid m7).p.gs.len (kid m7).p.gs.cap, .slice (kid m7).p.ts.a (kid m7).p.ts.len (kid m7).p.ts.cap, .slice (kid m7).p.rs.a (kid m7).p.rs.len (kid m7).p.rs.cap, .slice (kid m7).ks.a (kid m7).ks.len (kid m7).ks.cap]] W fun r w' => SomeI W r w') := Lib.hid (fun W hW => HI.out m7 W ((HKA.out m7 hlt7).later hW))
                  clear hc2
                  generalize kid m7 = k at *
                  go_wp2_with (go_at_call 30; ((with_reducible refine (C1.out _ ?_).mono ?_); (· (repeat first | with_reducible exact Below.refl _ _ | with_reducible refine Below.setCell ?_ (by first | omega | (simp; done) | (simp; omega)) _ | with_reducible refine Below.alloc ?_ (by first | omega | (simp; done) | (simp; omega)) _ | with_reducible refine Below.drew ?_ | with_reducible refine Ext.on _ ?_ (by first | omega | (simp; done) | (simp; omega)))); rintro r w2 hq; obtain ⟨be, rfl, z, rfl⟩ := hq))
                  go_roundw
                  case rel =>
                    refine ⟨m7 + 1, _, by omega, by go_num, rfl, Cls.of ?_⟩
                    repeat first | with_reducible exact Below.refl _ _ | with_reducible refine Below.setCell ?_ (by first | omega | (simp; done) | (simp; omega)) _ | with_reducible refine Below.alloc ?_ (by first | omega | (simp; done) | (simp; omega)) _ | with_reducible refine Below.drew ?_ | with_reducible refine Ext.on _ ?_ (by first | omega | (simp; done) | (simp; omega))
                  case measure => simp [intOf]; omega
                · go_wp2_with fail
                  go_ret
                  refine ⟨_, rfl, Cls.of ?_⟩
                  repeat first | with_reducible exact Below.refl _ _ | with_reducible refine Below.setCell ?_ (by first | omega | (simp; done) | (simp; omega)) _ | with_reducible refine Below.alloc ?_ (by first | omega | (simp; done) | (simp; omega)) _ | with_reducible refine Below.drew ?_ | with_reducible refine Ext.on _ ?_ (by first | omega | (simp; done) | (simp; omega))
theorem sizeQ_step (p : Qr) (ks : Sl) (kid : Nat → Qy) (ih : ∀ i, SizeQOf (kid i)) : SizeQOf (.mk p ks kid) := by
  by_cases g10 : p.op = 10
  · exact sizeQ_10 p ks kid ih g10
  by_cases g4 : p.op = 4
  · exact sizeQ_4 p ks kid ih g4
  by_cases g3 : p.op = 3
  · exact sizeQ_3 p ks kid ih g3
  by_cases g5 : p.op = 5
  · exact sizeQ_5 p ks kid ih g5
  exact sizeQ_no p ks kid ih ⟨g10, g4, g3, g5⟩
theorem sizeQ_calls : ∀ q : Qy, SizeQOf q := by
  intro q
  induction q with
  | nil => intro w h; cases h
  | mk p ks kid ih => exact sizeQ_step p ks kid ih
end Go.Proofs.Ytonnbmiallammaa
