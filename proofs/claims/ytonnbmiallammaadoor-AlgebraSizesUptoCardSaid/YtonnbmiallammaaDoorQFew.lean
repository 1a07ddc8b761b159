/-
  Which queries the laws look at: that the two functions give an answer, whichever.
-/
import Derived.Test.YtonnbmiallammaaDoorQuery
import Derived.Test.YtonnbmiallammaaDoorFew
set_option linter.unusedVariables false
namespace Go.Proofs.YtonnbmiallammaaDoor
open Go Go.RowKit Go.Deep
/-- Some answer. -/
def SomeB (w : World) (r : Ending) (w' : World) : Prop := ∃ b : Bool, r = .returned (.bool b) ∧ Cls w w'
def FewQOf (q : Qy) : Prop := ∀ (d : Nat) (w : World), QAt w q → d ≤ 41 → Calls Tryd.prog 61 #[.agg #[.int .i64 q.p.op, .string q.p.table, .int .i64 q.p.kind, .bool q.p.all, .int .i64 q.p.cond.op, .int .i64 q.p.cond.ty, .int .i64 q.p.cond.num, .string q.p.cond.text, .int .i64 q.p.cond.col, .slice q.p.ck.a q.p.ck.len q.p.ck.cap, .slice q.p.es.a q.p.es.len q.p.es.cap, .slice q.p.gs.a q.p.gs.len q.p.gs.cap, .slice q.p.ts.a q.p.ts.len q.p.ts.cap, .slice q.p.rs.a q.p.rs.len q.p.rs.cap, .slice q.ks.a q.ks.len q.ks.cap], .int .i64 (d : Nat)] w fun r w' => SomeB w r w'
set_option maxHeartbeats 8000000 in
set_option maxRecDepth 20000 in
theorem fewQ_step (p : Qr) (ks : Sl) (kid : Nat → Qy) (ih : ∀ i, FewQOf (kid i)) : FewQOf (.mk p ks kid) := by
  intro d w h hd
  have hp := h.part
  have hq := h.slice
  have hkid := h.kid
  simp only [Qy.p, Qy.ks, Qy.kid] at hp hq hkid ⊢
  clear h
  obtain ⟨op, table, kind, all, cond, ck, ⟨ea, en, ec⟩, exprs, ⟨ga, gn, gc⟩, agg, ⟨ta, tn, tc⟩, typ, ⟨ra, rn, rc⟩, row, val⟩ := p
  obtain ⟨ka, kn, kc⟩ := ks
  have HEX : Hid (Kids w (fun _ => True) ea en ec exprs) := Lib.hid hp.exprs
  have HAG : Hid (SlAt w 7 ⟨ga, gn, gc⟩ fun i => (agg i).cells) := Lib.hid hp.aggs
  have HAA : Hid (∀ i, i < gn → AgAt w (agg i)) := Lib.hid hp.agg
  have HRW : Hid (SlAt w 1 ⟨ra, rn, rc⟩ fun i => [(row i).v]) := Lib.hid hp.rows
  have HRL : Hid (∀ i, i < rn → (row i).len ≤ maxLen) := Lib.hid (fun i hi => Nat.le_trans (hp.vals i hi).1 (hp.vals i hi).2.1)
  have HKD : Hid (SlAt w 15 ⟨ka, kn, kc⟩ fun i => (kid i).cells) := Lib.hid hq
  have HKA : Hid (∀ i, i < kn → QAt w (kid i)) := Lib.hid hkid
  have HI := Lib.hid ih
  have hen : en ≤ maxLen := Nat.le_trans HEX.out.le HEX.out.max
  have hgn : gn ≤ maxLen := Nat.le_trans HAG.out.1 HAG.out.2.1
  have htn : tn ≤ maxLen := Nat.le_trans hp.types.1 hp.types.2.1
  have hrn : rn ≤ maxLen := Nat.le_trans HRW.out.1 HRW.out.2.1
  have hkn : kn ≤ maxLen := Nat.le_trans HKD.out.1 HKD.out.2.1
  unfold maxLen at hen hgn htn hrn hkn
  have C0 : Hid (∀ W, Below w.heap.size w W → Calls Tryd.prog 9 #[.agg #[.int .i64 cond.op, .int .i64 cond.ty, .int .i64 cond.num, .string cond.text, .int .i64 cond.col, .slice ck.a ck.len ck.cap]] W fun r w' => r = .returned (.bool (bigB cond)) ∧ Cls W w') := Lib.hid (fun W hW => Few_calls cond ck.a ck.len ck.cap _ W (hp.condk.later hW) hp.condf.2.2.2.1)
  clear hp hq hkid ih
  generalize bigB cond = bc at C0
  by_cases h40 : 40 < d
  · have d1 : decide (40 < (d : Int)) = true := by simp; omega
    go_enter Tryd.func61, Tryd.ntmps61
    go_wp2_with fail
    all_goals
      go_ret
      refine ⟨false, rfl, Cls.of ?_⟩
      repeat first | with_reducible exact Below.refl _ _ | with_reducible refine Below.setCell ?_ (by first | omega | (simp; done) | (simp; omega)) _ | with_reducible refine Below.alloc ?_ (by first | omega | (simp; done) | (simp; omega)) _ | with_reducible refine Below.drew ?_ | with_reducible refine Ext.on _ ?_ (by first | omega | (simp; done) | (simp; omega))
  have d1 : decide (40 < (d : Int)) = false := by simp; omega
  cases bc
  · go_enter Tryd.func61, Tryd.ntmps61
    go_wp2_with (go_at_call 9; ((with_reducible refine (C0.out _ ?_).mono ?_); (· (repeat first | with_reducible exact Below.refl _ _ | with_reducible refine Below.setCell ?_ (by first | omega | (simp; done) | (simp; omega)) _ | with_reducible refine Below.alloc ?_ (by first | omega | (simp; done) | (simp; omega)) _ | with_reducible refine Below.drew ?_ | with_reducible refine Ext.on _ ?_ (by first | omega | (simp; done) | (simp; omega)))); rintro r _ ⟨rfl, y0, rfl⟩))
    all_goals
      go_ret
      refine ⟨false, rfl, Cls.of ?_⟩
      repeat first | with_reducible exact Below.refl _ _ | with_reducible refine Below.setCell ?_ (by first | omega | (simp; done) | (simp; omega)) _ | with_reducible refine Below.alloc ?_ (by first | omega | (simp; done) | (simp; omega)) _ | with_reducible refine Below.drew ?_ | with_reducible refine Ext.on _ ?_ (by first | omega | (simp; done) | (simp; omega))
  go_enter Tryd.func61, Tryd.ntmps61
  go_wp2_with (go_at_call 9; ((with_reducible refine (C0.out _ ?_).mono ?_); (· (repeat first | with_reducible exact Below.refl _ _ | with_reducible refine Below.setCell ?_ (by first | omega | (simp; done) | (simp; omega)) _ | with_reducible refine Below.alloc ?_ (by first | omega | (simp; done) | (simp; omega)) _ | with_reducible refine Below.drew ?_ | with_reducible refine Ext.on _ ?_ (by first | omega | (simp; done) | (simp; omega)))); rintro r _ ⟨rfl, y0, rfl⟩))
  all_goals first
    | (go_ret
       refine ⟨false, rfl, Cls.of ?_⟩
       repeat first | with_reducible exact Below.refl _ _ | with_reducible refine Below.setCell ?_ (by first | omega | (simp; done) | (simp; omega)) _ | with_reducible refine Below.alloc ?_ (by first | omega | (simp; done) | (simp; omega)) _ | with_reducible refine Below.drew ?_ | with_reducible refine Ext.on _ ?_ (by first | omega | (simp; done) | (simp; omega)))
    | skip
  go_loopw [5] (fun i wr => ∃ m : Nat, m ≤ en ∧ i = .int .i64 m ∧ Cls (w.alloc (.cells #[.int .i64 op, .string table, .int .i64 kind, .bool all, .int .i64 cond.op, .int .i64 cond.ty, .int .i64 cond.num, .string cond.text, .int .i64 cond.col, .slice ck.a ck.len ck.cap, .slice ea en ec, .slice ga gn gc, .slice ta tn tc, .slice ra rn rc, .slice ka kn kc] 63)) wr) (fun i _ => en - (intOf i).toNat)
  case atStart =>
    refine ⟨0, Nat.zero_le _, rfl, Cls.of ?_⟩
    repeat first | with_reducible exact Below.refl _ _ | with_reducible refine Below.setCell ?_ (by first | omega | (simp; done) | (simp; omega)) _ | with_reducible refine Below.alloc ?_ (by first | omega | (simp; done) | (simp; omega)) _ | with_reducible refine Below.drew ?_ | with_reducible refine Ext.on _ ?_ (by first | omega | (simp; done) | (simp; omega))
  case round =>
    obtain ⟨m5, hm5, rfl, y5, rfl⟩ := hrel
    have ys5 := y5.size
    simp at ys5
    by_cases hlt5 : m5 < en
    · obtain ⟨a', len', cap', ⟨b2, off2, rfl, hb2', hok, p0, p1, p2, p3, p4, p5⟩, hfine, hk'⟩ := HEX.out.at_ (i := m5) hlt5
      have hb3 : b2 < w.heap.size + 1 := by omega
      have C1 : Hid (∀ W, Below w.heap.size w W → Calls Tryd.prog 9 #[.agg #[.int .i64 (exprs.getD m5 Ex.z).op, .int .i64 (exprs.getD m5 Ex.z).ty, .int .i64 (exprs.getD m5 Ex.z).num, .string (exprs.getD m5 Ex.z).text, .int .i64 (exprs.getD m5 Ex.z).col, .slice a' len' cap']] W fun r w' => r = .returned (.bool (bigB (exprs.getD m5 Ex.z))) ∧ Cls W w') := Lib.hid (fun W hW => Few_calls _ a' len' cap' _ W (hk'.later hW) hfine.2.2.2.1)
      clear hk' hfine hok
      generalize bigB (exprs.getD m5 Ex.z) = be at C1
      generalize exprs.getD m5 Ex.z = e at *
      cases be
      all_goals
        go_wp2_with (go_at_call 9; ((with_reducible refine (C1.out _ ?_).mono ?_); (· (repeat first | with_reducible exact Below.refl _ _ | with_reducible refine Below.setCell ?_ (by first | omega | (simp; done) | (simp; omega)) _ | with_reducible refine Below.alloc ?_ (by first | omega | (simp; done) | (simp; omega)) _ | with_reducible refine Below.drew ?_ | with_reducible refine Ext.on _ ?_ (by first | omega | (simp; done) | (simp; omega)))); rintro r _ ⟨rfl, z, rfl⟩))
      · go_ret
        refine ⟨false, rfl, Cls.of ?_⟩
        repeat first | with_reducible exact Below.refl _ _ | with_reducible refine Below.setCell ?_ (by first | omega | (simp; done) | (simp; omega)) _ | with_reducible refine Below.alloc ?_ (by first | omega | (simp; done) | (simp; omega)) _ | with_reducible refine Below.drew ?_ | with_reducible refine Ext.on _ ?_ (by first | omega | (simp; done) | (simp; omega))
      · go_roundw
        case rel =>
          refine ⟨m5 + 1, by omega, by go_num, Cls.of ?_⟩
          repeat first | with_reducible exact Below.refl _ _ | with_reducible refine Below.setCell ?_ (by first | omega | (simp; done) | (simp; omega)) _ | with_reducible refine Below.alloc ?_ (by first | omega | (simp; done) | (simp; omega)) _ | with_reducible refine Below.drew ?_ | with_reducible refine Ext.on _ ?_ (by first | omega | (simp; done) | (simp; omega))
        case measure => simp [intOf]; omega
    · go_wp2_with fail
      go_loopw [6] (fun i wr => ∃ m : Nat, m ≤ gn ∧ i = .int .i64 m ∧ Cls (w.alloc (.cells #[.int .i64 op, .string table, .int .i64 kind, .bool all, .int .i64 cond.op, .int .i64 cond.ty, .int .i64 cond.num, .string cond.text, .int .i64 cond.col, .slice ck.a ck.len ck.cap, .slice ea en ec, .slice ga gn gc, .slice ta tn tc, .slice ra rn rc, .slice ka kn kc] 63)) wr) (fun i _ => gn - (intOf i).toNat)
      case atStart =>
        refine ⟨0, Nat.zero_le _, rfl, Cls.of ?_⟩
        repeat first | with_reducible exact Below.refl _ _ | with_reducible refine Below.setCell ?_ (by first | omega | (simp; done) | (simp; omega)) _ | with_reducible refine Below.alloc ?_ (by first | omega | (simp; done) | (simp; omega)) _ | with_reducible refine Below.drew ?_ | with_reducible refine Ext.on _ ?_ (by first | omega | (simp; done) | (simp; omega))
      case round =>
        obtain ⟨m6, hm6, rfl, y6, rfl⟩ := hrel
        have ys6 := y6.size
        simp at ys6
        by_cases hlt6 : m6 < gn
        · obtain ⟨b2, off2, ha2, hb2', hc2⟩ := HAG.out.2.2.2 m6 hlt6
          simp only at ha2
          subst ha2
          have hb3 : b2 < w.heap.size + 1 := by omega
          have p0 := hc2 0 (by omega)
          have p1 := hc2 1 (by omega)
          have p2 := hc2 2 (by omega)
          have p3 := hc2 3 (by omega)
          have p4 := hc2 4 (by omega)
          have p5 := hc2 5 (by omega)
          have p6 := hc2 6 (by omega)
          simp only [Ag.cells, Sl.v, List.getElem?_cons_zero, List.getElem?_cons_succ, Nat.add_zero] at p0 p1 p2 p3 p4 p5 p6
          have C1 : Hid (∀ W, Below w.heap.size w W → Calls Tryd.prog 9 #[.agg #[.int .i64 (agg m6).arg.op, .int .i64 (agg m6).arg.ty, .int .i64 (agg m6).arg.num, .string (agg m6).arg.text, .int .i64 (agg m6).arg.col, .slice (agg m6).ka.a (agg m6).ka.len (agg m6).ka.cap]] W fun r w' => r = .returned (.bool (bigB (agg m6).arg)) ∧ Cls W w') := Lib.hid (fun W hW => Few_calls _ _ _ _ _ W ((HAA.out m6 hlt6).2.later hW) (HAA.out m6 hlt6).1.2.2.2.1)
          clear hc2
          generalize bigB (agg m6).arg = be at C1
          generalize agg m6 = g at *
          have e1 : ∀ o : Nat, off2 + m6 * 7 + 1 + o = off2 + m6 * 7 + (1 + o) := fun o => by omega
          cases be
          all_goals
            go_wp2_with (go_at_call 9; ((with_reducible refine (C1.out _ ?_).mono ?_); (· (repeat first | with_reducible exact Below.refl _ _ | with_reducible refine Below.setCell ?_ (by first | omega | (simp; done) | (simp; omega)) _ | with_reducible refine Below.alloc ?_ (by first | omega | (simp; done) | (simp; omega)) _ | with_reducible refine Below.drew ?_ | with_reducible refine Ext.on _ ?_ (by first | omega | (simp; done) | (simp; omega)))); rintro r _ ⟨rfl, z, rfl⟩))
          · go_ret
            refine ⟨false, rfl, Cls.of ?_⟩
            repeat first | with_reducible exact Below.refl _ _ | with_reducible refine Below.setCell ?_ (by first | omega | (simp; done) | (simp; omega)) _ | with_reducible refine Below.alloc ?_ (by first | omega | (simp; done) | (simp; omega)) _ | with_reducible refine Below.drew ?_ | with_reducible refine Ext.on _ ?_ (by first | omega | (simp; done) | (simp; omega))
          · go_roundw
            case rel =>
              refine ⟨m6 + 1, by omega, by go_num, Cls.of ?_⟩
              repeat first | with_reducible exact Below.refl _ _ | with_reducible refine Below.setCell ?_ (by first | omega | (simp; done) | (simp; omega)) _ | with_reducible refine Below.alloc ?_ (by first | omega | (simp; done) | (simp; omega)) _ | with_reducible refine Below.drew ?_ | with_reducible refine Ext.on _ ?_ (by first | omega | (simp; done) | (simp; omega))
            case measure => simp [intOf]; omega
        · go_wp2_with fail
          go_loopw [7] (fun i wr => ∃ m : Nat, m ≤ rn ∧ i = .int .i64 m ∧ Cls (w.alloc (.cells #[.int .i64 op, .string table, .int .i64 kind, .bool all, .int .i64 cond.op, .int .i64 cond.ty, .int .i64 cond.num, .string cond.text, .int .i64 cond.col, .slice ck.a ck.len ck.cap, .slice ea en ec, .slice ga gn gc, .slice ta tn tc, .slice ra rn rc, .slice ka kn kc] 63)) wr) (fun i _ => rn - (intOf i).toNat)
          case atStart =>
            refine ⟨0, Nat.zero_le _, rfl, Cls.of ?_⟩
            repeat first | with_reducible exact Below.refl _ _ | with_reducible refine Below.setCell ?_ (by first | omega | (simp; done) | (simp; omega)) _ | with_reducible refine Below.alloc ?_ (by first | omega | (simp; done) | (simp; omega)) _ | with_reducible refine Below.drew ?_ | with_reducible refine Ext.on _ ?_ (by first | omega | (simp; done) | (simp; omega))
          case round =>
            obtain ⟨m7, hm7, rfl, y7, rfl⟩ := hrel
            have ys7 := y7.size
            simp at ys7
            by_cases hlt7 : m7 < rn
            · obtain ⟨b2, off2, ha2, hb2', hc2⟩ := HRW.out.2.2.2 m7 hlt7
              simp only at ha2
              subst ha2
              have hb3 : b2 < w.heap.size + 1 := by omega
              have p0 := hc2 0 (by omega)
              have hl2 := HRL.out m7 hlt7
              unfold maxLen at hl2
              simp only [Sl.v, List.getElem?_cons_zero, Nat.add_zero, Nat.mul_one] at p0
              clear hc2
              generalize row m7 = u at p0 hl2
              go_wp2_with fail
              all_goals first
                | (go_ret
                   refine ⟨false, rfl, Cls.of ?_⟩
                   repeat first | with_reducible exact Below.refl _ _ | with_reducible refine Below.setCell ?_ (by first | omega | (simp; done) | (simp; omega)) _ | with_reducible refine Below.alloc ?_ (by first | omega | (simp; done) | (simp; omega)) _ | with_reducible refine Below.drew ?_ | with_reducible refine Ext.on _ ?_ (by first | omega | (simp; done) | (simp; omega)))
                | (go_roundw
                   case rel =>
                     refine ⟨m7 + 1, by omega, by go_num, Cls.of ?_⟩
                     repeat first | with_reducible exact Below.refl _ _ | with_reducible refine Below.setCell ?_ (by first | omega | (simp; done) | (simp; omega)) _ | with_reducible refine Below.alloc ?_ (by first | omega | (simp; done) | (simp; omega)) _ | with_reducible refine Below.drew ?_ | with_reducible refine Ext.on _ ?_ (by first | omega | (simp; done) | (simp; omega))
                   case measure => simp [intOf]; omega)
            · go_wp2_with fail
              go_loopw [8] (fun i wr => ∃ m : Nat, m ≤ kn ∧ i = .int .i64 m ∧ Cls (w.alloc (.cells #[.int .i64 op, .string table, .int .i64 kind, .bool all, .int .i64 cond.op, .int .i64 cond.ty, .int .i64 cond.num, .string cond.text, .int .i64 cond.col, .slice ck.a ck.len ck.cap, .slice ea en ec, .slice ga gn gc, .slice ta tn tc, .slice ra rn rc, .slice ka kn kc] 63)) wr) (fun i _ => kn - (intOf i).toNat)
              case atStart =>
                refine ⟨0, Nat.zero_le _, rfl, Cls.of ?_⟩
                repeat first | with_reducible exact Below.refl _ _ | with_reducible refine Below.setCell ?_ (by first | omega | (simp; done) | (simp; omega)) _ | with_reducible refine Below.alloc ?_ (by first | omega | (simp; done) | (simp; omega)) _ | with_reducible refine Below.drew ?_ | with_reducible refine Ext.on _ ?_ (by first | omega | (simp; done) | (simp; omega))
              case round =>
                obtain ⟨m8, hm8, rfl, y8, rfl⟩ := hrel
                have ys8 := y8.size
                simp at ys8
                by_cases hlt8 : m8 < kn
                · obtain ⟨b2, off2, ha2, hb2', hc2⟩ := HKD.out.2.2.2 m8 hlt8
                  simp only at ha2
                  subst ha2
                  have hb3 : b2 < w.heap.size + 1 := by omega
                  have p0 := hc2 0 (by omega)
                  have p1 := hc2 1 (by omega)
                  have p2 := hc2 2 (by omega)
                  have p3 := hc2 3 (by omega)
                  have p4 := hc2 4 (by omega)
                  have p5 := hc2 5 (by omega)
                  have p6 := hc2 6 (by omega)
                  have p7 := hc2 7 (by omega)
                  have p8 := hc2 8 (by omega)
                  have p9 := hc2 9 (by omega)
                  have p10 := hc2 10 (by omega)
                  have p11 := hc2 11 (by omega)
                  have p12 := hc2 12 (by omega)
                  have p13 := hc2 13 (by omega)
                  have p14 := hc2 14 (by omega)
                  simp only [Qy.cells, Sl.v, List.getElem?_cons_zero, List.getElem?_cons_succ, Nat.add_zero] at p0 p1 p2 p3 p4 p5 p6 p7 p8 p9 p10 p11 p12 p13 p14
                  have C1 : Hid (∀ W, Below w.heap.size w W → Calls Tryd.prog 61 #[.agg #[.int .i64 (kid m8).p.op, .string (kid m8).p.table, .int .i64 (kid m8).p.kind, .bool (kid m8).p.all, .int .i64 (kid m8).p.cond.op, .int .i64 (kid m8).p.cond.ty, .int .i64 (kid m8).p.cond.num, .string (kid m8).p.cond.text, .int .i64 (kid m8).p.cond.col, .slice (kid m8).p.ck.a (kid m8).p.ck.len (kid m8).p.ck.cap, .slice (kid m8).p.es.a (kid m8).p.es.len (kid m8).p.es.cap, .slice (kid m8).p.gs.a (kid m8).p.gs.len (kid m8).p.gs.cap, .slice (kid m8).p.ts.a (kid m8).p.ts.len (kid m8).p.ts.cap, .slice (kid m8).p.rs.a (kid m8).p.rs.len (kid m8).p.rs.cap, .slice (kid m8).ks.a (kid m8).ks.len (kid m8).ks.cap], .int .i64 ((d : Int) + 1)] W fun r w' => SomeB W r w') := Lib.hid (fun W hW => HI.out m8 (d + 1) W ((HKA.out m8 hlt8).later hW) (by omega))
                  clear hc2
                  generalize kid m8 = k at *
                  go_wp2_with (go_at_call 61; ((with_reducible refine (C1.out _ ?_).mono ?_); (· (repeat first | with_reducible exact Below.refl _ _ | with_reducible refine Below.setCell ?_ (by first | omega | (simp; done) | (simp; omega)) _ | with_reducible refine Below.alloc ?_ (by first | omega | (simp; done) | (simp; omega)) _ | with_reducible refine Below.drew ?_ | with_reducible refine Ext.on _ ?_ (by first | omega | (simp; done) | (simp; omega)))); rintro r w2 hq; obtain ⟨be, rfl, z, rfl⟩ := hq; cases be))
                  · go_ret
                    refine ⟨false, rfl, Cls.of ?_⟩
                    repeat first | with_reducible exact Below.refl _ _ | with_reducible refine Below.setCell ?_ (by first | omega | (simp; done) | (simp; omega)) _ | with_reducible refine Below.alloc ?_ (by first | omega | (simp; done) | (simp; omega)) _ | with_reducible refine Below.drew ?_ | with_reducible refine Ext.on _ ?_ (by first | omega | (simp; done) | (simp; omega))
                  · go_roundw
                    case rel =>
                      refine ⟨m8 + 1, by omega, by go_num, Cls.of ?_⟩
                      repeat first | with_reducible exact Below.refl _ _ | with_reducible refine Below.setCell ?_ (by first | omega | (simp; done) | (simp; omega)) _ | with_reducible refine Below.alloc ?_ (by first | omega | (simp; done) | (simp; omega)) _ | with_reducible refine Below.drew ?_ | with_reducible refine Ext.on _ ?_ (by first | omega | (simp; done) | (simp; omega))
                    case measure => simp [intOf]; omega
                · go_wp2_with fail
                  go_ret
                  refine ⟨true, rfl, Cls.of ?_⟩
                  repeat first | with_reducible exact Below.refl _ _ | with_reducible refine Below.setCell ?_ (by first | omega | (simp; done) | (simp; omega)) _ | with_reducible refine Below.alloc ?_ (by first | omega | (simp; done) | (simp; omega)) _ | with_reducible refine Below.drew ?_ | with_reducible refine Ext.on _ ?_ (by first | omega | (simp; done) | (simp; omega))
theorem fewQ_calls : ∀ q : Qy, FewQOf q := by
  intro q
  induction q with
  | nil => intro d w h; cases h
  | mk p ks kid ih => exact fewQ_step p ks kid ih
end Go.Proofs.YtonnbmiallammaaDoor
