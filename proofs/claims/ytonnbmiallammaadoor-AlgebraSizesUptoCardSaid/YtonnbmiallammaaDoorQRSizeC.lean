/-
  The reference's size of a query: selections.
-/
import Derived.Test.YtonnbmiallammaaDoorQRSize0
set_option linter.unusedVariables false
namespace Go.Proofs.YtonnbmiallammaaDoor
open Go Go.RowKit Go.Deep
set_option maxHeartbeats 8000000 in
set_option maxRecDepth 20000 in
theorem rsize_3 (p : Qr) (ks : Sl) (kid : Nat → Qy) (ih : ∀ i, RSizeQ (kid i)) (hop : p.op = 3) : RSizeQ (.mk p ks kid) := by
  intro w h hc
  have hp := h.part
  have hq := h.slice
  have hkid := h.kid
  simp only [Qy.p, Qy.ks, Qy.kid] at hp hq hkid
  have HZ : Hid (szQ (.mk p ks kid) = 1 + nodE p.cond + sumN (rwF p) p.rs.len + sumN (fun i => szQ (kid i)) ks.len) := Lib.hid (by show 1 + condN p + exprN p + aggN p + sumN (rwF p) p.rs.len + sumN (fun i => szQ (kid i)) ks.len = _; simp [condN, exprN, aggN, hop]; try omega)
  have hszc := szQ_le h
  have HT : Hid (1 + nodE p.cond + sumN (rwF p) p.rs.len + sumN (fun i => szQ (kid i)) ks.len ≤ 2 ^ 21) := Lib.hid (by rw [← HZ.out]; exact Nat.le_trans hszc hc)
  have hcc : 1 + cntP p + sumN (fun i => cntQ (kid i)) ks.len ≤ 2 ^ 21 := hc
  have HKC : Hid (∀ i, i < ks.len → cntQ (kid i) ≤ 2 ^ 21) := Lib.hid (fun i hi => Nat.le_trans (sumN_at (f := fun i => cntQ (kid i)) hi) (by omega))
  have C0 : Hid (∀ W, Below w.heap.size w W → Calls Tryd.prog 33 #[.agg #[.int .i64 p.cond.op, .int .i64 p.cond.ty, .int .i64 p.cond.num, .string p.cond.text, .int .i64 p.cond.col, .slice p.ck.a p.ck.len p.ck.cap]] W fun r w' => r = .returned (.int .i64 (nodE p.cond : Nat)) ∧ Cls W w') := Lib.hid (fun W hW => by rw [← sizeW_nod _ (by have := HT.out; omega)]; exact Size_calls p.cond p.ck.a p.ck.len p.ck.cap _ W (hp.condk.later hW))
  have hcn : nodE p.cond ≤ 2 ^ 21 := by have := HT.out; omega
  have HEX : Hid (Kids w (fun _ => True) p.es.a p.es.len p.es.cap p.exprs) := Lib.hid hp.exprs
  have HAG : Hid (SlAt w 7 p.gs fun i => (p.agg i).cells) := Lib.hid hp.aggs
  have HAA : Hid (∀ i, i < p.gs.len → AgAt w (p.agg i)) := Lib.hid hp.agg
  have HRW : Hid (SlAt w 1 p.rs fun i => [(p.row i).v]) := Lib.hid hp.rows
  have HRL : Hid (∀ i, i < p.rs.len → (p.row i).len ≤ maxLen) := Lib.hid (fun i hi => Nat.le_trans (hp.vals i hi).1 (hp.vals i hi).2.1)
  have HKD : Hid (SlAt w 15 ks fun i => (kid i).cells) := Lib.hid hq
  have HKA : Hid (∀ i, i < ks.len → QAt w (kid i)) := Lib.hid hkid
  have HI := Lib.hid ih
  have hen : p.es.len ≤ maxLen := Nat.le_trans HEX.out.le HEX.out.max
  have hgn : p.gs.len ≤ maxLen := Nat.le_trans HAG.out.1 HAG.out.2.1
  have hrn : p.rs.len ≤ maxLen := Nat.le_trans HRW.out.1 HRW.out.2.1
  have hkn : ks.len ≤ maxLen := Nat.le_trans HKD.out.1 HKD.out.2.1
  unfold maxLen at hen hgn hrn hkn
  have M6 : Hid (∀ m, m ≤ p.rs.len → sumN (rwF p) m ≤ sumN (rwF p) p.rs.len) := Lib.hid (fun m hm => sumN_mono hm)
  have Z6 : Hid (sumN (rwF p) 0 = 0) := Lib.hid rfl
  have S6 : Hid (∀ m, sumN (rwF p) (m + 1) = sumN (rwF p) m + (p.row m).len) := Lib.hid (fun _ => rfl)
  have M7 : Hid (∀ m, m ≤ ks.len → sumN (fun i => szQ (kid i)) m ≤ sumN (fun i => szQ (kid i)) ks.len) := Lib.hid (fun m hm => sumN_mono hm)
  have Z7 : Hid (sumN (fun i => szQ (kid i)) 0 = 0) := Lib.hid rfl
  have S7 : Hid (∀ m, sumN (fun i => szQ (kid i)) (m + 1) = sumN (fun i => szQ (kid i)) m + szQ (kid m)) := Lib.hid (fun _ => rfl)
  simp only [Qy.p, Qy.ks] at ⊢
  clear h hp hq hkid hc hszc hcc ih
  generalize szQ (.mk p ks kid) = stot at *
  generalize nodE p.cond = cn at *
  generalize hs6 : sumN (rwF p) = s6 at *
  clear hs6
  generalize hs7 : sumN (fun i => szQ (kid i)) = s7 at *
  clear hs7
  obtain ⟨op, table, kind, all, cond, ck, ⟨ea, en, ec⟩, exprs, ⟨ga, gn, gc⟩, agg, ⟨ta, tn, tc⟩, typ, ⟨ra, rn, rc⟩, row, val⟩ := p
  obtain ⟨ka, kn, kc⟩ := ks
  simp only at *
  subst hop
  go_enter Tryd.func26, Tryd.ntmps26
  go_wp2_with (go_at_call 33; ((with_reducible refine (C0.out _ ?_).mono ?_); (· (repeat first | with_reducible exact Below.refl _ _ | with_reducible refine Below.setCell ?_ (by first | omega | (simp; done) | (simp; omega)) _ | with_reducible refine Below.alloc ?_ (by first | omega | (simp; done) | (simp; omega)) _ | with_reducible refine Below.drew ?_ | with_reducible refine Ext.on _ ?_ (by first | omega | (simp; done) | (simp; omega)))); rintro r _ ⟨rfl, y0, rfl⟩))
  go_loopw [3, 4] (fun u i wr => ∃ (m x : Nat), m ≤ en ∧ i = .int .i64 m ∧ u = .int .i64 (x : Nat) ∧ x = 1 + cn ∧ Cls (w.alloc (.cells #[.int .i64 3, .string table, .int .i64 kind, .bool all, .int .i64 cond.op, .int .i64 cond.ty, .int .i64 cond.num, .string cond.text, .int .i64 cond.col, .slice ck.a ck.len ck.cap, .slice ea en ec, .slice ga gn gc, .slice ta tn tc, .slice ra rn rc, .slice ka kn kc] 63)) wr) (fun _ i _ => en - (intOf i).toNat)
  case atStart =>
    refine ⟨0, 1 + cn, Nat.zero_le _, rfl, by go_num, rfl, Cls.of ?_⟩
    repeat first | with_reducible exact Below.refl _ _ | with_reducible refine Below.setCell ?_ (by first | omega | (simp; done) | (simp; omega)) _ | with_reducible refine Below.alloc ?_ (by first | omega | (simp; done) | (simp; omega)) _ | with_reducible refine Below.drew ?_ | with_reducible refine Ext.on _ ?_ (by first | omega | (simp; done) | (simp; omega))
  case round =>
    obtain ⟨m4, x4, hm4, rfl, rfl, hx4, y4, rfl⟩ := hrel
    have HX4 := Lib.hid hx4
    have ys4 := y4.size
    simp at ys4

    have hxb4 : x4 ≤ 2 ^ 21 := by have := HT.out; have := HX4.out; omega
    clear hx4
    by_cases hlt4 : m4 < en
    all_goals
      go_wp2_with fail
      go_loopw [3, 5] (fun u i wr => ∃ (m x : Nat), m ≤ gn ∧ i = .int .i64 m ∧ u = .int .i64 (x : Nat) ∧ x = x4 ∧ Cls (w.alloc (.cells #[.int .i64 3, .string table, .int .i64 kind, .bool all, .int .i64 cond.op, .int .i64 cond.ty, .int .i64 cond.num, .string cond.text, .int .i64 cond.col, .slice ck.a ck.len ck.cap, .slice ea en ec, .slice ga gn gc, .slice ta tn tc, .slice ra rn rc, .slice ka kn kc] 63)) wr) (fun _ i _ => gn - (intOf i).toNat)
      case atStart =>
        refine ⟨0, x4, Nat.zero_le _, rfl, by go_num, rfl, Cls.of ?_⟩
        repeat first | with_reducible exact Below.refl _ _ | with_reducible refine Below.setCell ?_ (by first | omega | (simp; done) | (simp; omega)) _ | with_reducible refine Below.alloc ?_ (by first | omega | (simp; done) | (simp; omega)) _ | with_reducible refine Below.drew ?_ | with_reducible refine Ext.on _ ?_ (by first | omega | (simp; done) | (simp; omega))
      case round =>
        obtain ⟨m5, x5, hm5, rfl, rfl, hx5, y5, rfl⟩ := hrel
        have HX5 := Lib.hid hx5
        have ys5 := y5.size
        simp at ys5

        have hxb5 : x5 ≤ 2 ^ 21 := by have := HT.out; have := HX4.out; have := HX5.out; omega
        clear hx5
        by_cases hlt5 : m5 < gn
        all_goals
          go_wp2_with fail
          go_loopw [3, 6] (fun u i wr => ∃ (m x : Nat), m ≤ rn ∧ i = .int .i64 m ∧ u = .int .i64 (x : Nat) ∧ x = x5 + s6 m ∧ Cls (w.alloc (.cells #[.int .i64 3, .string table, .int .i64 kind, .bool all, .int .i64 cond.op, .int .i64 cond.ty, .int .i64 cond.num, .string cond.text, .int .i64 cond.col, .slice ck.a ck.len ck.cap, .slice ea en ec, .slice ga gn gc, .slice ta tn tc, .slice ra rn rc, .slice ka kn kc] 63)) wr) (fun _ i _ => rn - (intOf i).toNat)
          case atStart =>
            refine ⟨0, x5, Nat.zero_le _, rfl, by go_num, by have := Z6.out; omega, Cls.of ?_⟩
            repeat first | with_reducible exact Below.refl _ _ | with_reducible refine Below.setCell ?_ (by first | omega | (simp; done) | (simp; omega)) _ | with_reducible refine Below.alloc ?_ (by first | omega | (simp; done) | (simp; omega)) _ | with_reducible refine Below.drew ?_ | with_reducible refine Ext.on _ ?_ (by first | omega | (simp; done) | (simp; omega))
          case round =>
            obtain ⟨m6, x6, hm6, rfl, rfl, hx6, y6, rfl⟩ := hrel
            have HX6 := Lib.hid hx6
            have ys6 := y6.size
            simp at ys6
            have hsm6 := M6.out m6 hm6
            have hxb6 : x6 ≤ 2 ^ 21 := by have := HT.out; have := HX4.out; have := HX5.out; have := HX6.out; omega
            clear hx6
            by_cases hlt6 : m6 < rn
            · obtain ⟨b2, off2, ha2, hb2', hc2⟩ := HRW.out.2.2.2 m6 hlt6
              simp only at ha2
              subst ha2
              have hb3 : b2 < w.heap.size + 1 := by omega
              have p0 := hc2 0 (by omega)
              have hl2 := HRL.out m6 hlt6
              unfold maxLen at hl2
              simp only [Sl.v, List.getElem?_cons_zero, Nat.add_zero, Nat.mul_one] at p0
              clear hc2
              have HS1 := Lib.hid (S6.out m6)
              have hsn6 := M6.out (m6 + 1) hlt6
              rw [HS1.out] at hsn6
              have hbe : (row m6).len ≤ 2 ^ 21 := by have := HT.out; omega
              generalize row m6 = u at *
              go_wp2_with fail
              go_roundw
              case rel =>
                refine ⟨m6 + 1, x6 + u.len, by omega, by go_num, by go_num, by rw [HS1.out]; have := HX6.out; omega, Cls.of ?_⟩
                repeat first | with_reducible exact Below.refl _ _ | with_reducible refine Below.setCell ?_ (by first | omega | (simp; done) | (simp; omega)) _ | with_reducible refine Below.alloc ?_ (by first | omega | (simp; done) | (simp; omega)) _ | with_reducible refine Below.drew ?_ | with_reducible refine Ext.on _ ?_ (by first | omega | (simp; done) | (simp; omega))
              case measure => simp [intOf]; omega
            · obtain rfl : rn = m6 := by omega
              go_wp2_with fail
              go_loopw [3, 7] (fun u i wr => ∃ (m x : Nat), m ≤ kn ∧ i = .int .i64 m ∧ u = .int .i64 (x : Nat) ∧ x = x6 + s7 m ∧ Cls (w.alloc (.cells #[.int .i64 3, .string table, .int .i64 kind, .bool all, .int .i64 cond.op, .int .i64 cond.ty, .int .i64 cond.num, .string cond.text, .int .i64 cond.col, .slice ck.a ck.len ck.cap, .slice ea en ec, .slice ga gn gc, .slice ta tn tc, .slice ra rn rc, .slice ka kn kc] 63)) wr) (fun _ i _ => kn - (intOf i).toNat)
              case atStart =>
                refine ⟨0, x6, Nat.zero_le _, rfl, by go_num, by have := Z7.out; omega, Cls.of ?_⟩
                repeat first | with_reducible exact Below.refl _ _ | with_reducible refine Below.setCell ?_ (by first | omega | (simp; done) | (simp; omega)) _ | with_reducible refine Below.alloc ?_ (by first | omega | (simp; done) | (simp; omega)) _ | with_reducible refine Below.drew ?_ | with_reducible refine Ext.on _ ?_ (by first | omega | (simp; done) | (simp; omega))
              case round =>
                obtain ⟨m7, x7, hm7, rfl, rfl, hx7, y7, rfl⟩ := hrel
                have HX7 := Lib.hid hx7
                have ys7 := y7.size
                simp at ys7
                have hsm7 := M7.out m7 hm7
                have hxb7 : x7 ≤ 2 ^ 21 := by have := HT.out; have := HX4.out; have := HX5.out; have := HX6.out; have := HX7.out; omega
                clear hx7
                by_cases hlt7 : m7 < kn
                · obtain ⟨b2, off2, ha2, hb2', hc2⟩ := HKD.out.2.2.2 m7 hlt7
                  simp only at ha2
                  subst ha2
                  have hb3 : b2 < w.heap.size + 1 := by omega
                  have p0 := hc2 0 (by omega)
                  have p1 := hc2 1 (by omega)
                  have p2 := hc2 2 (by omega)
                  have p3 := hc2 3 (by omega)
                  have p4 := hc2 4 (by omega)
                  have p5 := hc2 5 (by omega)
                  have p6 := hc2 6 (by omega)
                  have p7 := hc2 7 (by omega)
                  have p8 := hc2 8 (by omega)
                  have p9 := hc2 9 (by omega)
                  have p10 := hc2 10 (by omega)
                  have p11 := hc2 11 (by omega)
                  have p12 := hc2 12 (by omega)
                  have p13 := hc2 13 (by omega)
                  have p14 := hc2 14 (by omega)
                  simp only [Qy.cells, Sl.v, List.getElem?_cons_zero, List.getElem?_cons_succ, Nat.add_zero] at p0 p1 p2 p3 p4 p5 p6 p7 p8 p9 p10 p11 p12 p13 p14
                  have HS1 := Lib.hid (S7.out m7)
                  have hsn7 := M7.out (m7 + 1) hlt7
                  rw [HS1.out] at hsn7
                  have hbe : szQ (kid m7) ≤ 2 ^ 21 := by have := HT.out; omega
                  have C1 : Hid (∀ W, Below w.heap.size w W → Calls Tryd.prog 26 #[.agg #[.int .i64 (kid m7).p.op, .string (kid m7).p.table, .int .i64 (kid m7).p.kind, .bool (kid m7).p.all, .int .i64 (kid m7).p.cond.op, .int .i64 (kid m7).p.cond.ty, .int .i64 (kid m7).p.cond.num, .string (kid m7).p.cond.text, .int .i64 (kid m7).p.cond.col, .slice (kid m7).p.ck.a (kid m7).p.ck.len (kid m7).p.ck.cap, .slice (kid m7).p.es.a (kid m7).p.es.len (kid m7).p.es.cap, .slice (kid m7).p.gs.a (kid m7).p.gs.len (kid m7).p.gs.cap, .slice (kid m7).p.ts.a (kid m7).p.ts.len (kid m7).p.ts.cap, .slice (kid m7).p.rs.a (kid m7).p.rs.len (kid m7).p.rs.cap, .slice (kid m7).ks.a (kid m7).ks.len (kid m7).ks.cap]] W fun r w' => r = .returned (.int .i64 (szQ (kid m7) : Nat)) ∧ Cls W w') := Lib.hid (fun W hW => HI.out m7 W ((HKA.out m7 hlt7).later hW) (HKC.out m7 hlt7))
                  clear hc2
                  generalize szQ (kid m7) = be at *
                  generalize kid m7 = k at *
                  go_wp2_with (go_at_call 26; ((with_reducible refine (C1.out _ ?_).mono ?_); (· (repeat first | with_reducible exact Below.refl _ _ | with_reducible refine Below.setCell ?_ (by first | omega | (simp; done) | (simp; omega)) _ | with_reducible refine Below.alloc ?_ (by first | omega | (simp; done) | (simp; omega)) _ | with_reducible refine Below.drew ?_ | with_reducible refine Ext.on _ ?_ (by first | omega | (simp; done) | (simp; omega)))); rintro r _ ⟨rfl, z, rfl⟩))
                  go_roundw
                  case rel =>
                    refine ⟨m7 + 1, x7 + be, by omega, by go_num, by go_num, by rw [HS1.out]; have := HX7.out; omega, Cls.of ?_⟩
                    repeat first | with_reducible exact Below.refl _ _ | with_reducible refine Below.setCell ?_ (by first | omega | (simp; done) | (simp; omega)) _ | with_reducible refine Below.alloc ?_ (by first | omega | (simp; done) | (simp; omega)) _ | with_reducible refine Below.drew ?_ | with_reducible refine Ext.on _ ?_ (by first | omega | (simp; done) | (simp; omega))
                  case measure => simp [intOf]; omega
                · obtain rfl : kn = m7 := by omega
                  go_wp2_with fail
                  go_ret
                  refine ⟨ret_int (by rw [HZ.out]; have := HX4.out; have := HX5.out; have := HX6.out; have := HX7.out; omega), Cls.of ?_⟩
                  repeat first | with_reducible exact Below.refl _ _ | with_reducible refine Below.setCell ?_ (by first | omega | (simp; done) | (simp; omega)) _ | with_reducible refine Below.alloc ?_ (by first | omega | (simp; done) | (simp; omega)) _ | with_reducible refine Below.drew ?_ | with_reducible refine Ext.on _ ?_ (by first | omega | (simp; done) | (simp; omega))
end Go.Proofs.YtonnbmiallammaaDoor
