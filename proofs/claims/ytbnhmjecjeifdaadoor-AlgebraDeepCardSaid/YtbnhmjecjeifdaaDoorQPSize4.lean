/-
  The program's size of a query.
-/
import Derived.Test.YtbnhmjecjeifdaaDoorQPSize3
set_option linter.unusedVariables false
namespace Go.Proofs.YtbnhmjecjeifdaaDoor
open Go Go.RowKit Go.Deep
def UpToQ (q : Qy) : Prop := ∀ (lim : Nat) (w : World), QAt w q → OpT w → szQ q ≤ lim → lim ≤ 9223372036854775807 → cntQ q ≤ 2 ^ 21 →
    Calls Tryd.prog 58 #[.int .i64 (lim : Nat), .agg #[.int .i64 q.p.op, .string q.p.table, .int .i64 q.p.kind, .bool q.p.all, .int .i64 q.p.cond.op, .int .i64 q.p.cond.ty, .int .i64 q.p.cond.num, .string q.p.cond.text, .int .i64 q.p.cond.col, .slice q.p.ck.a q.p.ck.len q.p.ck.cap, .slice q.p.es.a q.p.es.len q.p.es.cap, .slice q.p.gs.a q.p.gs.len q.p.gs.cap, .slice q.p.ts.a q.p.ts.len q.p.ts.cap, .slice q.p.rs.a q.p.rs.len q.p.rs.cap, .slice q.ks.a q.ks.len q.ks.cap]] w fun r w' => r = .returned (.int .i64 (szQ q : Nat)) ∧ Cls w w'
set_option maxHeartbeats 4000000 in
set_option maxRecDepth 20000 in
theorem addQ_calls (ks : Sl) (kid : Nat → Qy) (ih : ∀ i, UpToQ (kid i)) (lim n : Nat) (w : World) (h : SlAt w 15 ks fun i => (kid i).cells) (hk : ∀ i, i < ks.len → QAt w (kid i)) (ht : OpT w) (hn : n + sumN (fun i => szQ (kid i)) ks.len ≤ lim) (hl : lim ≤ 9223372036854775807) (hc : ∀ i, i < ks.len → cntQ (kid i) ≤ 2 ^ 21) (h40 : sumN (fun i => szQ (kid i)) ks.len ≤ 2 ^ 40) :
    Calls Tryd.prog 102 #[.int .i64 (lim : Nat), .int .i64 (n : Nat), .slice ks.a ks.len ks.cap, .func (.func 58) #[] #[]] w fun r w' => r = .returned (.int .i64 (n + sumN (fun i => szQ (kid i)) ks.len : Nat)) ∧ Cls w w' := by
  have hle := h.1
  have hmax := h.2.1
  unfold maxLen at hmax
  have HKD := Lib.hid h
  have HKA := Lib.hid hk
  have HT := Lib.hid ht
  have HI := Lib.hid ih
  have HN := Lib.hid hn
  have HF := Lib.hid h40
  have HC := Lib.hid hc
  clear h hk ih hn h40 hc ht
  obtain ⟨ka, kn, kc⟩ := ks
  simp only at hle hmax HKD HKA HN HF HC ⊢
  go_enter Tryd.func102, Tryd.ntmps102
  go_wp2_with fail
  go_loopw [1, 13] (fun u i wr => ∃ (j x : Nat), j ≤ kn ∧ i = .int .i64 j ∧ u = .int .i64 (x : Nat) ∧ x = n + sumN (fun i => szQ (kid i)) j ∧ Cls w wr) (fun _ i _ => kn - (intOf i).toNat)
  case atStart => exact ⟨0, n, Nat.zero_le _, rfl, rfl, rfl, Cls.of (Below.refl _ _)⟩
  case round =>
    obtain ⟨j, xx, hj, rfl, rfl, hx, y, rfl⟩ := hrel
    have ys := y.size
    have HX := Lib.hid hx
    have hxl : xx ≤ lim := by have h1 := sumN_mono (f := fun i => szQ (kid i)) hj; have h2 := HN.out; omega
    clear hx
    by_cases hlt : j < kn
    · obtain ⟨b, off, ha, hb, hcc⟩ := HKD.out.2.2.2 j hlt
      simp only at ha
      subst ha
      have p0 := hcc 0 (by omega)
      have p1 := hcc 1 (by omega)
      have p2 := hcc 2 (by omega)
      have p3 := hcc 3 (by omega)
      have p4 := hcc 4 (by omega)
      have p5 := hcc 5 (by omega)
      have p6 := hcc 6 (by omega)
      have p7 := hcc 7 (by omega)
      have p8 := hcc 8 (by omega)
      have p9 := hcc 9 (by omega)
      have p10 := hcc 10 (by omega)
      have p11 := hcc 11 (by omega)
      have p12 := hcc 12 (by omega)
      have p13 := hcc 13 (by omega)
      have p14 := hcc 14 (by omega)
      simp only [Qy.cells, Sl.v, List.getElem?_cons_zero, List.getElem?_cons_succ, Nat.add_zero] at p0 p1 p2 p3 p4 p5 p6 p7 p8 p9 p10 p11 p12 p13 p14
      have hm2 := sumN_mono (f := fun i => szQ (kid i)) (m := j + 1) (n := kn) hlt
      have HT1 : Hid (sumN (fun i => szQ (kid i)) (j + 1) = sumN (fun i => szQ (kid i)) j + szQ (kid j)) := Lib.hid rfl
      have hkl : xx + szQ (kid j) ≤ lim := by have h1 := HT1.out; have h2 := HN.out; have h3 := HX.out; omega
      have hk40 : szQ (kid j) ≤ 2 ^ 40 := by have h1 := HT1.out; have h2 := HF.out; omega
      have C1 : Hid (∀ W, Below w.heap.size w W → Calls Tryd.prog 58 #[.int .i64 ((lim : Int) - (xx : Int)), .agg #[.int .i64 (kid j).p.op, .string (kid j).p.table, .int .i64 (kid j).p.kind, .bool (kid j).p.all, .int .i64 (kid j).p.cond.op, .int .i64 (kid j).p.cond.ty, .int .i64 (kid j).p.cond.num, .string (kid j).p.cond.text, .int .i64 (kid j).p.cond.col, .slice (kid j).p.ck.a (kid j).p.ck.len (kid j).p.ck.cap, .slice (kid j).p.es.a (kid j).p.es.len (kid j).p.es.cap, .slice (kid j).p.gs.a (kid j).p.gs.len (kid j).p.gs.cap, .slice (kid j).p.ts.a (kid j).p.ts.len (kid j).p.ts.cap, .slice (kid j).p.rs.a (kid j).p.rs.len (kid j).p.rs.cap, .slice (kid j).ks.a (kid j).ks.len (kid j).ks.cap]] W fun r w' => r = .returned (.int .i64 (szQ (kid j) : Nat)) ∧ Cls W w') := Lib.hid (fun W hW => by
        have h := HI.out j (lim - xx) W ((HKA.out j hlt).later hW) (HT.out.later hW) (by omega) (by omega) (HC.out j hlt)
        rw [show ((lim - xx : Nat) : Int) = (lim : Int) - (xx : Int) by omega] at h
        exact h)
      have d1 : decide ((lim : Int) < (xx : Int)) = false := by simp; omega
      clear hcc hm2
      generalize sumN (fun i => szQ (kid i)) j = sj at *
      generalize szQ (kid j) = nk at *
      generalize kid j = kq at *
      go_wp2_with (go_at_call 58; ((with_reducible refine (C1.out _ ?_).mono ?_); (· (repeat first | with_reducible exact Below.refl _ _ | with_reducible refine Below.setCell ?_ (by first | omega | (simp; done) | (simp; omega)) _ | with_reducible refine Below.alloc ?_ (by first | omega | (simp; done) | (simp; omega)) _ | with_reducible refine Below.drew ?_ | with_reducible refine Ext.on _ ?_ (by first | omega | (simp; done) | (simp; omega)))); rintro r _ ⟨rfl, z, rfl⟩))
      go_roundw
      case rel =>
        refine ⟨j + 1, xx + nk, by omega, by go_num, by go_num, by rw [HT1.out]; have := HX.out; omega, Cls.of ?_⟩
        repeat first | with_reducible exact Below.refl _ _ | with_reducible refine Below.setCell ?_ (by first | omega | (simp; done) | (simp; omega)) _ | with_reducible refine Below.alloc ?_ (by first | omega | (simp; done) | (simp; omega)) _ | with_reducible refine Below.drew ?_ | with_reducible refine Ext.on _ ?_ (by first | omega | (simp; done) | (simp; omega))
      case measure => simp [intOf]; omega
    · obtain rfl : j = kn := by omega
      go_wp2_with fail
      go_ret
      exact ⟨ret_int (by rw [HX.out]), y, rfl⟩
set_option maxHeartbeats 8000000 in
set_option maxRecDepth 20000 in
theorem upToQ_step (p : Qr) (ks : Sl) (kid : Nat → Qy) (ih : ∀ i, UpToQ (kid i)) : UpToQ (.mk p ks kid) := by
  intro lim w h ht hn hlim hc
  have hp := h.part
  have hq := h.slice
  have hkid := h.kid
  have HSZ : Hid (szQ (.mk p ks kid) = 1 + sumN (rwF p) p.rs.len + (condN p + exprN p + aggN p) + sumN (fun i => szQ (kid i)) ks.len) := Lib.hid (by show 1 + condN p + exprN p + aggN p + sumN (rwF p) p.rs.len + sumN (fun i => szQ (kid i)) ks.len = _; omega)
  have hszc := szQ_le h
  simp only [Qy.p, Qy.ks, Qy.kid] at hp hq hkid
  have hcc : 1 + cntP p + sumN (fun i => cntQ (kid i)) ks.len ≤ 2 ^ 21 := hc
  have hgl : p.gs.len ≤ 2 ^ 22 := by
    have h1 := sumN_len (f := fun i => cntE (p.agg i).arg) (n := p.gs.len) fun i _ => cntE_pos _
    have h2 : sumN (fun i => cntE (p.agg i).arg) p.gs.len ≤ cntP p := by unfold cntP; omega
    omega
  have hel : p.es.len ≤ 2 ^ 22 := by
    have h1 := cntL_len p.exprs
    have h2 := hp.exprs.len_eq
    have h3 : cntL p.exprs ≤ cntP p := by unfold cntP; omega
    omega
  have CE : Hid (∀ W, Below w.heap.size w W → ExprsOf p ks W) := Lib.hid (fun W hW => expressions_calls p ks W (hp.later hW) (ht.later hW) hgl hel)
  have hlim2 : 1 + sumN (rwF p) p.rs.len + (condN p + exprN p + aggN p) + sumN (fun i => szQ (kid i)) ks.len ≤ lim := by rw [← HSZ.out]; exact hn
  have hall : 1 + sumN (rwF p) p.rs.len + (condN p + exprN p + aggN p) + sumN (fun i => szQ (kid i)) ks.len ≤ 2 ^ 21 := by rw [← HSZ.out]; exact Nat.le_trans hszc hc
  have CQ : Hid (∀ (n : Nat) W, Below w.heap.size w W → n + sumN (fun i => szQ (kid i)) ks.len ≤ lim → Calls Tryd.prog 102 #[.int .i64 (lim : Nat), .int .i64 (n : Nat), .slice ks.a ks.len ks.cap, .func (.func 58) #[] #[]] W fun r w' => r = .returned (.int .i64 (n + sumN (fun i => szQ (kid i)) ks.len : Nat)) ∧ Cls W w') := Lib.hid (fun n W hW hn' => addQ_calls ks kid ih lim n W (hq.later hW) (fun i hi => (hkid i hi).later hW) (ht.later hW) hn' hlim (fun i hi => Nat.le_trans (sumN_at (f := fun i => cntQ (kid i)) hi) (by omega)) (by omega))
  have HRW : Hid (SlAt w 1 p.rs fun i => [(p.row i).v]) := Lib.hid hp.rows
  have HRL : Hid (∀ i, i < p.rs.len → (p.row i).len ≤ maxLen) := Lib.hid (fun i hi => Nat.le_trans (hp.vals i hi).1 (hp.vals i hi).2.1)
  have hrm : p.rs.len ≤ maxLen := Nat.le_trans hp.rows.1 hp.rows.2.1
  unfold maxLen at hrm
  have HSM : Hid (∀ m, m ≤ p.rs.len → sumN (rwF p) m ≤ sumN (rwF p) p.rs.len) := Lib.hid (fun m hm => sumN_mono hm)
  have HS0 : Hid (sumN (rwF p) 0 = 0) := Lib.hid rfl
  have HSS : Hid (∀ m, sumN (rwF p) (m + 1) = sumN (rwF p) m + (p.row m).len) := Lib.hid (fun _ => rfl)
  simp only [Qy.p, Qy.ks] at ⊢
  unfold ExprsOf at CE
  clear h hp hq hkid ht hn hc hszc hcc ih hgl hel
  generalize szQ (.mk p ks kid) = stot at *
  generalize sumN (fun i => szQ (kid i)) ks.len = sk at *
  generalize condN p + exprN p + aggN p = se at *
  generalize hsr : sumN (rwF p) = sr at *
  clear hsr
  obtain ⟨op, table, kind, all, cond, ck, ⟨ea, en, ec⟩, exprs, ⟨ga, gn, gc⟩, agg, ⟨ta, tn, tc⟩, typ, ⟨ra, rn, rc⟩, row, val⟩ := p
  obtain ⟨ka, kn, kc⟩ := ks
  simp only at *
  go_enter Tryd.func58, Tryd.ntmps58
  go_wp2_with fail
  go_loopw [5, 11] (fun u i wr => ∃ (m x : Nat), m ≤ rn ∧ i = .int .i64 m ∧ u = .int .i64 (x : Nat) ∧ x = 1 + sr m ∧ Cls (w.alloc (.cells #[.int .i64 op, .string table, .int .i64 kind, .bool all, .int .i64 cond.op, .int .i64 cond.ty, .int .i64 cond.num, .string cond.text, .int .i64 cond.col, .slice ck.a ck.len ck.cap, .slice ea en ec, .slice ga gn gc, .slice ta tn tc, .slice ra rn rc, .slice ka kn kc] 63)) wr) (fun _ i _ => rn - (intOf i).toNat)
  case atStart =>
    refine ⟨0, 1, Nat.zero_le _, rfl, rfl, by rw [HS0.out], Cls.of ?_⟩
    repeat first | with_reducible exact Below.refl _ _ | with_reducible refine Below.setCell ?_ (by first | omega | (simp; done) | (simp; omega)) _ | with_reducible refine Below.alloc ?_ (by first | omega | (simp; done) | (simp; omega)) _ | with_reducible refine Below.drew ?_ | with_reducible refine Ext.on _ ?_ (by first | omega | (simp; done) | (simp; omega))
  case round =>
    obtain ⟨m, xx, hm, rfl, rfl, hx, y, rfl⟩ := hrel
    have HX := Lib.hid hx
    have ys := y.size
    simp at ys
    have yl : w.heap.size < y.val.heap.size := by omega
    have hsm := HSM.out m hm
    have hxb : xx ≤ 2 ^ 21 := by omega
    clear hx
    by_cases hlt : m < rn
    · obtain ⟨b2, off2, ha2, hb2', hc2⟩ := HRW.out.2.2.2 m hlt
      simp only at ha2
      subst ha2
      have hb3 : b2 < w.heap.size + 1 := by omega
      have p0 := hc2 0 (by omega)
      have hl2 := HRL.out m hlt
      unfold maxLen at hl2
      simp only [Sl.v, List.getElem?_cons_zero, Nat.add_zero, Nat.mul_one] at p0
      have HS1 := Lib.hid (HSS.out m)
      have hsm1 := HSM.out (m + 1) hlt
      rw [HS1.out] at hsm1
      clear hc2
      generalize row m = u at *
      go_wp2_with fail
      go_roundw
      case rel =>
        refine ⟨m + 1, xx + u.len, by omega, by go_num, by go_num, by rw [HS1.out]; have := HX.out; omega, Cls.of ?_⟩
        repeat first | with_reducible exact Below.refl _ _ | with_reducible refine Below.setCell ?_ (by first | omega | (simp; done) | (simp; omega)) _ | with_reducible refine Below.alloc ?_ (by first | omega | (simp; done) | (simp; omega)) _ | with_reducible refine Below.drew ?_ | with_reducible refine Ext.on _ ?_ (by first | omega | (simp; done) | (simp; omega))
      case measure => simp [intOf]; omega
    · obtain rfl : m = rn := by omega
      go_wp2_with (first | (go_at_call 100; ((with_reducible refine (CE.out _ ?_).mono ?_); (· (repeat first | with_reducible exact Below.refl _ _ | with_reducible refine Below.setCell ?_ (by first | omega | (simp; done) | (simp; omega)) _ | with_reducible refine Below.alloc ?_ (by first | omega | (simp; done) | (simp; omega)) _ | with_reducible refine Below.drew ?_ | with_reducible refine Ext.on _ ?_ (by first | omega | (simp; done) | (simp; omega)))); rintro r w1 hq; obtain ⟨l, la, ln, lc, rfl, hkl, hnl, y1, rfl⟩ := hq; have HKL := Lib.hid hkl; have HNL := Lib.hid hnl; clear hkl hnl; have y1s := y1.size; obtain ⟨a0, _, _, _, _⟩ := y1.lts (b := w.heap.size) (by omega))) | (go_at_call 99; ((with_reducible refine (addE_calls l (fun k _ => upTo_calls k) lim xx la ln lc _ HKL.out (by have := HNL.out; have := HX.out; omega) hlim (by have := HNL.out; omega)).mono ?_); rintro r _ ⟨rfl, y2, rfl⟩; generalize hn2 : xx + nodL l = n2; have HN2 := Lib.hid hn2; clear hn2; have y2s := y2.size; obtain ⟨b0, _, _, _, _⟩ := y2.lts (b := w.heap.size) a0)) | (go_at_call 102; ((with_reducible refine (CQ.out n2 _ ?_ (by have := HNL.out; have := HX.out; have := HN2.out; omega)).mono ?_); (· (repeat first | with_reducible exact Below.refl _ _ | with_reducible refine Below.setCell ?_ (by first | omega | (simp; done) | (simp; omega)) _ | with_reducible refine Below.alloc ?_ (by first | omega | (simp; done) | (simp; omega)) _ | with_reducible refine Below.drew ?_ | with_reducible refine Ext.on _ ?_ (by first | omega | (simp; done) | (simp; omega)))); rintro r _ ⟨rfl, y3, rfl⟩)))
      go_ret
      refine ⟨ret_int (by rw [HSZ.out]; have := HNL.out; have := HX.out; have := HN2.out; omega), Cls.of ?_⟩
      repeat first | with_reducible exact Below.refl _ _ | with_reducible refine Below.setCell ?_ (by first | omega | (simp; done) | (simp; omega)) _ | with_reducible refine Below.alloc ?_ (by first | omega | (simp; done) | (simp; omega)) _ | with_reducible refine Below.drew ?_ | with_reducible refine Ext.on _ ?_ (by first | omega | (simp; done) | (simp; omega))
theorem upToQ_calls : ∀ q : Qy, UpToQ q := by
  intro q
  induction q with
  | nil => intro lim w h; cases h
  | mk p ks kid ih => exact upToQ_step p ks kid ih
set_option maxHeartbeats 4000000 in
set_option maxRecDepth 20000 in
theorem SizeA_calls (q : Qy) (w : World) (h : QAt w q) (ht : OpT w) (hc : cntQ q ≤ 2 ^ 21) : Calls Tryd.prog 25 #[.agg #[.int .i64 q.p.op, .string q.p.table, .int .i64 q.p.kind, .bool q.p.all, .int .i64 q.p.cond.op, .int .i64 q.p.cond.ty, .int .i64 q.p.cond.num, .string q.p.cond.text, .int .i64 q.p.cond.col, .slice q.p.ck.a q.p.ck.len q.p.ck.cap, .slice q.p.es.a q.p.es.len q.p.es.cap, .slice q.p.gs.a q.p.gs.len q.p.gs.cap, .slice q.p.ts.a q.p.ts.len q.p.ts.cap, .slice q.p.rs.a q.p.rs.len q.p.rs.cap, .slice q.ks.a q.ks.len q.ks.cap]] w fun r w' => r = .returned (.int .i64 (szQ q : Nat)) ∧ Cls w w' := by
  have C1 : Hid (∀ W, Below w.heap.size w W → Calls Tryd.prog 58 #[.int .i64 9223372036854775807, .agg #[.int .i64 q.p.op, .string q.p.table, .int .i64 q.p.kind, .bool q.p.all, .int .i64 q.p.cond.op, .int .i64 q.p.cond.ty, .int .i64 q.p.cond.num, .string q.p.cond.text, .int .i64 q.p.cond.col, .slice q.p.ck.a q.p.ck.len q.p.ck.cap, .slice q.p.es.a q.p.es.len q.p.es.cap, .slice q.p.gs.a q.p.gs.len q.p.gs.cap, .slice q.p.ts.a q.p.ts.len q.p.ts.cap, .slice q.p.rs.a q.p.rs.len q.p.rs.cap, .slice q.ks.a q.ks.len q.ks.cap]] W fun r w' => r = .returned (.int .i64 (szQ q : Nat)) ∧ Cls W w') := Lib.hid (fun W hW => upToQ_calls q 9223372036854775807 W (h.later hW) (ht.later hW) (by have := szQ_le h; omega) (Nat.le_refl _) hc)
  clear h ht hc
  generalize szQ q = n at *
  generalize q.p = p at *
  generalize q.ks = ks at *
  go_enter Tryd.func25, Tryd.ntmps25
  go_wp2_with (go_at_call 58; ((with_reducible refine (C1.out _ ?_).mono ?_); (· (repeat first | with_reducible exact Below.refl _ _ | with_reducible refine Below.setCell ?_ (by first | omega | (simp; done) | (simp; omega)) _ | with_reducible refine Below.alloc ?_ (by first | omega | (simp; done) | (simp; omega)) _ | with_reducible refine Below.drew ?_ | with_reducible refine Ext.on _ ?_ (by first | omega | (simp; done) | (simp; omega)))); rintro r _ ⟨rfl, y3, rfl⟩))
  go_ret
  refine ⟨rfl, Cls.of ?_⟩
  repeat first | with_reducible exact Below.refl _ _ | with_reducible refine Below.setCell ?_ (by first | omega | (simp; done) | (simp; omega)) _ | with_reducible refine Below.alloc ?_ (by first | omega | (simp; done) | (simp; omega)) _ | with_reducible refine Below.drew ?_ | with_reducible refine Ext.on _ ?_ (by first | omega | (simp; done) | (simp; omega))
end Go.Proofs.YtbnhmjecjeifdaaDoor
