/-
  The depth of a query, as the program and the reference have it.
-/
import Derived.Test.YtbnhmjecjeifdaaDoorQBulk
import Derived.LoopTactic
set_option linter.unusedVariables false
namespace Go.Proofs.YtbnhmjecjeifdaaDoor
open Go Go.RowKit Go.Deep
/-- The greatest of the first n. -/
def maxN (f : Nat → Nat) : Nat → Nat
  | 0 => 0
  | n + 1 => max (maxN f n) (f n)
theorem maxN_le {f g : Nat → Nat} : ∀ {n : Nat}, (∀ i, i < n → f i ≤ g i) → maxN f n ≤ sumN g n
  | 0, _ => Nat.le_refl _
  | n + 1, h => by
    have h1 := maxN_le (f := f) (g := g) (n := n) fun i hi => h i (by omega)
    have h2 := h n (by omega)
    show max (maxN f n) (f n) ≤ sumN g n + g n
    omega
def depQ : Qy → Nat
  | .nil => 0
  | .mk _ ks kid => maxN (fun i => depQ (kid i)) ks.len + 1
theorem depQ_le : ∀ q : Qy, depQ q ≤ cntQ q
  | .nil => Nat.le_refl _
  | .mk p ks kid => by
    have h := maxN_le (f := fun i => depQ (kid i)) (g := fun i => cntQ (kid i)) (n := ks.len) fun i _ => depQ_le (kid i)
    show maxN _ _ + 1 ≤ 1 + cntP p + sumN _ _
    omega
def DepOf (f : FuncId) (q : Qy) : Prop := ∀ (w : World), QAt w q → cntQ q ≤ 2 ^ 21 → Calls Tryd.prog f #[.agg #[.int .i64 q.p.op, .string q.p.table, .int .i64 q.p.kind, .bool q.p.all, .int .i64 q.p.cond.op, .int .i64 q.p.cond.ty, .int .i64 q.p.cond.num, .string q.p.cond.text, .int .i64 q.p.cond.col, .slice q.p.ck.a q.p.ck.len q.p.ck.cap, .slice q.p.es.a q.p.es.len q.p.es.cap, .slice q.p.gs.a q.p.gs.len q.p.gs.cap, .slice q.p.ts.a q.p.ts.len q.p.ts.cap, .slice q.p.rs.a q.p.rs.len q.p.rs.cap, .slice q.ks.a q.ks.len q.ks.cap]] w fun r w' => r = .returned (.int .i64 (depQ q : Nat)) ∧ Cls w w'
set_option maxHeartbeats 4000000 in
set_option maxRecDepth 20000 in
theorem Depth_step (p : Qr) (ks : Sl) (kid : Nat → Qy) (ih : ∀ i, DepOf 27 (kid i)) : DepOf 27 (.mk p ks kid) := by
  intro w h hc
  have hq := h.slice
  have hkid := h.kid
  have hcs : sumN (fun i => cntQ (kid i)) ks.len ≤ 2 ^ 21 := by have h2 : 1 + cntP p + sumN (fun i => cntQ (kid i)) ks.len ≤ 2 ^ 21 := hc; omega
  have HD : Hid (depQ (.mk p ks kid) = maxN (fun i => depQ (kid i)) ks.len + 1) := Lib.hid rfl
  simp only [Qy.p, Qy.ks, Qy.kid] at hq hkid ⊢
  clear h hc
  obtain ⟨op, table, kind, all, cond, ck, ⟨ea, en, ec⟩, exprs, ⟨ga, gn, gc⟩, agg, ⟨ta, tn, tc⟩, typ, ⟨ra, rn, rc⟩, row, val⟩ := p
  obtain ⟨ka, kn, kc⟩ := ks
  have HKD : Hid (SlAt w 15 ⟨ka, kn, kc⟩ fun i => (kid i).cells) := Lib.hid hq
  have HKA : Hid (∀ i, i < kn → QAt w (kid i)) := Lib.hid hkid
  have HI := Lib.hid ih
  have HC : Hid (∀ i, i < kn → cntQ (kid i) ≤ 2 ^ 21) := Lib.hid (fun i hi => Nat.le_trans (sumN_at (f := fun i => cntQ (kid i)) hi) hcs)
  have HM : Hid (∀ m, m ≤ kn → maxN (fun i => depQ (kid i)) m ≤ 2 ^ 21) := Lib.hid (fun m hm => Nat.le_trans (maxN_le fun i _ => depQ_le (kid i)) (Nat.le_trans (sumN_mono hm) hcs))
  have hkn : kn ≤ maxLen := Nat.le_trans HKD.out.1 HKD.out.2.1
  unfold maxLen at hkn
  clear hq hkid ih hcs
  go_enter Tryd.func27, Tryd.ntmps27
  go_wp2_with fail
  go_loopw [3, 9] (fun u i wr => ∃ m : Nat, m ≤ kn ∧ i = .int .i64 m ∧ u = .int .i64 (maxN (fun i => depQ (kid i)) m : Nat) ∧ Cls (w.alloc (.cells #[.int .i64 op, .string table, .int .i64 kind, .bool all, .int .i64 cond.op, .int .i64 cond.ty, .int .i64 cond.num, .string cond.text, .int .i64 cond.col, .slice ck.a ck.len ck.cap, .slice ea en ec, .slice ga gn gc, .slice ta tn tc, .slice ra rn rc, .slice ka kn kc] 63)) wr) (fun _ i _ => kn - (intOf i).toNat)
  case atStart =>
    refine ⟨0, Nat.zero_le _, rfl, rfl, Cls.of ?_⟩
    repeat first | with_reducible exact Below.refl _ _ | with_reducible refine Below.setCell ?_ (by first | omega | (simp; done) | (simp; omega)) _ | with_reducible refine Below.alloc ?_ (by first | omega | (simp; done) | (simp; omega)) _ | with_reducible refine Below.drew ?_ | with_reducible refine Ext.on _ ?_ (by first | omega | (simp; done) | (simp; omega))
  case round =>
    obtain ⟨m, hm, rfl, rfl, y, rfl⟩ := hrel
    have ys := y.size
    simp at ys
    have hmx := HM.out m hm
    by_cases hlt : m < kn
    · obtain ⟨b2, off2, ha2, hb2, hc2⟩ := HKD.out.2.2.2 m hlt
      simp only at ha2
      subst ha2
      have hb3 : b2 < w.heap.size + 1 := by omega
      have p0 := hc2 0 (by omega)
      have p1 := hc2 1 (by omega)
      have p2 := hc2 2 (by omega)
      have p3 := hc2 3 (by omega)
      have p4 := hc2 4 (by omega)
      have p5 := hc2 5 (by omega)
      have p6 := hc2 6 (by omega)
      have p7 := hc2 7 (by omega)
      have p8 := hc2 8 (by omega)
      have p9 := hc2 9 (by omega)
      have p10 := hc2 10 (by omega)
      have p11 := hc2 11 (by omega)
      have p12 := hc2 12 (by omega)
      have p13 := hc2 13 (by omega)
      have p14 := hc2 14 (by omega)
      simp only [Qy.cells, Sl.v, List.getElem?_cons_zero, List.getElem?_cons_succ, Nat.add_zero] at p0 p1 p2 p3 p4 p5 p6 p7 p8 p9 p10 p11 p12 p13 p14
      have C1 : Hid (∀ W, Below w.heap.size w W → Calls Tryd.prog 27 #[.agg #[.int .i64 (kid m).p.op, .string (kid m).p.table, .int .i64 (kid m).p.kind, .bool (kid m).p.all, .int .i64 (kid m).p.cond.op, .int .i64 (kid m).p.cond.ty, .int .i64 (kid m).p.cond.num, .string (kid m).p.cond.text, .int .i64 (kid m).p.cond.col, .slice (kid m).p.ck.a (kid m).p.ck.len (kid m).p.ck.cap, .slice (kid m).p.es.a (kid m).p.es.len (kid m).p.es.cap, .slice (kid m).p.gs.a (kid m).p.gs.len (kid m).p.gs.cap, .slice (kid m).p.ts.a (kid m).p.ts.len (kid m).p.ts.cap, .slice (kid m).p.rs.a (kid m).p.rs.len (kid m).p.rs.cap, .slice (kid m).ks.a (kid m).ks.len (kid m).ks.cap]] W fun r w' => r = .returned (.int .i64 (depQ (kid m) : Nat)) ∧ Cls W w') := Lib.hid (fun W hW => HI.out m W ((HKA.out m hlt).later hW) (HC.out m hlt))
      have HS : Hid (maxN (fun i => depQ (kid i)) (m + 1) = max (maxN (fun i => depQ (kid i)) m) (depQ (kid m))) := Lib.hid rfl
      have hdk : depQ (kid m) ≤ 2 ^ 21 := Nat.le_trans (depQ_le _) (HC.out m hlt)
      clear hc2
      generalize maxN (fun i => depQ (kid i)) m = mx at *
      generalize depQ (kid m) = dk at *
      generalize kid m = k at *
      go_wp2_with (go_at_call 27; ((with_reducible refine (C1.out _ ?_).mono ?_); (· (repeat first | with_reducible exact Below.refl _ _ | with_reducible refine Below.setCell ?_ (by first | omega | (simp; done) | (simp; omega)) _ | with_reducible refine Below.alloc ?_ (by first | omega | (simp; done) | (simp; omega)) _ | with_reducible refine Below.drew ?_ | with_reducible refine Ext.on _ ?_ (by first | omega | (simp; done) | (simp; omega)))); rintro r _ ⟨rfl, z, rfl⟩))
      go_roundw
      case rel =>
        refine ⟨m + 1, by omega, by go_num, by rw [HS.out]; (first | rfl | (simp; done) | (simp; omega)), Cls.of ?_⟩
        repeat first | with_reducible exact Below.refl _ _ | with_reducible refine Below.setCell ?_ (by first | omega | (simp; done) | (simp; omega)) _ | with_reducible refine Below.alloc ?_ (by first | omega | (simp; done) | (simp; omega)) _ | with_reducible refine Below.drew ?_ | with_reducible refine Ext.on _ ?_ (by first | omega | (simp; done) | (simp; omega))
      case measure => simp [intOf]; omega
    · obtain rfl : m = kn := by omega
      go_wp2_with fail
      go_ret
      refine ⟨ret_int (by rw [HD.out]; omega), Cls.of ?_⟩
      repeat first | with_reducible exact Below.refl _ _ | with_reducible refine Below.setCell ?_ (by first | omega | (simp; done) | (simp; omega)) _ | with_reducible refine Below.alloc ?_ (by first | omega | (simp; done) | (simp; omega)) _ | with_reducible refine Below.drew ?_ | with_reducible refine Ext.on _ ?_ (by first | omega | (simp; done) | (simp; omega))
theorem Depth_calls : ∀ q : Qy, DepOf 27 q := by
  intro q
  induction q with
  | nil => intro w h; cases h
  | mk p ks kid ih => exact Depth_step p ks kid ih
set_option maxHeartbeats 4000000 in
set_option maxRecDepth 20000 in
theorem rDepth_step (p : Qr) (ks : Sl) (kid : Nat → Qy) (ih : ∀ i, DepOf 28 (kid i)) : DepOf 28 (.mk p ks kid) := by
  intro w h hc
  have hq := h.slice
  have hkid := h.kid
  have hcs : sumN (fun i => cntQ (kid i)) ks.len ≤ 2 ^ 21 := by have h2 : 1 + cntP p + sumN (fun i => cntQ (kid i)) ks.len ≤ 2 ^ 21 := hc; omega
  have HD : Hid (depQ (.mk p ks kid) = maxN (fun i => depQ (kid i)) ks.len + 1) := Lib.hid rfl
  simp only [Qy.p, Qy.ks, Qy.kid] at hq hkid ⊢
  clear h hc
  obtain ⟨op, table, kind, all, cond, ck, ⟨ea, en, ec⟩, exprs, ⟨ga, gn, gc⟩, agg, ⟨ta, tn, tc⟩, typ, ⟨ra, rn, rc⟩, row, val⟩ := p
  obtain ⟨ka, kn, kc⟩ := ks
  have HKD : Hid (SlAt w 15 ⟨ka, kn, kc⟩ fun i => (kid i).cells) := Lib.hid hq
  have HKA : Hid (∀ i, i < kn → QAt w (kid i)) := Lib.hid hkid
  have HI := Lib.hid ih
  have HC : Hid (∀ i, i < kn → cntQ (kid i) ≤ 2 ^ 21) := Lib.hid (fun i hi => Nat.le_trans (sumN_at (f := fun i => cntQ (kid i)) hi) hcs)
  have HM : Hid (∀ m, m ≤ kn → maxN (fun i => depQ (kid i)) m ≤ 2 ^ 21) := Lib.hid (fun m hm => Nat.le_trans (maxN_le fun i _ => depQ_le (kid i)) (Nat.le_trans (sumN_mono hm) hcs))
  have hkn : kn ≤ maxLen := Nat.le_trans HKD.out.1 HKD.out.2.1
  unfold maxLen at hkn
  clear hq hkid ih hcs
  go_enter Tryd.func28, Tryd.ntmps28
  go_wp2_with fail
  go_loopw [3, 4] (fun u i wr => ∃ m : Nat, m ≤ kn ∧ i = .int .i64 m ∧ u = .int .i64 (maxN (fun i => depQ (kid i)) m : Nat) ∧ Cls (w.alloc (.cells #[.int .i64 op, .string table, .int .i64 kind, .bool all, .int .i64 cond.op, .int .i64 cond.ty, .int .i64 cond.num, .string cond.text, .int .i64 cond.col, .slice ck.a ck.len ck.cap, .slice ea en ec, .slice ga gn gc, .slice ta tn tc, .slice ra rn rc, .slice ka kn kc] 63)) wr) (fun _ i _ => kn - (intOf i).toNat)
  case atStart =>
    refine ⟨0, Nat.zero_le _, rfl, rfl, Cls.of ?_⟩
    repeat first | with_reducible exact Below.refl _ _ | with_reducible refine Below.setCell ?_ (by first | omega | (simp; done) | (simp; omega)) _ | with_reducible refine Below.alloc ?_ (by first | omega | (simp; done) | (simp; omega)) _ | with_reducible refine Below.drew ?_ | with_reducible refine Ext.on _ ?_ (by first | omega | (simp; done) | (simp; omega))
  case round =>
    obtain ⟨m, hm, rfl, rfl, y, rfl⟩ := hrel
    have ys := y.size
    simp at ys
    have hmx := HM.out m hm
    by_cases hlt : m < kn
    · obtain ⟨b2, off2, ha2, hb2, hc2⟩ := HKD.out.2.2.2 m hlt
      simp only at ha2
      subst ha2
      have hb3 : b2 < w.heap.size + 1 := by omega
      have p0 := hc2 0 (by omega)
      have p1 := hc2 1 (by omega)
      have p2 := hc2 2 (by omega)
      have p3 := hc2 3 (by omega)
      have p4 := hc2 4 (by omega)
      have p5 := hc2 5 (by omega)
      have p6 := hc2 6 (by omega)
      have p7 := hc2 7 (by omega)
      have p8 := hc2 8 (by omega)
      have p9 := hc2 9 (by omega)
      have p10 := hc2 10 (by omega)
      have p11 := hc2 11 (by omega)
      have p12 := hc2 12 (by omega)
      have p13 := hc2 13 (by omega)
      have p14 := hc2 14 (by omega)
      simp only [Qy.cells, Sl.v, List.getElem?_cons_zero, List.getElem?_cons_succ, Nat.add_zero] at p0 p1 p2 p3 p4 p5 p6 p7 p8 p9 p10 p11 p12 p13 p14
      have C1 : Hid (∀ W, Below w.heap.size w W → Calls Tryd.prog 28 #[.agg #[.int .i64 (kid m).p.op, .string (kid m).p.table, .int .i64 (kid m).p.kind, .bool (kid m).p.all, .int .i64 (kid m).p.cond.op, .int .i64 (kid m).p.cond.ty, .int .i64 (kid m).p.cond.num, .string (kid m).p.cond.text, .int .i64 (kid m).p.cond.col, .slice (kid m).p.ck.a (kid m).p.ck.len (kid m).p.ck.cap, .slice (kid m).p.es.a (kid m).p.es.len (kid m).p.es.cap, .slice (kid m).p.gs.a (kid m).p.gs.len (kid m).p.gs.cap, .slice (kid m).p.ts.a (kid m).p.ts.len (kid m).p.ts.cap, .slice (kid m).p.rs.a (kid m).p.rs.len (kid m).p.rs.cap, .slice (kid m).ks.a (kid m).ks.len (kid m).ks.cap]] W fun r w' => r = .returned (.int .i64 (depQ (kid m) : Nat)) ∧ Cls W w') := Lib.hid (fun W hW => HI.out m W ((HKA.out m hlt).later hW) (HC.out m hlt))
      have HS : Hid (maxN (fun i => depQ (kid i)) (m + 1) = max (maxN (fun i => depQ (kid i)) m) (depQ (kid m))) := Lib.hid rfl
      have hdk : depQ (kid m) ≤ 2 ^ 21 := Nat.le_trans (depQ_le _) (HC.out m hlt)
      clear hc2
      generalize maxN (fun i => depQ (kid i)) m = mx at *
      generalize depQ (kid m) = dk at *
      generalize kid m = k at *
      go_wp2_with (go_at_call 28; ((with_reducible refine (C1.out _ ?_).mono ?_); (· (repeat first | with_reducible exact Below.refl _ _ | with_reducible refine Below.setCell ?_ (by first | omega | (simp; done) | (simp; omega)) _ | with_reducible refine Below.alloc ?_ (by first | omega | (simp; done) | (simp; omega)) _ | with_reducible refine Below.drew ?_ | with_reducible refine Ext.on _ ?_ (by first | omega | (simp; done) | (simp; omega)))); rintro r _ ⟨rfl, z, rfl⟩))
      go_roundw
      case rel =>
        refine ⟨m + 1, by omega, by go_num, by rw [HS.out]; (first | rfl | (simp; done) | (simp; omega)), Cls.of ?_⟩
        repeat first | with_reducible exact Below.refl _ _ | with_reducible refine Below.setCell ?_ (by first | omega | (simp; done) | (simp; omega)) _ | with_reducible refine Below.alloc ?_ (by first | omega | (simp; done) | (simp; omega)) _ | with_reducible refine Below.drew ?_ | with_reducible refine Ext.on _ ?_ (by first | omega | (simp; done) | (simp; omega))
      case measure => simp [intOf]; omega
    · obtain rfl : m = kn := by omega
      go_wp2_with fail
      go_ret
      refine ⟨ret_int (by rw [HD.out]; omega), Cls.of ?_⟩
      repeat first | with_reducible exact Below.refl _ _ | with_reducible refine Below.setCell ?_ (by first | omega | (simp; done) | (simp; omega)) _ | with_reducible refine Below.alloc ?_ (by first | omega | (simp; done) | (simp; omega)) _ | with_reducible refine Below.drew ?_ | with_reducible refine Ext.on _ ?_ (by first | omega | (simp; done) | (simp; omega))
theorem rDepth_calls : ∀ q : Qy, DepOf 28 q := by
  intro q
  induction q with
  | nil => intro w h; cases h
  | mk p ks kid ih => exact rDepth_step p ks kid ih
end Go.Proofs.YtbnhmjecjeifdaaDoor
