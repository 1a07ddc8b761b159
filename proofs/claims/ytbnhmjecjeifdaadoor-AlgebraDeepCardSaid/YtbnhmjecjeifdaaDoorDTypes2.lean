/-
  The types of a scan, and what Type gives for queries that are not too large.
-/
import Derived.Test.YtbnhmjecjeifdaaDoorDTypes
import Derived.Test.YtbnhmjecjeifdaaDoorQPSize4
import Derived.Test.YtbnhmjecjeifdaaDoorQDepth
set_option linter.unusedVariables false
namespace Go.Proofs.YtbnhmjecjeifdaaDoor
open Go Go.RowKit Go.Deep
set_option maxHeartbeats 8000000 in
set_option maxRecDepth 20000 in
theorem typesOf_scan (ta : Option Addr) (tn tc : Nat) (m : Nat) (w : World) (ht : OpT w)
    (hs : ∀ W, Below w.heap.size w W → Calls Tryd.prog 150 #[.agg #[.slice ta tn tc], .string ⟨#[116, 48]⟩] W (TysIs m W)) :
    Calls Tryd.prog 59 #[.agg #[.slice ta tn tc], .agg #[.int .i64 1, .string ⟨#[116, 48]⟩, .int .i64 0, .bool false, .int .i64 0, .int .i64 0, .int .i64 0, .string ⟨#[]⟩, .int .i64 0, .slice none 0 0, .slice none 0 0, .slice none 0 0, .slice none 0 0, .slice none 0 0, .slice none 0 0]] w (TysIs m w) := by
  have HS := Lib.hid hs
  have CF : Hid (∀ W, Below w.heap.size w W → Calls Tryd.prog 103 #[.int .i64 1] W fun r w' => ∃ s : ByteArray, r = .returned (.tuple #[.agg #[.string s, .int .i64 1, .int .i64 0], .bool true]) ∧ Cls W w') := Lib.hid (fun W hW => findO_calls 1 W (ht.later hW))
  have CO : Hid (∀ W, Below w.heap.size w W → Calls Tryd.prog 105 #[.agg #[.slice ta tn tc], .agg #[.int .i64 1, .string ⟨#[116, 48]⟩, .int .i64 0, .bool false, .int .i64 0, .int .i64 0, .int .i64 0, .string ⟨#[]⟩, .int .i64 0, .slice none 0 0, .slice none 0 0, .slice none 0 0, .slice none 0 0, .slice none 0 0, .slice none 0 0], .slice none 0 0] W (TysIs m W)) := Lib.hid (fun W hW => by
    have H1 : Hid (∀ W', Below W.heap.size W W' → Calls Tryd.prog 150 #[.agg #[.slice ta tn tc], .string ⟨#[116, 48]⟩] W' (TysIs m W')) := Lib.hid (fun W' hW' => hs W' (hW.trans (hW'.mono hW.size)))
    clear hs HS CF ht
    go_enter Tryd.func105, Tryd.ntmps105
    go_wp2_with (go_at_call 150; ((with_reducible refine (H1.out _ ?_).mono ?_); (· (repeat first | with_reducible exact Below.refl _ _ | with_reducible refine Below.setCell ?_ (by first | omega | (simp; done) | (simp; omega)) _ | with_reducible refine Below.alloc ?_ (by first | omega | (simp; done) | (simp; omega)) _ | with_reducible refine Below.drew ?_ | with_reducible refine Ext.on _ ?_ (by first | omega | (simp; done) | (simp; omega)))); rintro r w2 hq; obtain ⟨s, rfl, hsm, z, rfl⟩ := hq; have HSM := Lib.hid hsm; clear hsm))
    go_ret2
    refine ⟨s, rfl, HSM.out, Cls.of ?_⟩
    repeat first | with_reducible exact Below.refl _ _ | with_reducible refine Below.setCell ?_ (by first | omega | (simp; done) | (simp; omega)) _ | with_reducible refine Below.alloc ?_ (by first | omega | (simp; done) | (simp; omega)) _ | with_reducible refine Below.drew ?_ | with_reducible refine Ext.on _ ?_ (by first | omega | (simp; done) | (simp; omega)))
  have CH : Hid (∀ (s : ByteArray) W, Calls Tryd.prog 104 #[.agg #[.int .i64 1, .string ⟨#[116, 48]⟩, .int .i64 0, .bool false, .int .i64 0, .int .i64 0, .int .i64 0, .string ⟨#[]⟩, .int .i64 0, .slice none 0 0, .slice none 0 0, .slice none 0 0, .slice none 0 0, .slice none 0 0, .slice none 0 0], .agg #[.string s, .int .i64 1, .int .i64 0]] W fun r w' => r = .returned (.bool true) ∧ Cls W w') := Lib.hid (fun s W => hasOnly_scan Sl.z s 0 W)
  clear hs ht
  go_enter Tryd.func59, Tryd.ntmps59
  go_wp2_with fail
  go_loopw [6, 16] (fun u i wr => i = .int .i64 0 ∧ u = .slice none 0 0 ∧ Cls ((w.alloc (.cells #[.slice ta tn tc] 37)).alloc (.cells #[.int .i64 1, .string ⟨#[116, 48]⟩, .int .i64 0, .bool false, .int .i64 0, .int .i64 0, .int .i64 0, .string ⟨#[]⟩, .int .i64 0, .slice none 0 0, .slice none 0 0, .slice none 0 0, .slice none 0 0, .slice none 0 0, .slice none 0 0] 63)) wr) (fun _ i _ => 0)
  case atStart =>
    refine ⟨rfl, rfl, Cls.of ?_⟩
    repeat first | with_reducible exact Below.refl _ _ | with_reducible refine Below.setCell ?_ (by first | omega | (simp; done) | (simp; omega)) _ | with_reducible refine Below.alloc ?_ (by first | omega | (simp; done) | (simp; omega)) _ | with_reducible refine Below.drew ?_ | with_reducible refine Ext.on _ ?_ (by first | omega | (simp; done) | (simp; omega))
  case round =>
    obtain ⟨rfl, rfl, y, rfl⟩ := hrel
    have ys := y.size
    simp at ys
    have yl : w.heap.size < y.val.heap.size := by omega
    have yl1 : w.heap.size + 1 < y.val.heap.size := by omega
    go_wp2_with (first | (go_at_call 103; ((with_reducible refine (CF.out _ ?_).mono ?_); (· (repeat first | with_reducible exact Below.refl _ _ | with_reducible refine Below.setCell ?_ (by first | omega | (simp; done) | (simp; omega)) _ | with_reducible refine Below.alloc ?_ (by first | omega | (simp; done) | (simp; omega)) _ | with_reducible refine Below.drew ?_ | with_reducible refine Ext.on _ ?_ (by first | omega | (simp; done) | (simp; omega)))); rintro r w2 hq; obtain ⟨nm, rfl, z, rfl⟩ := hq; have zs := z.size; obtain ⟨a0, _, _, _, _⟩ := z.lts (b := w.heap.size) yl; obtain ⟨a1, _, _, _, _⟩ := z.lts (b := w.heap.size + 1) yl1)) | (go_at_call 104; ((with_reducible refine (CH.out nm _).mono ?_); rintro r _ ⟨rfl, x, rfl⟩; have xs := x.size; simp at xs; have d0 : w.heap.size < x.val.heap.size := (by omega); have d1 : w.heap.size + 1 < x.val.heap.size := (by omega))) | (go_at_call 105; ((with_reducible refine (CO.out _ ?_).mono ?_); (· (repeat first | with_reducible exact Below.refl _ _ | with_reducible refine Below.setCell ?_ (by first | omega | (simp; done) | (simp; omega)) _ | with_reducible refine Below.alloc ?_ (by first | omega | (simp; done) | (simp; omega)) _ | with_reducible refine Below.drew ?_ | with_reducible refine Ext.on _ ?_ (by first | omega | (simp; done) | (simp; omega)))); rintro r w2 hq; obtain ⟨s, rfl, hsm, t, rfl⟩ := hq; have HSM := Lib.hid hsm; clear hsm)))
    go_ret2
    refine ⟨s, rfl, HSM.out, Cls.of ?_⟩
    repeat first | with_reducible exact Below.refl _ _ | with_reducible refine Below.setCell ?_ (by first | omega | (simp; done) | (simp; omega)) _ | with_reducible refine Below.alloc ?_ (by first | omega | (simp; done) | (simp; omega)) _ | with_reducible refine Below.drew ?_ | with_reducible refine Ext.on _ ?_ (by first | omega | (simp; done) | (simp; omega))
set_option maxHeartbeats 8000000 in
set_option maxRecDepth 20000 in
theorem Type_small (ta : Option Addr) (tn tc : Nat) (q : Qy) (m : Nat) (w : World) (h : QAt w q) (ht : OpT w) (hc : cntQ q ≤ 2 ^ 21) (hz : szQ q ≤ 200) (hd : depQ q ≤ 24)
    (hk : ∀ W, Below w.heap.size w W → Calls Tryd.prog 59 #[.agg #[.slice ta tn tc], .agg #[.int .i64 q.p.op, .string q.p.table, .int .i64 q.p.kind, .bool q.p.all, .int .i64 q.p.cond.op, .int .i64 q.p.cond.ty, .int .i64 q.p.cond.num, .string q.p.cond.text, .int .i64 q.p.cond.col, .slice q.p.ck.a q.p.ck.len q.p.ck.cap, .slice q.p.es.a q.p.es.len q.p.es.cap, .slice q.p.gs.a q.p.gs.len q.p.gs.cap, .slice q.p.ts.a q.p.ts.len q.p.ts.cap, .slice q.p.rs.a q.p.rs.len q.p.rs.cap, .slice q.ks.a q.ks.len q.ks.cap]] W (TysIs m W)) :
    Calls Tryd.prog 21 #[.agg #[.slice ta tn tc], .agg #[.int .i64 q.p.op, .string q.p.table, .int .i64 q.p.kind, .bool q.p.all, .int .i64 q.p.cond.op, .int .i64 q.p.cond.ty, .int .i64 q.p.cond.num, .string q.p.cond.text, .int .i64 q.p.cond.col, .slice q.p.ck.a q.p.ck.len q.p.ck.cap, .slice q.p.es.a q.p.es.len q.p.es.cap, .slice q.p.gs.a q.p.gs.len q.p.gs.cap, .slice q.p.ts.a q.p.ts.len q.p.ts.cap, .slice q.p.rs.a q.p.rs.len q.p.rs.cap, .slice q.ks.a q.ks.len q.ks.cap]] w (TysIs m w) := by
  have HK := Lib.hid hk
  have C1 : Hid (∀ W, Below w.heap.size w W → Calls Tryd.prog 58 #[.int .i64 200, .agg #[.int .i64 q.p.op, .string q.p.table, .int .i64 q.p.kind, .bool q.p.all, .int .i64 q.p.cond.op, .int .i64 q.p.cond.ty, .int .i64 q.p.cond.num, .string q.p.cond.text, .int .i64 q.p.cond.col, .slice q.p.ck.a q.p.ck.len q.p.ck.cap, .slice q.p.es.a q.p.es.len q.p.es.cap, .slice q.p.gs.a q.p.gs.len q.p.gs.cap, .slice q.p.ts.a q.p.ts.len q.p.ts.cap, .slice q.p.rs.a q.p.rs.len q.p.rs.cap, .slice q.ks.a q.ks.len q.ks.cap]] W fun r w' => r = .returned (.int .i64 (szQ q : Nat)) ∧ Cls W w') := Lib.hid (fun W hW => upToQ_calls q 200 W (h.later hW) (ht.later hW) hz (by omega) hc)
  have C2 : Hid (∀ W, Below w.heap.size w W → Calls Tryd.prog 27 #[.agg #[.int .i64 q.p.op, .string q.p.table, .int .i64 q.p.kind, .bool q.p.all, .int .i64 q.p.cond.op, .int .i64 q.p.cond.ty, .int .i64 q.p.cond.num, .string q.p.cond.text, .int .i64 q.p.cond.col, .slice q.p.ck.a q.p.ck.len q.p.ck.cap, .slice q.p.es.a q.p.es.len q.p.es.cap, .slice q.p.gs.a q.p.gs.len q.p.gs.cap, .slice q.p.ts.a q.p.ts.len q.p.ts.cap, .slice q.p.rs.a q.p.rs.len q.p.rs.cap, .slice q.ks.a q.ks.len q.ks.cap]] W fun r w' => r = .returned (.int .i64 (depQ q : Nat)) ∧ Cls W w') := Lib.hid (fun W hW => Depth_calls q W (h.later hW) hc)
  clear h ht hc hk
  generalize szQ q = sz at *
  generalize depQ q = dp at *
  generalize q.p = p at *
  generalize q.ks = ks at *
  go_enter Tryd.func21, Tryd.ntmps21
  go_wp2_with (first | (go_at_call 58; ((with_reducible refine (C1.out _ ?_).mono ?_); (· (repeat first | with_reducible exact Below.refl _ _ | with_reducible refine Below.setCell ?_ (by first | omega | (simp; done) | (simp; omega)) _ | with_reducible refine Below.alloc ?_ (by first | omega | (simp; done) | (simp; omega)) _ | with_reducible refine Below.drew ?_ | with_reducible refine Ext.on _ ?_ (by first | omega | (simp; done) | (simp; omega)))); rintro r _ ⟨rfl, y, rfl⟩; have ys := y.size; simp at ys; obtain ⟨a0, _, _, _, _⟩ := y.lts (b := w.heap.size) (by simp; omega); obtain ⟨a1, _, _, _, _⟩ := y.lts (b := w.heap.size + 1) (by simp))) | (go_at_call 27; ((with_reducible refine (C2.out _ ?_).mono ?_); (· (repeat first | with_reducible exact Below.refl _ _ | with_reducible refine Below.setCell ?_ (by first | omega | (simp; done) | (simp; omega)) _ | with_reducible refine Below.alloc ?_ (by first | omega | (simp; done) | (simp; omega)) _ | with_reducible refine Below.drew ?_ | with_reducible refine Ext.on _ ?_ (by first | omega | (simp; done) | (simp; omega)))); rintro r _ ⟨rfl, z, rfl⟩; obtain ⟨c0, _, _, _, _⟩ := z.lts (b := w.heap.size) a0; obtain ⟨c1, _, _, _, _⟩ := z.lts (b := w.heap.size + 1) a1)) | (go_at_call 59; ((with_reducible refine (HK.out _ ?_).mono ?_); (· (repeat first | with_reducible exact Below.refl _ _ | with_reducible refine Below.setCell ?_ (by first | omega | (simp; done) | (simp; omega)) _ | with_reducible refine Below.alloc ?_ (by first | omega | (simp; done) | (simp; omega)) _ | with_reducible refine Below.drew ?_ | with_reducible refine Ext.on _ ?_ (by first | omega | (simp; done) | (simp; omega)))); rintro r w2 hq; obtain ⟨s, rfl, hsm, t, rfl⟩ := hq; have HSM := Lib.hid hsm; clear hsm)))
  go_ret2
  refine ⟨s, rfl, HSM.out, Cls.of ?_⟩
  repeat first | with_reducible exact Below.refl _ _ | with_reducible refine Below.setCell ?_ (by first | omega | (simp; done) | (simp; omega)) _ | with_reducible refine Below.alloc ?_ (by first | omega | (simp; done) | (simp; omega)) _ | with_reducible refine Below.drew ?_ | with_reducible refine Ext.on _ ?_ (by first | omega | (simp; done) | (simp; omega))
set_option maxHeartbeats 8000000 in
set_option maxRecDepth 20000 in
theorem Type_deep (ta : Option Addr) (tn tc : Nat) (q : Qy) (w : World) (h : QAt w q) (ht : OpT w) (hc : cntQ q ≤ 2 ^ 21) (hz : szQ q ≤ 200) (hd : 24 < depQ q) (hd2 : depQ q ≤ 2 ^ 21) :
    Calls Tryd.prog 21 #[.agg #[.slice ta tn tc], .agg #[.int .i64 q.p.op, .string q.p.table, .int .i64 q.p.kind, .bool q.p.all, .int .i64 q.p.cond.op, .int .i64 q.p.cond.ty, .int .i64 q.p.cond.num, .string q.p.cond.text, .int .i64 q.p.cond.col, .slice q.p.ck.a q.p.ck.len q.p.ck.cap, .slice q.p.es.a q.p.es.len q.p.es.cap, .slice q.p.gs.a q.p.gs.len q.p.gs.cap, .slice q.p.ts.a q.p.ts.len q.p.ts.cap, .slice q.p.rs.a q.p.rs.len q.p.rs.cap, .slice q.ks.a q.ks.len q.ks.cap]] w fun r w' => r = .returned (.tuple #[.slice none 0 0, .int .i64 13]) ∧ Cls w w' := by
  have C1 : Hid (∀ W, Below w.heap.size w W → Calls Tryd.prog 58 #[.int .i64 200, .agg #[.int .i64 q.p.op, .string q.p.table, .int .i64 q.p.kind, .bool q.p.all, .int .i64 q.p.cond.op, .int .i64 q.p.cond.ty, .int .i64 q.p.cond.num, .string q.p.cond.text, .int .i64 q.p.cond.col, .slice q.p.ck.a q.p.ck.len q.p.ck.cap, .slice q.p.es.a q.p.es.len q.p.es.cap, .slice q.p.gs.a q.p.gs.len q.p.gs.cap, .slice q.p.ts.a q.p.ts.len q.p.ts.cap, .slice q.p.rs.a q.p.rs.len q.p.rs.cap, .slice q.ks.a q.ks.len q.ks.cap]] W fun r w' => r = .returned (.int .i64 (szQ q : Nat)) ∧ Cls W w') := Lib.hid (fun W hW => upToQ_calls q 200 W (h.later hW) (ht.later hW) hz (by omega) hc)
  have C2 : Hid (∀ W, Below w.heap.size w W → Calls Tryd.prog 27 #[.agg #[.int .i64 q.p.op, .string q.p.table, .int .i64 q.p.kind, .bool q.p.all, .int .i64 q.p.cond.op, .int .i64 q.p.cond.ty, .int .i64 q.p.cond.num, .string q.p.cond.text, .int .i64 q.p.cond.col, .slice q.p.ck.a q.p.ck.len q.p.ck.cap, .slice q.p.es.a q.p.es.len q.p.es.cap, .slice q.p.gs.a q.p.gs.len q.p.gs.cap, .slice q.p.ts.a q.p.ts.len q.p.ts.cap, .slice q.p.rs.a q.p.rs.len q.p.rs.cap, .slice q.ks.a q.ks.len q.ks.cap]] W fun r w' => r = .returned (.int .i64 (depQ q : Nat)) ∧ Cls W w') := Lib.hid (fun W hW => Depth_calls q W (h.later hW) hc)
  clear h ht hc
  generalize szQ q = sz at *
  generalize depQ q = dp at *
  generalize q.p = p at *
  generalize q.ks = ks at *
  go_enter Tryd.func21, Tryd.ntmps21
  go_wp2_with (first | (go_at_call 58; ((with_reducible refine (C1.out _ ?_).mono ?_); (· (repeat first | with_reducible exact Below.refl _ _ | with_reducible refine Below.setCell ?_ (by first | omega | (simp; done) | (simp; omega)) _ | with_reducible refine Below.alloc ?_ (by first | omega | (simp; done) | (simp; omega)) _ | with_reducible refine Below.drew ?_ | with_reducible refine Ext.on _ ?_ (by first | omega | (simp; done) | (simp; omega)))); rintro r _ ⟨rfl, y, rfl⟩; have ys := y.size; simp at ys; obtain ⟨a0, _, _, _, _⟩ := y.lts (b := w.heap.size) (by simp; omega); obtain ⟨a1, _, _, _, _⟩ := y.lts (b := w.heap.size + 1) (by simp))) | (go_at_call 27; ((with_reducible refine (C2.out _ ?_).mono ?_); (· (repeat first | with_reducible exact Below.refl _ _ | with_reducible refine Below.setCell ?_ (by first | omega | (simp; done) | (simp; omega)) _ | with_reducible refine Below.alloc ?_ (by first | omega | (simp; done) | (simp; omega)) _ | with_reducible refine Below.drew ?_ | with_reducible refine Ext.on _ ?_ (by first | omega | (simp; done) | (simp; omega)))); rintro r _ ⟨rfl, z, rfl⟩; obtain ⟨c0, _, _, _, _⟩ := z.lts (b := w.heap.size) a0; obtain ⟨c1, _, _, _, _⟩ := z.lts (b := w.heap.size + 1) a1)))
  go_ret2
  refine ⟨rfl, Cls.of ?_⟩
  repeat first | with_reducible exact Below.refl _ _ | with_reducible refine Below.setCell ?_ (by first | omega | (simp; done) | (simp; omega)) _ | with_reducible refine Below.alloc ?_ (by first | omega | (simp; done) | (simp; omega)) _ | with_reducible refine Below.drew ?_ | with_reducible refine Ext.on _ ?_ (by first | omega | (simp; done) | (simp; omega))
end Go.Proofs.YtbnhmjecjeifdaaDoor
