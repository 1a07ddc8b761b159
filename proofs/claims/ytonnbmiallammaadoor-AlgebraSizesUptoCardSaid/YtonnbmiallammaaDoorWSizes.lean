/-
  The walk of the law AlgebraSizes: it returns true for every query that holds not more than a million values and letters.
-/
import Derived.Test.YtonnbmiallammaaDoorQTabApp
import Derived.Test.YtonnbmiallammaaDoorQPSize4
import Derived.Test.YtonnbmiallammaaDoorQRSize
import Derived.Test.YtonnbmiallammaaDoorQDepth
import Derived.Test.YtonnbmiallammaaDoorQFew
import Derived.Test.YtonnbmiallammaaDoorLin
set_option linter.unusedVariables false
namespace Go.Proofs.YtonnbmiallammaaDoor
open Go Go.RowKit Go.Deep
set_option maxHeartbeats 4000000 in
set_option maxRecDepth 20000 in
theorem wordsS_calls (s s' : Sl) (l : List Bs) (w : World) (h : StrsIn w s l) (h' : StrsIn w s' l) :
    Calls Tryd.prog 29 #[.slice s.a s.len s.cap, .slice s'.a s'.len s'.cap] w fun r w' => r = .returned (.bool true) ∧ Cls w w' := by
  have hl : s.len = l.length := h.1
  have hl' : s'.len = l.length := h'.1
  have hc : s.len ≤ s.cap := h.2.1
  have hc' : s'.len ≤ s'.cap := h'.2.1
  have hm : s.cap ≤ maxLen := h.2.2.1
  have hm' : s'.cap ≤ maxLen := h'.2.2.1
  unfold maxLen at hm hm'
  have H := Lib.hid h
  have H' := Lib.hid h'
  have HL := Lib.hid hl
  clear h h'
  obtain ⟨a, n, c⟩ := s
  obtain ⟨a', n', c'⟩ := s'
  simp only at hl hl' hc hc' hm hm' HL ⊢
  obtain rfl : n = n' := by omega
  clear hl hl'
  go_enter Tryd.func29, Tryd.ntmps29
  go_wp2_with fail
  go_loopw [5] (fun i wr => ∃ j : Nat, j ≤ n ∧ i = .int .i64 j ∧ Cls w wr) (fun i _ => n - (intOf i).toNat)
  case atStart => exact ⟨0, Nat.zero_le _, rfl, Cls.of (Below.refl _ _)⟩
  case round =>
    obtain ⟨j, hj, rfl, x, rfl⟩ := hrel
    by_cases hlt : j < n
    · obtain ⟨b, off, ha, hb, q⟩ := H.out.at_ (j := j) (by have := HL.out; omega)
      obtain ⟨b', off', ha', hb', q'⟩ := H'.out.at_ (j := j) (by have := HL.out; omega)
      simp only at ha ha'
      subst ha ha'
      generalize l.getD j [] = v at q q'
      obtain ⟨vb, hvb⟩ : ∃ vb : ByteArray, vb = ⟨v.toArray⟩ := ⟨_, rfl⟩
      rw [show encStr v = .string vb from by rw [hvb]] at q q'
      clear hvb
      go_wp2_with fail
      refine wp_region_on (by kernel_rfl) (by kernel_rfl) ?_
      repeat (go_big_quiet_step (fail))
      refine wpQuiet_nil ?_
      rintro _ ⟨y, rfl⟩
      go_wp2_with fail
      go_roundw
      case rel => exact ⟨j + 1, by omega, by go_num, y, rfl⟩
      case measure => simp [intOf]; omega
    · go_wp2_with fail
      go_ret
      exact ⟨ret_bool rfl, x, rfl⟩
set_option maxHeartbeats 4000000 in
set_option maxRecDepth 20000 in
theorem FewS_calls (q : Qy) (w : World) (h : QAt w q) (hc : cntQ q ≤ 2 ^ 21) : Calls Tryd.prog 24 #[.agg #[.int .i64 q.p.op, .string q.p.table, .int .i64 q.p.kind, .bool q.p.all, .int .i64 q.p.cond.op, .int .i64 q.p.cond.ty, .int .i64 q.p.cond.num, .string q.p.cond.text, .int .i64 q.p.cond.col, .slice q.p.ck.a q.p.ck.len q.p.ck.cap, .slice q.p.es.a q.p.es.len q.p.es.cap, .slice q.p.gs.a q.p.gs.len q.p.gs.cap, .slice q.p.ts.a q.p.ts.len q.p.ts.cap, .slice q.p.rs.a q.p.rs.len q.p.rs.cap, .slice q.ks.a q.ks.len q.ks.cap]] w fun r w' => SomeB w r w' := by
  have C1 : Hid (∀ W, Below w.heap.size w W → Calls Tryd.prog 61 #[.agg #[.int .i64 q.p.op, .string q.p.table, .int .i64 q.p.kind, .bool q.p.all, .int .i64 q.p.cond.op, .int .i64 q.p.cond.ty, .int .i64 q.p.cond.num, .string q.p.cond.text, .int .i64 q.p.cond.col, .slice q.p.ck.a q.p.ck.len q.p.ck.cap, .slice q.p.es.a q.p.es.len q.p.es.cap, .slice q.p.gs.a q.p.gs.len q.p.gs.cap, .slice q.p.ts.a q.p.ts.len q.p.ts.cap, .slice q.p.rs.a q.p.rs.len q.p.rs.cap, .slice q.ks.a q.ks.len q.ks.cap], .int .i64 0] W fun r w' => SomeB W r w') := Lib.hid (fun W hW => fewQ_calls q 0 W (h.later hW) (by omega))
  have C2 : Hid (∀ W, Below w.heap.size w W → Calls Tryd.prog 26 #[.agg #[.int .i64 q.p.op, .string q.p.table, .int .i64 q.p.kind, .bool q.p.all, .int .i64 q.p.cond.op, .int .i64 q.p.cond.ty, .int .i64 q.p.cond.num, .string q.p.cond.text, .int .i64 q.p.cond.col, .slice q.p.ck.a q.p.ck.len q.p.ck.cap, .slice q.p.es.a q.p.es.len q.p.es.cap, .slice q.p.gs.a q.p.gs.len q.p.gs.cap, .slice q.p.ts.a q.p.ts.len q.p.ts.cap, .slice q.p.rs.a q.p.rs.len q.p.rs.cap, .slice q.ks.a q.ks.len q.ks.cap]] W fun r w' => r = .returned (.int .i64 (szQ q : Nat)) ∧ Cls W w') := Lib.hid (fun W hW => rsizeQ_calls q W (h.later hW) hc)
  clear h hc
  generalize szQ q = n at *
  generalize q.p = p at *
  generalize q.ks = ks at *
  go_enter Tryd.func24, Tryd.ntmps24
  go_wp2_with (first | (go_at_call 61; ((with_reducible refine (C1.out _ ?_).mono ?_); (· (repeat first | with_reducible exact Below.refl _ _ | with_reducible refine Below.setCell ?_ (by first | omega | (simp; done) | (simp; omega)) _ | with_reducible refine Below.alloc ?_ (by first | omega | (simp; done) | (simp; omega)) _ | with_reducible refine Below.drew ?_ | with_reducible refine Ext.on _ ?_ (by first | omega | (simp; done) | (simp; omega)))); rintro r w2 hq; obtain ⟨b, rfl, z, rfl⟩ := hq; have zs := z.size; simp at zs; cases b)) | (go_at_call 26; ((with_reducible refine (C2.out _ ?_).mono ?_); (· (repeat first | with_reducible exact Below.refl _ _ | with_reducible refine Below.setCell ?_ (by first | omega | (simp; done) | (simp; omega)) _ | with_reducible refine Below.alloc ?_ (by first | omega | (simp; done) | (simp; omega)) _ | with_reducible refine Below.drew ?_ | with_reducible refine Ext.on _ ?_ (by first | omega | (simp; done) | (simp; omega)))); rintro r w2 hq; obtain ⟨rfl, z2, rfl⟩ := hq)))
  all_goals
    go_ret
    refine ⟨_, rfl, Cls.of ?_⟩
    repeat first | with_reducible exact Below.refl _ _ | with_reducible refine Below.setCell ?_ (by first | omega | (simp; done) | (simp; omega)) _ | with_reducible refine Below.alloc ?_ (by first | omega | (simp; done) | (simp; omega)) _ | with_reducible refine Below.drew ?_ | with_reducible refine Ext.on _ ?_ (by first | omega | (simp; done) | (simp; omega))
set_option maxHeartbeats 16000000 in
set_option maxRecDepth 100000 in
theorem sizes_law (q : Qy) (w : World) (h : QAt w q) (hc : cntQ q ≤ 2 ^ 21) (ht : OpT w) :
    Calls Tryd.prog 7 #[.agg #[.int .i64 q.p.op, .string q.p.table, .int .i64 q.p.kind, .bool q.p.all, .int .i64 q.p.cond.op, .int .i64 q.p.cond.ty, .int .i64 q.p.cond.num, .string q.p.cond.text, .int .i64 q.p.cond.col, .slice q.p.ck.a q.p.ck.len q.p.ck.cap, .slice q.p.es.a q.p.es.len q.p.es.cap, .slice q.p.gs.a q.p.gs.len q.p.gs.cap, .slice q.p.ts.a q.p.ts.len q.p.ts.cap, .slice q.p.rs.a q.p.rs.len q.p.rs.cap, .slice q.ks.a q.ks.len q.ks.cap]] w fun r w' => r = .returned (.bool true) ∧ Below w.heap.size w w' := by
  have F1 : Hid (∀ W, Below w.heap.size w W → Calls Tryd.prog 24 #[.agg #[.int .i64 q.p.op, .string q.p.table, .int .i64 q.p.kind, .bool q.p.all, .int .i64 q.p.cond.op, .int .i64 q.p.cond.ty, .int .i64 q.p.cond.num, .string q.p.cond.text, .int .i64 q.p.cond.col, .slice q.p.ck.a q.p.ck.len q.p.ck.cap, .slice q.p.es.a q.p.es.len q.p.es.cap, .slice q.p.gs.a q.p.gs.len q.p.gs.cap, .slice q.p.ts.a q.p.ts.len q.p.ts.cap, .slice q.p.rs.a q.p.rs.len q.p.rs.cap, .slice q.ks.a q.ks.len q.ks.cap]] W fun r w' => SomeB W r w') := Lib.hid (fun W hW => FewS_calls q W (h.later hW) hc)
  have C1 : Hid (∀ W, Below w.heap.size w W → Calls Tryd.prog 25 #[.agg #[.int .i64 q.p.op, .string q.p.table, .int .i64 q.p.kind, .bool q.p.all, .int .i64 q.p.cond.op, .int .i64 q.p.cond.ty, .int .i64 q.p.cond.num, .string q.p.cond.text, .int .i64 q.p.cond.col, .slice q.p.ck.a q.p.ck.len q.p.ck.cap, .slice q.p.es.a q.p.es.len q.p.es.cap, .slice q.p.gs.a q.p.gs.len q.p.gs.cap, .slice q.p.ts.a q.p.ts.len q.p.ts.cap, .slice q.p.rs.a q.p.rs.len q.p.rs.cap, .slice q.ks.a q.ks.len q.ks.cap]] W fun r w' => r = .returned (.int .i64 (szQ q : Nat)) ∧ Cls W w') := Lib.hid (fun W hW => SizeA_calls q W (h.later hW) (ht.later hW) hc)
  have C2 : Hid (∀ W, Below w.heap.size w W → Calls Tryd.prog 26 #[.agg #[.int .i64 q.p.op, .string q.p.table, .int .i64 q.p.kind, .bool q.p.all, .int .i64 q.p.cond.op, .int .i64 q.p.cond.ty, .int .i64 q.p.cond.num, .string q.p.cond.text, .int .i64 q.p.cond.col, .slice q.p.ck.a q.p.ck.len q.p.ck.cap, .slice q.p.es.a q.p.es.len q.p.es.cap, .slice q.p.gs.a q.p.gs.len q.p.gs.cap, .slice q.p.ts.a q.p.ts.len q.p.ts.cap, .slice q.p.rs.a q.p.rs.len q.p.rs.cap, .slice q.ks.a q.ks.len q.ks.cap]] W fun r w' => r = .returned (.int .i64 (szQ q : Nat)) ∧ Cls W w') := Lib.hid (fun W hW => rsizeQ_calls q W (h.later hW) hc)
  have C3 : Hid (∀ W, Below w.heap.size w W → Calls Tryd.prog 27 #[.agg #[.int .i64 q.p.op, .string q.p.table, .int .i64 q.p.kind, .bool q.p.all, .int .i64 q.p.cond.op, .int .i64 q.p.cond.ty, .int .i64 q.p.cond.num, .string q.p.cond.text, .int .i64 q.p.cond.col, .slice q.p.ck.a q.p.ck.len q.p.ck.cap, .slice q.p.es.a q.p.es.len q.p.es.cap, .slice q.p.gs.a q.p.gs.len q.p.gs.cap, .slice q.p.ts.a q.p.ts.len q.p.ts.cap, .slice q.p.rs.a q.p.rs.len q.p.rs.cap, .slice q.ks.a q.ks.len q.ks.cap]] W fun r w' => r = .returned (.int .i64 (depQ q : Nat)) ∧ Cls W w') := Lib.hid (fun W hW => Depth_calls q W (h.later hW) hc)
  have C4 : Hid (∀ W, Below w.heap.size w W → Calls Tryd.prog 28 #[.agg #[.int .i64 q.p.op, .string q.p.table, .int .i64 q.p.kind, .bool q.p.all, .int .i64 q.p.cond.op, .int .i64 q.p.cond.ty, .int .i64 q.p.cond.num, .string q.p.cond.text, .int .i64 q.p.cond.col, .slice q.p.ck.a q.p.ck.len q.p.ck.cap, .slice q.p.es.a q.p.es.len q.p.es.cap, .slice q.p.gs.a q.p.gs.len q.p.gs.cap, .slice q.p.ts.a q.p.ts.len q.p.ts.cap, .slice q.p.rs.a q.p.rs.len q.p.rs.cap, .slice q.ks.a q.ks.len q.ks.cap]] W fun r w' => r = .returned (.int .i64 (depQ q : Nat)) ∧ Cls W w') := Lib.hid (fun W hW => rDepth_calls q W (h.later hW) hc)
  have C5 : Hid (∀ W, Below w.heap.size w W → Calls Tryd.prog 30 #[.agg #[.int .i64 q.p.op, .string q.p.table, .int .i64 q.p.kind, .bool q.p.all, .int .i64 q.p.cond.op, .int .i64 q.p.cond.ty, .int .i64 q.p.cond.num, .string q.p.cond.text, .int .i64 q.p.cond.col, .slice q.p.ck.a q.p.ck.len q.p.ck.cap, .slice q.p.es.a q.p.es.len q.p.es.cap, .slice q.p.gs.a q.p.gs.len q.p.gs.cap, .slice q.p.ts.a q.p.ts.len q.p.ts.cap, .slice q.p.rs.a q.p.rs.len q.p.rs.cap, .slice q.ks.a q.ks.len q.ks.cap]] W fun r w' => ∃ s : Sl, r = .returned (.slice s.a s.len s.cap) ∧ StrsIn w' s (rtabsQ q) ∧ Cls W w') := Lib.hid (fun W hW => Tables_calls q W (h.later hW) hc)
  have C6 : Hid (∀ W, Below w.heap.size w W → Calls Tryd.prog 31 #[.agg #[.int .i64 q.p.op, .string q.p.table, .int .i64 q.p.kind, .bool q.p.all, .int .i64 q.p.cond.op, .int .i64 q.p.cond.ty, .int .i64 q.p.cond.num, .string q.p.cond.text, .int .i64 q.p.cond.col, .slice q.p.ck.a q.p.ck.len q.p.ck.cap, .slice q.p.es.a q.p.es.len q.p.es.cap, .slice q.p.gs.a q.p.gs.len q.p.gs.cap, .slice q.p.ts.a q.p.ts.len q.p.ts.cap, .slice q.p.rs.a q.p.rs.len q.p.rs.cap, .slice q.ks.a q.ks.len q.ks.cap]] W fun r w' => ∃ s : Sl, r = .returned (.slice s.a s.len s.cap) ∧ StrsIn w' s (rtabsQ q) ∧ Cls W w') := Lib.hid (fun W hW => rTables_calls q W (h.later hW) hc)
  clear h hc ht
  generalize szQ q = sz at *
  generalize depQ q = dp at *
  generalize rtabsQ q = rts at *
  generalize q.p = p at *
  generalize q.ks = ks at *
  go_enter Tryd.func7, Tryd.ntmps7
  go_wp2_with (go_at_call 24; ((with_reducible refine (F1.out _ ?_).mono ?_); (· (repeat first | with_reducible exact Below.refl _ _ | with_reducible refine Below.setCell ?_ (by first | omega | (simp; done) | (simp; omega)) _ | with_reducible refine Below.alloc ?_ (by first | omega | (simp; done) | (simp; omega)) _ | with_reducible refine Below.drew ?_ | with_reducible refine Ext.on _ ?_ (by first | omega | (simp; done) | (simp; omega)))); rintro r w2 hq; obtain ⟨c1, rfl, y1, rfl⟩ := hq; have y1s := y1.size; simp at y1s; obtain ⟨a0, _, _, _, _⟩ := y1.lts (b := w.heap.size) (by simp); cases c1))
  · go_ret
    refine ⟨ret_bool rfl, ?_⟩
    repeat first | with_reducible exact Below.refl _ _ | with_reducible refine Below.setCell ?_ (by first | omega | (simp; done) | (simp; omega)) _ | with_reducible refine Below.alloc ?_ (by first | omega | (simp; done) | (simp; omega)) _ | with_reducible refine Below.drew ?_ | with_reducible refine Ext.on _ ?_ (by first | omega | (simp; done) | (simp; omega))
  · refine wp_region_lin (by kernel_rfl) (by kernel_rfl) ?_
    intro y0
    as_aux_lemma =>
      repeat (refine lin_calm rfl ?_; intro KK hKK; go_big_quiet_step (fail); refine wpQuiet_nil ?_; refine hKK _ ?_; clear hKK KK)
      refine lin_free rfl ?_
      intro KK hKK
      go_wp2_with ((go_at_call 25; ((with_reducible refine (C1.out _ ?_).mono ?_); (· (repeat first | with_reducible exact Below.refl _ _ | with_reducible refine Below.setCell ?_ (by first | omega | (simp; done) | (simp; omega)) _ | with_reducible refine Below.alloc ?_ (by first | omega | (simp; done) | (simp; omega)) _ | with_reducible refine Below.drew ?_ | with_reducible refine Ext.on _ ?_ (by first | omega | (simp; done) | (simp; omega)))); rintro r wn hq; obtain ⟨rfl, hcz1⟩ := hq; obtain ⟨z1, rfl⟩ := Cls.step _ hcz1; clear hcz1)))
      refine hKK _ _ (.inr ⟨z1, rfl⟩) ?_
      clear hKK KK
      repeat (refine lin_calm rfl ?_; intro KK hKK; go_big_quiet_step (fail); refine wpQuiet_nil ?_; refine hKK _ ?_; clear hKK KK)
      refine lin_free rfl ?_
      intro KK hKK
      go_wp2_with ((go_at_call 26; ((with_reducible refine (C2.out _ ?_).mono ?_); (· (repeat first | with_reducible exact Below.refl _ _ | with_reducible refine Below.setCell ?_ (by first | omega | (simp; done) | (simp; omega)) _ | with_reducible refine Below.alloc ?_ (by first | omega | (simp; done) | (simp; omega)) _ | with_reducible refine Below.drew ?_ | with_reducible refine Ext.on _ ?_ (by first | omega | (simp; done) | (simp; omega)))); rintro r wn hq; obtain ⟨rfl, hcz2⟩ := hq; obtain ⟨z2, rfl⟩ := Cls.step _ hcz2; clear hcz2)))
      refine hKK _ _ (.inr ⟨z2, rfl⟩) ?_
      clear hKK KK
      repeat (refine lin_calm rfl ?_; intro KK hKK; go_big_quiet_step (fail); refine wpQuiet_nil ?_; refine hKK _ ?_; clear hKK KK)
      refine lin_free rfl ?_
      intro KK hKK
      go_wp2_with ((go_at_call 27; ((with_reducible refine (C3.out _ ?_).mono ?_); (· (repeat first | with_reducible exact Below.refl _ _ | with_reducible refine Below.setCell ?_ (by first | omega | (simp; done) | (simp; omega)) _ | with_reducible refine Below.alloc ?_ (by first | omega | (simp; done) | (simp; omega)) _ | with_reducible refine Below.drew ?_ | with_reducible refine Ext.on _ ?_ (by first | omega | (simp; done) | (simp; omega)))); rintro r wn hq; obtain ⟨rfl, hcz3⟩ := hq; obtain ⟨z3, rfl⟩ := Cls.step _ hcz3; clear hcz3)))
      refine hKK _ _ (.inr ⟨z3, rfl⟩) ?_
      clear hKK KK
      repeat (refine lin_calm rfl ?_; intro KK hKK; go_big_quiet_step (fail); refine wpQuiet_nil ?_; refine hKK _ ?_; clear hKK KK)
      refine lin_free rfl ?_
      intro KK hKK
      go_wp2_with ((go_at_call 28; ((with_reducible refine (C4.out _ ?_).mono ?_); (· (repeat first | with_reducible exact Below.refl _ _ | with_reducible refine Below.setCell ?_ (by first | omega | (simp; done) | (simp; omega)) _ | with_reducible refine Below.alloc ?_ (by first | omega | (simp; done) | (simp; omega)) _ | with_reducible refine Below.drew ?_ | with_reducible refine Ext.on _ ?_ (by first | omega | (simp; done) | (simp; omega)))); rintro r wn hq; obtain ⟨rfl, hcz4⟩ := hq; obtain ⟨z4, rfl⟩ := Cls.step _ hcz4; clear hcz4)))
      refine hKK _ _ (.inr ⟨z4, rfl⟩) ?_
      clear hKK KK
      repeat (refine lin_calm rfl ?_; intro KK hKK; go_big_quiet_step (fail); refine wpQuiet_nil ?_; refine hKK _ ?_; clear hKK KK)
      refine lin_free rfl ?_
      intro KK hKK
      go_wp2_with ((go_at_call 30; ((with_reducible refine (C5.out _ ?_).mono ?_); (· (repeat first | with_reducible exact Below.refl _ _ | with_reducible refine Below.setCell ?_ (by first | omega | (simp; done) | (simp; omega)) _ | with_reducible refine Below.alloc ?_ (by first | omega | (simp; done) | (simp; omega)) _ | with_reducible refine Below.drew ?_ | with_reducible refine Ext.on _ ?_ (by first | omega | (simp; done) | (simp; omega)))); rintro r wn hq; obtain ⟨s1, rfl, hs1, hc5⟩ := hq; have HS1 := Lib.hid hs1; obtain ⟨z5, rfl⟩ := Cls.step _ hc5; clear hs1 hc5)))
      refine hKK _ _ (.inr ⟨z5, rfl⟩) ?_
      clear hKK KK
      repeat (refine lin_calm rfl ?_; intro KK hKK; go_big_quiet_step (fail); refine wpQuiet_nil ?_; refine hKK _ ?_; clear hKK KK)
      refine lin_free rfl ?_
      intro KK hKK
      go_wp2_with ((go_at_call 31; ((with_reducible refine (C6.out _ ?_).mono ?_); (· (repeat first | with_reducible exact Below.refl _ _ | with_reducible refine Below.setCell ?_ (by first | omega | (simp; done) | (simp; omega)) _ | with_reducible refine Below.alloc ?_ (by first | omega | (simp; done) | (simp; omega)) _ | with_reducible refine Below.drew ?_ | with_reducible refine Ext.on _ ?_ (by first | omega | (simp; done) | (simp; omega)))); rintro r wn hq; obtain ⟨s2, rfl, hs2, hc6⟩ := hq; have HS2 := Lib.hid hs2; have HS1b := Lib.hid (HS1.out.later hc6.below); obtain ⟨z6, rfl⟩ := Cls.step _ hc6; clear hs2 hc6)))
      refine hKK _ _ (.inr ⟨z6, rfl⟩) ?_
      clear hKK KK
      repeat (refine lin_calm rfl ?_; intro KK hKK; go_big_quiet_step (fail); refine wpQuiet_nil ?_; refine hKK _ ?_; clear hKK KK)
      refine lin_free rfl ?_
      intro KK hKK
      go_wp2_with ((go_at_call 29; ((with_reducible refine (wordsS_calls s1 s2 rts _ HS1b.out HS2.out).mono ?_); rintro r wn hq; obtain ⟨rfl, hc7⟩ := hq; obtain ⟨z7, rfl⟩ := Cls.step _ hc7; clear hc7)))
      refine hKK _ _ (.inr ⟨z7, rfl⟩) ?_
      clear hKK KK
      repeat (refine lin_calm rfl ?_; intro KK hKK; go_big_quiet_step (fail); refine wpQuiet_nil ?_; refine hKK _ ?_; clear hKK KK)
      refine lin_nil ?_
      go_wp2_with fail
      go_ret
      refine ⟨ret_bool ?_, ?_⟩
      · simp
      · repeat first | with_reducible exact Below.refl _ _ | with_reducible refine Below.setCell ?_ (by first | omega | (simp; done) | (simp; omega)) _ | with_reducible refine Below.alloc ?_ (by first | omega | (simp; done) | (simp; omega)) _ | with_reducible refine Below.drew ?_ | with_reducible refine Ext.on _ ?_ (by first | omega | (simp; done) | (simp; omega))
theorem algebraSizes_walk (q : Qy) (w : World) (h : QAt w q) (hc : cntQ q ≤ 2 ^ 21) (ht : OpT w) :
    Calls Tryd.prog 7 #[.agg q.cells.toArray] w fun r w' => r = .returned (.bool true) ∧ Below w.heap.size w w' := sizes_law q w h hc ht
end Go.Proofs.YtonnbmiallammaaDoor
