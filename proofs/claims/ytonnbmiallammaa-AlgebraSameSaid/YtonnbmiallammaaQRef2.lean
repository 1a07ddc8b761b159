/-
  When two queries are equal, as the reference has it: the step from the Kids, and all queries.
-/
import Derived.Test.YtonnbmiallammaaQRef
set_option linter.unusedVariables false
namespace Go.Proofs.Ytonnbmiallammaa
open Go Go.RowKit Go.Deep
def RSameQOf (q : Qy) : Prop := ∀ (q' : Qy) (w : World), QAt w q → QAt w q' → Calls Try.prog 19 #[.agg #[.int .i64 q.p.op, .string q.p.table, .int .i64 q.p.kind, .bool q.p.all, .int .i64 q.p.cond.op, .int .i64 q.p.cond.ty, .int .i64 q.p.cond.num, .string q.p.cond.text, .int .i64 q.p.cond.col, .slice q.p.ck.a q.p.ck.len q.p.ck.cap, .slice q.p.es.a q.p.es.len q.p.es.cap, .slice q.p.gs.a q.p.gs.len q.p.gs.cap, .slice q.p.ts.a q.p.ts.len q.p.ts.cap, .slice q.p.rs.a q.p.rs.len q.p.rs.cap, .slice q.ks.a q.ks.len q.ks.cap], .agg #[.int .i64 q'.p.op, .string q'.p.table, .int .i64 q'.p.kind, .bool q'.p.all, .int .i64 q'.p.cond.op, .int .i64 q'.p.cond.ty, .int .i64 q'.p.cond.num, .string q'.p.cond.text, .int .i64 q'.p.cond.col, .slice q'.p.ck.a q'.p.ck.len q'.p.ck.cap, .slice q'.p.es.a q'.p.es.len q'.p.es.cap, .slice q'.p.gs.a q'.p.gs.len q'.p.gs.cap, .slice q'.p.ts.a q'.p.ts.len q'.p.ts.cap, .slice q'.p.rs.a q'.p.rs.len q'.p.rs.cap, .slice q'.ks.a q'.ks.len q'.ks.cap]] w fun r w' => r = .returned (.bool (sameQ q q')) ∧ Cls w w'
set_option maxHeartbeats 16000000 in
set_option maxRecDepth 20000 in
theorem rSameQ_step (p : Qr) (ks : Sl) (kid : Nat → Qy) (ih : ∀ i, RSameQOf (kid i)) : RSameQOf (.mk p ks kid) := by
  intro q' w h h'
  cases h' with
  | mk p' ks' kid' hp' hq' hkid' =>
  have hp := h.part
  have hq := h.slice
  have hkid := h.kid
  simp only [Qy.p, Qy.ks, Qy.kid] at hp hq hkid ⊢
  clear h
  have HS : Hid (sameQ (.mk p ks kid) (.mk p' ks' kid') = (partQ p p' && lenAll ks.len ks'.len (fun i => sameQ (kid i) (kid' i)))) := Lib.hid rfl
  have HP : Hid (partQ p p' = (decide (p.op = p'.op) && decide (p.table.toList = p'.table.toList) && decide (p.kind = p'.kind) && decide (p.all = p'.all) && condB p p' && exprB p p' && aggB p p' && typB p p' && rowsB p p')) := Lib.hid rfl
  have CC : Hid (∀ W, Below w.heap.size w W → Calls Try.prog 11 #[.agg #[.int .i64 p.cond.op, .int .i64 p.cond.ty, .int .i64 p.cond.num, .string p.cond.text, .int .i64 p.cond.col, .slice p.ck.a p.ck.len p.ck.cap], .agg #[.int .i64 p'.cond.op, .int .i64 p'.cond.ty, .int .i64 p'.cond.num, .string p'.cond.text, .int .i64 p'.cond.col, .slice p'.ck.a p'.ck.len p'.ck.cap]] W fun r w' => r = .returned (.bool (condB p p')) ∧ Cls W w') := Lib.hid (fun W hW => rSame_calls p.cond p'.cond _ _ _ _ _ _ _ _ W (hp.condk.later hW) (hp'.condk.later hW))
  have CX : Hid (∀ W, Below w.heap.size w W → Calls Try.prog 39 #[.slice p.es.a p.es.len p.es.cap, .slice p'.es.a p'.es.len p'.es.cap] W fun r w' => r = .returned (.bool (exprB p p')) ∧ Cls W w') := Lib.hid (fun W hW => rExprs_calls _ _ _ _ _ _ _ _ _ _ W (hp.exprs.later hW) (hp'.exprs.later hW))
  have CT : Hid (∀ W, Below w.heap.size w W → Calls Try.prog 40 #[.slice p.ts.a p.ts.len p.ts.cap, .slice p'.ts.a p'.ts.len p'.ts.cap] W fun r w' => r = .returned (.bool (typB p p')) ∧ Cls W w') := Lib.hid (fun W hW => rInts_calls _ _ _ _ W (hp.later hW).types (hp'.later hW).types)
  have HA : Hid (aggB p p' = lenAll p.gs.len p'.gs.len fun i => sameG (p.agg i) (p'.agg i)) := Lib.hid rfl
  have HW : Hid (rowsB p p' = lenAll p.rs.len p'.rs.len fun i => lenAll (p.row i).len (p'.row i).len fun k => sameV (p.val i k) (p'.val i k)) := Lib.hid rfl
  generalize partQ p p' = pq at *
  generalize condB p p' = bc at *
  generalize exprB p p' = bx at *
  generalize typB p p' = bt at *
  generalize aggB p p' = bg at *
  generalize rowsB p p' = br at *
  generalize sameQ (.mk p ks kid) (.mk p' ks' kid') = sq at *
  obtain ⟨xop, xtable, xkind, xall, xcond, xck, ⟨xea, xen, xec⟩, xexprs, ⟨xga, xgn, xgc⟩, xagg, ⟨xta, xtn, xtc⟩, xtyp, ⟨xra, xrn, xrc⟩, xrow, xval⟩ := p
  obtain ⟨xka, xkn, xkc⟩ := ks
  obtain ⟨yop, ytable, ykind, yall, ycond, yck, ⟨yea, yen, yec⟩, yexprs, ⟨yga, ygn, ygc⟩, yagg, ⟨yta, ytn, ytc⟩, ytyp, ⟨yra, yrn, yrc⟩, yrow, yval⟩ := p'
  obtain ⟨yka, ykn, ykc⟩ := ks'
  have HAG : Hid (SlAt w 7 ⟨xga, xgn, xgc⟩ fun i => (xagg i).cells) := Lib.hid hp.aggs
  have HAG' : Hid (SlAt w 7 ⟨yga, ygn, ygc⟩ fun i => (yagg i).cells) := Lib.hid hp'.aggs
  have HAA : Hid (∀ i, i < xgn → AgAt w (xagg i)) := Lib.hid hp.agg
  have HAA' : Hid (∀ i, i < ygn → AgAt w (yagg i)) := Lib.hid hp'.agg
  have HRW : Hid (SlAt w 1 ⟨xra, xrn, xrc⟩ fun i => [(xrow i).v]) := Lib.hid hp.rows
  have HRW' : Hid (SlAt w 1 ⟨yra, yrn, yrc⟩ fun i => [(yrow i).v]) := Lib.hid hp'.rows
  have HRV : Hid (∀ i, i < xrn → SlAt w 3 (xrow i) fun j => (xval i j).cells) := Lib.hid hp.vals
  have HRV' : Hid (∀ i, i < yrn → SlAt w 3 (yrow i) fun j => (yval i j).cells) := Lib.hid hp'.vals
  have HKD : Hid (SlAt w 15 ⟨xka, xkn, xkc⟩ fun i => (kid i).cells) := Lib.hid hq
  have HKD' : Hid (SlAt w 15 ⟨yka, ykn, ykc⟩ fun i => (kid' i).cells) := Lib.hid hq'
  have HKA : Hid (∀ i, i < xkn → QAt w (kid i)) := Lib.hid hkid
  have HKA' : Hid (∀ i, i < ykn → QAt w (kid' i)) := Lib.hid hkid'
  have HI := Lib.hid ih
  have m1 : xgn ≤ maxLen := Nat.le_trans HAG.out.1 HAG.out.2.1
  have m2 : ygn ≤ maxLen := Nat.le_trans HAG'.out.1 HAG'.out.2.1
  have m3 : xrn ≤ maxLen := Nat.le_trans HRW.out.1 HRW.out.2.1
  have m4 : yrn ≤ maxLen := Nat.le_trans HRW'.out.1 HRW'.out.2.1
  have m5 : xkn ≤ maxLen := Nat.le_trans HKD.out.1 HKD.out.2.1
  have m6 : ykn ≤ maxLen := Nat.le_trans HKD'.out.1 HKD'.out.2.1
  unfold maxLen at m1 m2 m3 m4 m5 m6
  simp only at CC CX CT HP HA HW HS
  clear hp hp' hq hq' hkid hkid' ih
  by_cases g0 : xop = yop
  rotate_left
  · have b0 : (xop != yop) = true := by simp [g0]
    have HR : Hid (sq = false) := Lib.hid (by rw [HS.out, HP.out]; simp [g0])
    clear HS HP HA HW g0
    go_enter Try.func19, Try.ntmps19
    go_wp2_with (first | (go_at_call 11; ((with_reducible refine (CC.out _ ?_).mono ?_); (· (repeat first | with_reducible exact Below.refl _ _ | with_reducible refine Below.setCell ?_ (by first | omega | (simp; done) | (simp; omega)) _ | with_reducible refine Below.alloc ?_ (by first | omega | (simp; done) | (simp; omega)) _ | with_reducible refine Below.drew ?_ | with_reducible refine Ext.on _ ?_ (by first | omega | (simp; done) | (simp; omega)))); rintro r _ ⟨rfl, y1, rfl⟩; obtain ⟨a0, _, _, _, _⟩ := y1.lts (b := w.heap.size) (by simp; omega); obtain ⟨d0, _, _, _, _⟩ := y1.lts (b := w.heap.size + 1) (by simp))) | (go_at_call 39; ((with_reducible refine (CX.out _ ?_).mono ?_); (· (repeat first | with_reducible exact Below.refl _ _ | with_reducible refine Below.setCell ?_ (by first | omega | (simp; done) | (simp; omega)) _ | with_reducible refine Below.alloc ?_ (by first | omega | (simp; done) | (simp; omega)) _ | with_reducible refine Below.drew ?_ | with_reducible refine Ext.on _ ?_ (by first | omega | (simp; done) | (simp; omega)))); rintro r _ ⟨rfl, y2, rfl⟩; obtain ⟨a1, _, _, _, _⟩ := y2.lts a0; obtain ⟨d1, _, _, _, _⟩ := y2.lts d0)) | (go_at_call 40; ((with_reducible refine (CT.out _ ?_).mono ?_); (· (repeat first | with_reducible exact Below.refl _ _ | with_reducible refine Below.setCell ?_ (by first | omega | (simp; done) | (simp; omega)) _ | with_reducible refine Below.alloc ?_ (by first | omega | (simp; done) | (simp; omega)) _ | with_reducible refine Below.drew ?_ | with_reducible refine Ext.on _ ?_ (by first | omega | (simp; done) | (simp; omega)))); rintro r _ ⟨rfl, y3, rfl⟩; obtain ⟨a2, _, _, _, _⟩ := y3.lts a1; obtain ⟨d2, _, _, _, _⟩ := y3.lts d1)))
    go_ret
    refine ⟨ret_bool HR.out.symm, Cls.of ?_⟩
    repeat first | with_reducible exact Below.refl _ _ | with_reducible refine Below.setCell ?_ (by first | omega | (simp; done) | (simp; omega)) _ | with_reducible refine Below.alloc ?_ (by first | omega | (simp; done) | (simp; omega)) _ | with_reducible refine Below.drew ?_ | with_reducible refine Ext.on _ ?_ (by first | omega | (simp; done) | (simp; omega))
  · have b0 : (xop != yop) = false := by simp [g0]
    by_cases g1 : xtable.toList = ytable.toList
    rotate_left
    · have HR : Hid (sq = false) := Lib.hid (by rw [HS.out, HP.out]; simp [g0, g1])
      clear HS HP HA HW g0
      go_enter Try.func19, Try.ntmps19
      go_wp2_with (first | (go_at_call 11; ((with_reducible refine (CC.out _ ?_).mono ?_); (· (repeat first | with_reducible exact Below.refl _ _ | with_reducible refine Below.setCell ?_ (by first | omega | (simp; done) | (simp; omega)) _ | with_reducible refine Below.alloc ?_ (by first | omega | (simp; done) | (simp; omega)) _ | with_reducible refine Below.drew ?_ | with_reducible refine Ext.on _ ?_ (by first | omega | (simp; done) | (simp; omega)))); rintro r _ ⟨rfl, y1, rfl⟩; obtain ⟨a0, _, _, _, _⟩ := y1.lts (b := w.heap.size) (by simp; omega); obtain ⟨d0, _, _, _, _⟩ := y1.lts (b := w.heap.size + 1) (by simp))) | (go_at_call 39; ((with_reducible refine (CX.out _ ?_).mono ?_); (· (repeat first | with_reducible exact Below.refl _ _ | with_reducible refine Below.setCell ?_ (by first | omega | (simp; done) | (simp; omega)) _ | with_reducible refine Below.alloc ?_ (by first | omega | (simp; done) | (simp; omega)) _ | with_reducible refine Below.drew ?_ | with_reducible refine Ext.on _ ?_ (by first | omega | (simp; done) | (simp; omega)))); rintro r _ ⟨rfl, y2, rfl⟩; obtain ⟨a1, _, _, _, _⟩ := y2.lts a0; obtain ⟨d1, _, _, _, _⟩ := y2.lts d0)) | (go_at_call 40; ((with_reducible refine (CT.out _ ?_).mono ?_); (· (repeat first | with_reducible exact Below.refl _ _ | with_reducible refine Below.setCell ?_ (by first | omega | (simp; done) | (simp; omega)) _ | with_reducible refine Below.alloc ?_ (by first | omega | (simp; done) | (simp; omega)) _ | with_reducible refine Below.drew ?_ | with_reducible refine Ext.on _ ?_ (by first | omega | (simp; done) | (simp; omega)))); rintro r _ ⟨rfl, y3, rfl⟩; obtain ⟨a2, _, _, _, _⟩ := y3.lts a1; obtain ⟨d2, _, _, _, _⟩ := y3.lts d1)))
      go_ret
      refine ⟨ret_bool HR.out.symm, Cls.of ?_⟩
      repeat first | with_reducible exact Below.refl _ _ | with_reducible refine Below.setCell ?_ (by first | omega | (simp; done) | (simp; omega)) _ | with_reducible refine Below.alloc ?_ (by first | omega | (simp; done) | (simp; omega)) _ | with_reducible refine Below.drew ?_ | with_reducible refine Ext.on _ ?_ (by first | omega | (simp; done) | (simp; omega))
    · by_cases g2 : xkind = ykind
      rotate_left
      · have b2 : (xkind != ykind) = true := by simp [g2]
        have HR : Hid (sq = false) := Lib.hid (by rw [HS.out, HP.out]; simp [g0, g1, g2])
        clear HS HP HA HW g0 g2
        go_enter Try.func19, Try.ntmps19
        go_wp2_with (first | (go_at_call 11; ((with_reducible refine (CC.out _ ?_).mono ?_); (· (repeat first | with_reducible exact Below.refl _ _ | with_reducible refine Below.setCell ?_ (by first | omega | (simp; done) | (simp; omega)) _ | with_reducible refine Below.alloc ?_ (by first | omega | (simp; done) | (simp; omega)) _ | with_reducible refine Below.drew ?_ | with_reducible refine Ext.on _ ?_ (by first | omega | (simp; done) | (simp; omega)))); rintro r _ ⟨rfl, y1, rfl⟩; obtain ⟨a0, _, _, _, _⟩ := y1.lts (b := w.heap.size) (by simp; omega); obtain ⟨d0, _, _, _, _⟩ := y1.lts (b := w.heap.size + 1) (by simp))) | (go_at_call 39; ((with_reducible refine (CX.out _ ?_).mono ?_); (· (repeat first | with_reducible exact Below.refl _ _ | with_reducible refine Below.setCell ?_ (by first | omega | (simp; done) | (simp; omega)) _ | with_reducible refine Below.alloc ?_ (by first | omega | (simp; done) | (simp; omega)) _ | with_reducible refine Below.drew ?_ | with_reducible refine Ext.on _ ?_ (by first | omega | (simp; done) | (simp; omega)))); rintro r _ ⟨rfl, y2, rfl⟩; obtain ⟨a1, _, _, _, _⟩ := y2.lts a0; obtain ⟨d1, _, _, _, _⟩ := y2.lts d0)) | (go_at_call 40; ((with_reducible refine (CT.out _ ?_).mono ?_); (· (repeat first | with_reducible exact Below.refl _ _ | with_reducible refine Below.setCell ?_ (by first | omega | (simp; done) | (simp; omega)) _ | with_reducible refine Below.alloc ?_ (by first | omega | (simp; done) | (simp; omega)) _ | with_reducible refine Below.drew ?_ | with_reducible refine Ext.on _ ?_ (by first | omega | (simp; done) | (simp; omega)))); rintro r _ ⟨rfl, y3, rfl⟩; obtain ⟨a2, _, _, _, _⟩ := y3.lts a1; obtain ⟨d2, _, _, _, _⟩ := y3.lts d1)))
        go_ret
        refine ⟨ret_bool HR.out.symm, Cls.of ?_⟩
        repeat first | with_reducible exact Below.refl _ _ | with_reducible refine Below.setCell ?_ (by first | omega | (simp; done) | (simp; omega)) _ | with_reducible refine Below.alloc ?_ (by first | omega | (simp; done) | (simp; omega)) _ | with_reducible refine Below.drew ?_ | with_reducible refine Ext.on _ ?_ (by first | omega | (simp; done) | (simp; omega))
      · have b2 : (xkind != ykind) = false := by simp [g2]
        by_cases g3 : xall = yall
        rotate_left
        · have HR : Hid (sq = false) := Lib.hid (by rw [HS.out, HP.out]; simp [g0, g1, g2, g3])
          clear HS HP HA HW g0 g2
          cases xall <;> cases yall
          all_goals first
            | exact absurd rfl g3
            | (clear g3
               go_enter Try.func19, Try.ntmps19
               go_wp2_with (first | (go_at_call 11; ((with_reducible refine (CC.out _ ?_).mono ?_); (· (repeat first | with_reducible exact Below.refl _ _ | with_reducible refine Below.setCell ?_ (by first | omega | (simp; done) | (simp; omega)) _ | with_reducible refine Below.alloc ?_ (by first | omega | (simp; done) | (simp; omega)) _ | with_reducible refine Below.drew ?_ | with_reducible refine Ext.on _ ?_ (by first | omega | (simp; done) | (simp; omega)))); rintro r _ ⟨rfl, y1, rfl⟩; obtain ⟨a0, _, _, _, _⟩ := y1.lts (b := w.heap.size) (by simp; omega); obtain ⟨d0, _, _, _, _⟩ := y1.lts (b := w.heap.size + 1) (by simp))) | (go_at_call 39; ((with_reducible refine (CX.out _ ?_).mono ?_); (· (repeat first | with_reducible exact Below.refl _ _ | with_reducible refine Below.setCell ?_ (by first | omega | (simp; done) | (simp; omega)) _ | with_reducible refine Below.alloc ?_ (by first | omega | (simp; done) | (simp; omega)) _ | with_reducible refine Below.drew ?_ | with_reducible refine Ext.on _ ?_ (by first | omega | (simp; done) | (simp; omega)))); rintro r _ ⟨rfl, y2, rfl⟩; obtain ⟨a1, _, _, _, _⟩ := y2.lts a0; obtain ⟨d1, _, _, _, _⟩ := y2.lts d0)) | (go_at_call 40; ((with_reducible refine (CT.out _ ?_).mono ?_); (· (repeat first | with_reducible exact Below.refl _ _ | with_reducible refine Below.setCell ?_ (by first | omega | (simp; done) | (simp; omega)) _ | with_reducible refine Below.alloc ?_ (by first | omega | (simp; done) | (simp; omega)) _ | with_reducible refine Below.drew ?_ | with_reducible refine Ext.on _ ?_ (by first | omega | (simp; done) | (simp; omega)))); rintro r _ ⟨rfl, y3, rfl⟩; obtain ⟨a2, _, _, _, _⟩ := y3.lts a1; obtain ⟨d2, _, _, _, _⟩ := y3.lts d1)))
               go_ret
               refine ⟨ret_bool HR.out.symm, Cls.of ?_⟩
               repeat first | with_reducible exact Below.refl _ _ | with_reducible refine Below.setCell ?_ (by first | omega | (simp; done) | (simp; omega)) _ | with_reducible refine Below.alloc ?_ (by first | omega | (simp; done) | (simp; omega)) _ | with_reducible refine Below.drew ?_ | with_reducible refine Ext.on _ ?_ (by first | omega | (simp; done) | (simp; omega)))
        · subst g3
          cases bc
          · have HR : Hid (sq = false) := Lib.hid (by rw [HS.out, HP.out]; simp [g0, g1, g2])
            clear HS HP HA HW g0 g2
            go_enter Try.func19, Try.ntmps19
            go_wp2_with (first | (go_at_call 11; ((with_reducible refine (CC.out _ ?_).mono ?_); (· (repeat first | with_reducible exact Below.refl _ _ | with_reducible refine Below.setCell ?_ (by first | omega | (simp; done) | (simp; omega)) _ | with_reducible refine Below.alloc ?_ (by first | omega | (simp; done) | (simp; omega)) _ | with_reducible refine Below.drew ?_ | with_reducible refine Ext.on _ ?_ (by first | omega | (simp; done) | (simp; omega)))); rintro r _ ⟨rfl, y1, rfl⟩; obtain ⟨a0, _, _, _, _⟩ := y1.lts (b := w.heap.size) (by simp; omega); obtain ⟨d0, _, _, _, _⟩ := y1.lts (b := w.heap.size + 1) (by simp))) | (go_at_call 39; ((with_reducible refine (CX.out _ ?_).mono ?_); (· (repeat first | with_reducible exact Below.refl _ _ | with_reducible refine Below.setCell ?_ (by first | omega | (simp; done) | (simp; omega)) _ | with_reducible refine Below.alloc ?_ (by first | omega | (simp; done) | (simp; omega)) _ | with_reducible refine Below.drew ?_ | with_reducible refine Ext.on _ ?_ (by first | omega | (simp; done) | (simp; omega)))); rintro r _ ⟨rfl, y2, rfl⟩; obtain ⟨a1, _, _, _, _⟩ := y2.lts a0; obtain ⟨d1, _, _, _, _⟩ := y2.lts d0)) | (go_at_call 40; ((with_reducible refine (CT.out _ ?_).mono ?_); (· (repeat first | with_reducible exact Below.refl _ _ | with_reducible refine Below.setCell ?_ (by first | omega | (simp; done) | (simp; omega)) _ | with_reducible refine Below.alloc ?_ (by first | omega | (simp; done) | (simp; omega)) _ | with_reducible refine Below.drew ?_ | with_reducible refine Ext.on _ ?_ (by first | omega | (simp; done) | (simp; omega)))); rintro r _ ⟨rfl, y3, rfl⟩; obtain ⟨a2, _, _, _, _⟩ := y3.lts a1; obtain ⟨d2, _, _, _, _⟩ := y3.lts d1)))
            go_ret
            refine ⟨ret_bool HR.out.symm, Cls.of ?_⟩
            repeat first | with_reducible exact Below.refl _ _ | with_reducible refine Below.setCell ?_ (by first | omega | (simp; done) | (simp; omega)) _ | with_reducible refine Below.alloc ?_ (by first | omega | (simp; done) | (simp; omega)) _ | with_reducible refine Below.drew ?_ | with_reducible refine Ext.on _ ?_ (by first | omega | (simp; done) | (simp; omega))
          · cases bx
            · have HR : Hid (sq = false) := Lib.hid (by rw [HS.out, HP.out]; simp [g0, g1, g2])
              clear HS HP HA HW g0 g2
              go_enter Try.func19, Try.ntmps19
              go_wp2_with (first | (go_at_call 11; ((with_reducible refine (CC.out _ ?_).mono ?_); (· (repeat first | with_reducible exact Below.refl _ _ | with_reducible refine Below.setCell ?_ (by first | omega | (simp; done) | (simp; omega)) _ | with_reducible refine Below.alloc ?_ (by first | omega | (simp; done) | (simp; omega)) _ | with_reducible refine Below.drew ?_ | with_reducible refine Ext.on _ ?_ (by first | omega | (simp; done) | (simp; omega)))); rintro r _ ⟨rfl, y1, rfl⟩; obtain ⟨a0, _, _, _, _⟩ := y1.lts (b := w.heap.size) (by simp; omega); obtain ⟨d0, _, _, _, _⟩ := y1.lts (b := w.heap.size + 1) (by simp))) | (go_at_call 39; ((with_reducible refine (CX.out _ ?_).mono ?_); (· (repeat first | with_reducible exact Below.refl _ _ | with_reducible refine Below.setCell ?_ (by first | omega | (simp; done) | (simp; omega)) _ | with_reducible refine Below.alloc ?_ (by first | omega | (simp; done) | (simp; omega)) _ | with_reducible refine Below.drew ?_ | with_reducible refine Ext.on _ ?_ (by first | omega | (simp; done) | (simp; omega)))); rintro r _ ⟨rfl, y2, rfl⟩; obtain ⟨a1, _, _, _, _⟩ := y2.lts a0; obtain ⟨d1, _, _, _, _⟩ := y2.lts d0)) | (go_at_call 40; ((with_reducible refine (CT.out _ ?_).mono ?_); (· (repeat first | with_reducible exact Below.refl _ _ | with_reducible refine Below.setCell ?_ (by first | omega | (simp; done) | (simp; omega)) _ | with_reducible refine Below.alloc ?_ (by first | omega | (simp; done) | (simp; omega)) _ | with_reducible refine Below.drew ?_ | with_reducible refine Ext.on _ ?_ (by first | omega | (simp; done) | (simp; omega)))); rintro r _ ⟨rfl, y3, rfl⟩; obtain ⟨a2, _, _, _, _⟩ := y3.lts a1; obtain ⟨d2, _, _, _, _⟩ := y3.lts d1)))
              go_ret
              refine ⟨ret_bool HR.out.symm, Cls.of ?_⟩
              repeat first | with_reducible exact Below.refl _ _ | with_reducible refine Below.setCell ?_ (by first | omega | (simp; done) | (simp; omega)) _ | with_reducible refine Below.alloc ?_ (by first | omega | (simp; done) | (simp; omega)) _ | with_reducible refine Below.drew ?_ | with_reducible refine Ext.on _ ?_ (by first | omega | (simp; done) | (simp; omega))
            · cases bt
              · have HR : Hid (sq = false) := Lib.hid (by rw [HS.out, HP.out]; simp [g0, g1, g2])
                clear HS HP HA HW g0 g2
                go_enter Try.func19, Try.ntmps19
                go_wp2_with (first | (go_at_call 11; ((with_reducible refine (CC.out _ ?_).mono ?_); (· (repeat first | with_reducible exact Below.refl _ _ | with_reducible refine Below.setCell ?_ (by first | omega | (simp; done) | (simp; omega)) _ | with_reducible refine Below.alloc ?_ (by first | omega | (simp; done) | (simp; omega)) _ | with_reducible refine Below.drew ?_ | with_reducible refine Ext.on _ ?_ (by first | omega | (simp; done) | (simp; omega)))); rintro r _ ⟨rfl, y1, rfl⟩; obtain ⟨a0, _, _, _, _⟩ := y1.lts (b := w.heap.size) (by simp; omega); obtain ⟨d0, _, _, _, _⟩ := y1.lts (b := w.heap.size + 1) (by simp))) | (go_at_call 39; ((with_reducible refine (CX.out _ ?_).mono ?_); (· (repeat first | with_reducible exact Below.refl _ _ | with_reducible refine Below.setCell ?_ (by first | omega | (simp; done) | (simp; omega)) _ | with_reducible refine Below.alloc ?_ (by first | omega | (simp; done) | (simp; omega)) _ | with_reducible refine Below.drew ?_ | with_reducible refine Ext.on _ ?_ (by first | omega | (simp; done) | (simp; omega)))); rintro r _ ⟨rfl, y2, rfl⟩; obtain ⟨a1, _, _, _, _⟩ := y2.lts a0; obtain ⟨d1, _, _, _, _⟩ := y2.lts d0)) | (go_at_call 40; ((with_reducible refine (CT.out _ ?_).mono ?_); (· (repeat first | with_reducible exact Below.refl _ _ | with_reducible refine Below.setCell ?_ (by first | omega | (simp; done) | (simp; omega)) _ | with_reducible refine Below.alloc ?_ (by first | omega | (simp; done) | (simp; omega)) _ | with_reducible refine Below.drew ?_ | with_reducible refine Ext.on _ ?_ (by first | omega | (simp; done) | (simp; omega)))); rintro r _ ⟨rfl, y3, rfl⟩; obtain ⟨a2, _, _, _, _⟩ := y3.lts a1; obtain ⟨d2, _, _, _, _⟩ := y3.lts d1)))
                go_ret
                refine ⟨ret_bool HR.out.symm, Cls.of ?_⟩
                repeat first | with_reducible exact Below.refl _ _ | with_reducible refine Below.setCell ?_ (by first | omega | (simp; done) | (simp; omega)) _ | with_reducible refine Below.alloc ?_ (by first | omega | (simp; done) | (simp; omega)) _ | with_reducible refine Below.drew ?_ | with_reducible refine Ext.on _ ?_ (by first | omega | (simp; done) | (simp; omega))
              · by_cases l0 : xgn = ygn
                rotate_left
                · have c0 : ((xgn : Int) != (ygn : Int)) = true := by simp; omega
                  have hbg : bg = false := by rw [HA.out]; exact if_neg l0
                  have HR : Hid (sq = false) := Lib.hid (by rw [HS.out, HP.out]; simp [g0, g1, g2, hbg])
                  clear HS HP HA HW g0 g2 hbg l0
                  go_enter Try.func19, Try.ntmps19
                  go_wp2_with (first | (go_at_call 11; ((with_reducible refine (CC.out _ ?_).mono ?_); (· (repeat first | with_reducible exact Below.refl _ _ | with_reducible refine Below.setCell ?_ (by first | omega | (simp; done) | (simp; omega)) _ | with_reducible refine Below.alloc ?_ (by first | omega | (simp; done) | (simp; omega)) _ | with_reducible refine Below.drew ?_ | with_reducible refine Ext.on _ ?_ (by first | omega | (simp; done) | (simp; omega)))); rintro r _ ⟨rfl, y1, rfl⟩; obtain ⟨a0, _, _, _, _⟩ := y1.lts (b := w.heap.size) (by simp; omega); obtain ⟨d0, _, _, _, _⟩ := y1.lts (b := w.heap.size + 1) (by simp))) | (go_at_call 39; ((with_reducible refine (CX.out _ ?_).mono ?_); (· (repeat first | with_reducible exact Below.refl _ _ | with_reducible refine Below.setCell ?_ (by first | omega | (simp; done) | (simp; omega)) _ | with_reducible refine Below.alloc ?_ (by first | omega | (simp; done) | (simp; omega)) _ | with_reducible refine Below.drew ?_ | with_reducible refine Ext.on _ ?_ (by first | omega | (simp; done) | (simp; omega)))); rintro r _ ⟨rfl, y2, rfl⟩; obtain ⟨a1, _, _, _, _⟩ := y2.lts a0; obtain ⟨d1, _, _, _, _⟩ := y2.lts d0)) | (go_at_call 40; ((with_reducible refine (CT.out _ ?_).mono ?_); (· (repeat first | with_reducible exact Below.refl _ _ | with_reducible refine Below.setCell ?_ (by first | omega | (simp; done) | (simp; omega)) _ | with_reducible refine Below.alloc ?_ (by first | omega | (simp; done) | (simp; omega)) _ | with_reducible refine Below.drew ?_ | with_reducible refine Ext.on _ ?_ (by first | omega | (simp; done) | (simp; omega)))); rintro r _ ⟨rfl, y3, rfl⟩; obtain ⟨a2, _, _, _, _⟩ := y3.lts a1; obtain ⟨d2, _, _, _, _⟩ := y3.lts d1)))
                  go_ret
                  refine ⟨ret_bool HR.out.symm, Cls.of ?_⟩
                  repeat first | with_reducible exact Below.refl _ _ | with_reducible refine Below.setCell ?_ (by first | omega | (simp; done) | (simp; omega)) _ | with_reducible refine Below.alloc ?_ (by first | omega | (simp; done) | (simp; omega)) _ | with_reducible refine Below.drew ?_ | with_reducible refine Ext.on _ ?_ (by first | omega | (simp; done) | (simp; omega))
                · have c0 : ((xgn : Int) != (ygn : Int)) = false := by simp; omega
                  by_cases l1 : xrn = yrn
                  rotate_left
                  · have c1 : ((xrn : Int) != (yrn : Int)) = true := by simp; omega
                    have hbr : br = false := by rw [HW.out]; exact if_neg l1
                    have HR : Hid (sq = false) := Lib.hid (by rw [HS.out, HP.out]; simp [g0, g1, g2, hbr])
                    clear HS HP HA HW g0 g2 hbr l0 l1
                    go_enter Try.func19, Try.ntmps19
                    go_wp2_with (first | (go_at_call 11; ((with_reducible refine (CC.out _ ?_).mono ?_); (· (repeat first | with_reducible exact Below.refl _ _ | with_reducible refine Below.setCell ?_ (by first | omega | (simp; done) | (simp; omega)) _ | with_reducible refine Below.alloc ?_ (by first | omega | (simp; done) | (simp; omega)) _ | with_reducible refine Below.drew ?_ | with_reducible refine Ext.on _ ?_ (by first | omega | (simp; done) | (simp; omega)))); rintro r _ ⟨rfl, y1, rfl⟩; obtain ⟨a0, _, _, _, _⟩ := y1.lts (b := w.heap.size) (by simp; omega); obtain ⟨d0, _, _, _, _⟩ := y1.lts (b := w.heap.size + 1) (by simp))) | (go_at_call 39; ((with_reducible refine (CX.out _ ?_).mono ?_); (· (repeat first | with_reducible exact Below.refl _ _ | with_reducible refine Below.setCell ?_ (by first | omega | (simp; done) | (simp; omega)) _ | with_reducible refine Below.alloc ?_ (by first | omega | (simp; done) | (simp; omega)) _ | with_reducible refine Below.drew ?_ | with_reducible refine Ext.on _ ?_ (by first | omega | (simp; done) | (simp; omega)))); rintro r _ ⟨rfl, y2, rfl⟩; obtain ⟨a1, _, _, _, _⟩ := y2.lts a0; obtain ⟨d1, _, _, _, _⟩ := y2.lts d0)) | (go_at_call 40; ((with_reducible refine (CT.out _ ?_).mono ?_); (· (repeat first | with_reducible exact Below.refl _ _ | with_reducible refine Below.setCell ?_ (by first | omega | (simp; done) | (simp; omega)) _ | with_reducible refine Below.alloc ?_ (by first | omega | (simp; done) | (simp; omega)) _ | with_reducible refine Below.drew ?_ | with_reducible refine Ext.on _ ?_ (by first | omega | (simp; done) | (simp; omega)))); rintro r _ ⟨rfl, y3, rfl⟩; obtain ⟨a2, _, _, _, _⟩ := y3.lts a1; obtain ⟨d2, _, _, _, _⟩ := y3.lts d1)))
                    go_ret
                    refine ⟨ret_bool HR.out.symm, Cls.of ?_⟩
                    repeat first | with_reducible exact Below.refl _ _ | with_reducible refine Below.setCell ?_ (by first | omega | (simp; done) | (simp; omega)) _ | with_reducible refine Below.alloc ?_ (by first | omega | (simp; done) | (simp; omega)) _ | with_reducible refine Below.drew ?_ | with_reducible refine Ext.on _ ?_ (by first | omega | (simp; done) | (simp; omega))
                  · have c1 : ((xrn : Int) != (yrn : Int)) = false := by simp; omega
                    by_cases l2 : xkn = ykn
                    rotate_left
                    · have c2 : ((xkn : Int) != (ykn : Int)) = true := by simp; omega
                      have hbk : lenAll xkn ykn (fun i => sameQ (kid i) (kid' i)) = false := if_neg l2
                      have HR : Hid (sq = false) := Lib.hid (by rw [HS.out, HP.out]; simp [g0, g1, g2, hbk])
                      clear HS HP HA HW g0 g2 hbk l0 l1 l2
                      go_enter Try.func19, Try.ntmps19
                      go_wp2_with (first | (go_at_call 11; ((with_reducible refine (CC.out _ ?_).mono ?_); (· (repeat first | with_reducible exact Below.refl _ _ | with_reducible refine Below.setCell ?_ (by first | omega | (simp; done) | (simp; omega)) _ | with_reducible refine Below.alloc ?_ (by first | omega | (simp; done) | (simp; omega)) _ | with_reducible refine Below.drew ?_ | with_reducible refine Ext.on _ ?_ (by first | omega | (simp; done) | (simp; omega)))); rintro r _ ⟨rfl, y1, rfl⟩; obtain ⟨a0, _, _, _, _⟩ := y1.lts (b := w.heap.size) (by simp; omega); obtain ⟨d0, _, _, _, _⟩ := y1.lts (b := w.heap.size + 1) (by simp))) | (go_at_call 39; ((with_reducible refine (CX.out _ ?_).mono ?_); (· (repeat first | with_reducible exact Below.refl _ _ | with_reducible refine Below.setCell ?_ (by first | omega | (simp; done) | (simp; omega)) _ | with_reducible refine Below.alloc ?_ (by first | omega | (simp; done) | (simp; omega)) _ | with_reducible refine Below.drew ?_ | with_reducible refine Ext.on _ ?_ (by first | omega | (simp; done) | (simp; omega)))); rintro r _ ⟨rfl, y2, rfl⟩; obtain ⟨a1, _, _, _, _⟩ := y2.lts a0; obtain ⟨d1, _, _, _, _⟩ := y2.lts d0)) | (go_at_call 40; ((with_reducible refine (CT.out _ ?_).mono ?_); (· (repeat first | with_reducible exact Below.refl _ _ | with_reducible refine Below.setCell ?_ (by first | omega | (simp; done) | (simp; omega)) _ | with_reducible refine Below.alloc ?_ (by first | omega | (simp; done) | (simp; omega)) _ | with_reducible refine Below.drew ?_ | with_reducible refine Ext.on _ ?_ (by first | omega | (simp; done) | (simp; omega)))); rintro r _ ⟨rfl, y3, rfl⟩; obtain ⟨a2, _, _, _, _⟩ := y3.lts a1; obtain ⟨d2, _, _, _, _⟩ := y3.lts d1)))
                      go_ret
                      refine ⟨ret_bool HR.out.symm, Cls.of ?_⟩
                      repeat first | with_reducible exact Below.refl _ _ | with_reducible refine Below.setCell ?_ (by first | omega | (simp; done) | (simp; omega)) _ | with_reducible refine Below.alloc ?_ (by first | omega | (simp; done) | (simp; omega)) _ | with_reducible refine Below.drew ?_ | with_reducible refine Ext.on _ ?_ (by first | omega | (simp; done) | (simp; omega))
                    · have c2 : ((xkn : Int) != (ykn : Int)) = false := by simp; omega
                      subst l0 l1 l2
                      have HR : Hid (sq = (allQ (fun i => sameG (xagg i) (yagg i)) 0 xgn && (allQ (fun i => lenAll (xrow i).len (yrow i).len fun k => sameV (xval i k) (yval i k)) 0 xrn && allQ (fun i => sameQ (kid i) (kid' i)) 0 xkn))) := Lib.hid (by rw [HS.out, HP.out, HA.out, HW.out]; simp only [lenAll, if_true]; simp [g0, g1, g2, Bool.and_assoc])
                      clear HS HP HA HW g0 g2
                      go_enter Try.func19, Try.ntmps19
                      go_wp2_with (first | (go_at_call 11; ((with_reducible refine (CC.out _ ?_).mono ?_); (· (repeat first | with_reducible exact Below.refl _ _ | with_reducible refine Below.setCell ?_ (by first | omega | (simp; done) | (simp; omega)) _ | with_reducible refine Below.alloc ?_ (by first | omega | (simp; done) | (simp; omega)) _ | with_reducible refine Below.drew ?_ | with_reducible refine Ext.on _ ?_ (by first | omega | (simp; done) | (simp; omega)))); rintro r _ ⟨rfl, y1, rfl⟩; obtain ⟨a0, _, _, _, _⟩ := y1.lts (b := w.heap.size) (by simp; omega); obtain ⟨d0, _, _, _, _⟩ := y1.lts (b := w.heap.size + 1) (by simp))) | (go_at_call 39; ((with_reducible refine (CX.out _ ?_).mono ?_); (· (repeat first | with_reducible exact Below.refl _ _ | with_reducible refine Below.setCell ?_ (by first | omega | (simp; done) | (simp; omega)) _ | with_reducible refine Below.alloc ?_ (by first | omega | (simp; done) | (simp; omega)) _ | with_reducible refine Below.drew ?_ | with_reducible refine Ext.on _ ?_ (by first | omega | (simp; done) | (simp; omega)))); rintro r _ ⟨rfl, y2, rfl⟩; obtain ⟨a1, _, _, _, _⟩ := y2.lts a0; obtain ⟨d1, _, _, _, _⟩ := y2.lts d0)) | (go_at_call 40; ((with_reducible refine (CT.out _ ?_).mono ?_); (· (repeat first | with_reducible exact Below.refl _ _ | with_reducible refine Below.setCell ?_ (by first | omega | (simp; done) | (simp; omega)) _ | with_reducible refine Below.alloc ?_ (by first | omega | (simp; done) | (simp; omega)) _ | with_reducible refine Below.drew ?_ | with_reducible refine Ext.on _ ?_ (by first | omega | (simp; done) | (simp; omega)))); rintro r _ ⟨rfl, y3, rfl⟩; obtain ⟨a2, _, _, _, _⟩ := y3.lts a1; obtain ⟨d2, _, _, _, _⟩ := y3.lts d1)))
                      go_loopw [5] (fun i wr => ∃ j : Nat, j ≤ xgn ∧ i = .int .i64 j ∧ sq = (allQ (fun i => sameG (xagg i) (yagg i)) j (xgn - j) && (allQ (fun i => lenAll (xrow i).len (yrow i).len fun k => sameV (xval i k) (yval i k)) 0 xrn && allQ (fun i => sameQ (kid i) (kid' i)) 0 xkn)) ∧ Cls ((w.alloc (.cells #[.int .i64 xop, .string xtable, .int .i64 xkind, .bool xall, .int .i64 xcond.op, .int .i64 xcond.ty, .int .i64 xcond.num, .string xcond.text, .int .i64 xcond.col, .slice xck.a xck.len xck.cap, .slice xea xen xec, .slice xga xgn xgc, .slice xta xtn xtc, .slice xra xrn xrc, .slice xka xkn xkc] 43)).alloc (.cells #[.int .i64 yop, .string ytable, .int .i64 ykind, .bool xall, .int .i64 ycond.op, .int .i64 ycond.ty, .int .i64 ycond.num, .string ycond.text, .int .i64 ycond.col, .slice yck.a yck.len yck.cap, .slice yea yen yec, .slice yga xgn ygc, .slice yta ytn ytc, .slice yra xrn yrc, .slice yka xkn ykc] 43)) wr) (fun i _ => xgn - (intOf i).toNat)
                      case atStart =>
                        refine ⟨0, Nat.zero_le _, rfl, HR.out, Cls.of ?_⟩
                        repeat first | with_reducible exact Below.refl _ _ | with_reducible refine Below.setCell ?_ (by first | omega | (simp; done) | (simp; omega)) _ | with_reducible refine Below.alloc ?_ (by first | omega | (simp; done) | (simp; omega)) _ | with_reducible refine Below.drew ?_ | with_reducible refine Ext.on _ ?_ (by first | omega | (simp; done) | (simp; omega))
                      case round =>
                        obtain ⟨j5, hj5, rfl, he5, z5, rfl⟩ := hrel
                        have HE := Lib.hid he5
                        clear he5
                        have zs5 := z5.size
                        simp at zs5
                        by_cases hlt5 : j5 < xgn
                        · obtain ⟨b1, off1, ha1, hb1, hc1⟩ := HAG.out.2.2.2 j5 hlt5
                          obtain ⟨b2, off2, ha2, hb2, hc2⟩ := HAG'.out.2.2.2 j5 hlt5
                          simp only at ha1 ha2
                          subst ha1 ha2
                          have hb3 : b1 < w.heap.size + 1 := by omega
                          have hb4 : b2 < w.heap.size + 1 := by omega
                          have hb5 : b1 < w.heap.size + 1 + 1 := by omega
                          have hb6 : b2 < w.heap.size + 1 + 1 := by omega
                          have q0 := hc1 0 (by omega)
                          have q0' := hc2 0 (by omega)
                          have q1 := hc1 1 (by omega)
                          have q1' := hc2 1 (by omega)
                          have q2 := hc1 2 (by omega)
                          have q2' := hc2 2 (by omega)
                          have q3 := hc1 3 (by omega)
                          have q3' := hc2 3 (by omega)
                          have q4 := hc1 4 (by omega)
                          have q4' := hc2 4 (by omega)
                          have q5 := hc1 5 (by omega)
                          have q5' := hc2 5 (by omega)
                          have q6 := hc1 6 (by omega)
                          have q6' := hc2 6 (by omega)
                          simp only [Ag.cells, Sl.v, List.getElem?_cons_zero, List.getElem?_cons_succ, Nat.add_zero] at q0 q0' q1 q1' q2 q2' q3 q3' q4 q4' q5 q5' q6 q6'
                          clear hc1 hc2
                          have hnj : xgn - j5 = (xgn - (j5 + 1)) + 1 := by omega
                          have HG : Hid ((fun i => sameG (xagg i) (yagg i)) j5 = true → sq = (allQ (fun i => sameG (xagg i) (yagg i)) (j5 + 1) (xgn - (j5 + 1)) && (allQ (fun i => lenAll (xrow i).len (yrow i).len fun k => sameV (xval i k) (yval i k)) 0 xrn && allQ (fun i => sameQ (kid i) (kid' i)) 0 xkn))) := Lib.hid (fun hp => by rw [HE.out, hnj, allQ_go hp])
                          have HN : Hid ((fun i => sameG (xagg i) (yagg i)) j5 = false → sq = false) := Lib.hid (fun hp => by rw [HE.out, hnj, allQ_stop hp]; try simp)
                          clear hnj
                          have C1 : Hid (∀ y : type_of% z5, Calls Try.prog 11 #[.agg #[.int .i64 (xagg j5).arg.op, .int .i64 (xagg j5).arg.ty, .int .i64 (xagg j5).arg.num, .string (xagg j5).arg.text, .int .i64 (xagg j5).arg.col, .slice (xagg j5).ka.a (xagg j5).ka.len (xagg j5).ka.cap], .agg #[.int .i64 (yagg j5).arg.op, .int .i64 (yagg j5).arg.ty, .int .i64 (yagg j5).arg.num, .string (yagg j5).arg.text, .int .i64 (yagg j5).arg.col, .slice (yagg j5).ka.a (yagg j5).ka.len (yagg j5).ka.cap]] y.val fun r w' => r = .returned (.bool (sameE (xagg j5).arg (yagg j5).arg)) ∧ Cls y.val w') := Lib.hid (fun y => rSame_calls _ _ _ _ _ _ _ _ (fun _ => True) (fun _ => True) y.val (((HAA.out j5 hlt5).2.later (by repeat first | with_reducible exact Below.refl _ _ | with_reducible refine Below.setCell ?_ (by first | omega | (simp; done) | (simp; omega)) _ | with_reducible refine Below.alloc ?_ (by first | omega | (simp; done) | (simp; omega)) _ | with_reducible refine Below.drew ?_ | with_reducible refine Ext.on _ ?_ (by first | omega | (simp; done) | (simp; omega)))).later y.below) (((HAA'.out j5 hlt5).2.later (by repeat first | with_reducible exact Below.refl _ _ | with_reducible refine Below.setCell ?_ (by first | omega | (simp; done) | (simp; omega)) _ | with_reducible refine Below.alloc ?_ (by first | omega | (simp; done) | (simp; omega)) _ | with_reducible refine Below.drew ?_ | with_reducible refine Ext.on _ ?_ (by first | omega | (simp; done) | (simp; omega)))).later y.below))
                          have HD : Hid (sameG (xagg j5) (yagg j5) = (decide ((xagg j5).fn = (yagg j5).fn) && sameE (xagg j5).arg (yagg j5).arg)) := Lib.hid rfl
                          have HG2 : Hid (sameG (xagg j5) (yagg j5) = true → _) := HG
                          have HN2 : Hid (sameG (xagg j5) (yagg j5) = false → _) := HN
                          clear HG HN
                          generalize sameG (xagg j5) (yagg j5) = sg at HD HG2 HN2
                          generalize sameE (xagg j5).arg (yagg j5).arg = se at C1 HD
                          generalize xagg j5 = u at *
                          generalize yagg j5 = v at *
                          by_cases hfn : u.fn = v.fn
                          rotate_left
                          · have bfn : (u.fn != v.fn) = true := by simp [hfn]
                            have HV : Hid (sg = false) := Lib.hid (by rw [HD.out]; simp [hfn])
                            clear hfn HD
                            go_wp2_with fail
                            refine wp_region_on (by kernel_rfl) (by kernel_rfl) ?_
                            repeat (go_big_quiet_step ((fail)))
                            refine wpQuiet_nil ?_
                            rintro _ ⟨y, rfl⟩
                            go_wp2_with fail
                            go_ret
                            refine ⟨ret_bool (HN2.out HV.out).symm, Cls.of ?_⟩
                            repeat first | with_reducible exact Below.refl _ _ | with_reducible refine Below.setCell ?_ (by first | omega | (simp; done) | (simp; omega)) _ | with_reducible refine Below.alloc ?_ (by first | omega | (simp; done) | (simp; omega)) _ | with_reducible refine Below.drew ?_ | with_reducible refine Ext.on _ ?_ (by first | omega | (simp; done) | (simp; omega))
                          · have bfn : (u.fn != v.fn) = false := by simp [hfn]
                            have HV : Hid (sg = se) := Lib.hid (by rw [HD.out]; simp [hfn])
                            clear hfn HD
                            cases se
                            all_goals
                              go_wp2_with fail
                              refine wp_region_on (by kernel_rfl) (by kernel_rfl) ?_
                              repeat (go_big_quiet_step ((go_at_call 11; exact Cls.call (C1.out _))))
                              refine wpQuiet_nil ?_
                              rintro _ ⟨y, rfl⟩
                              go_wp2_with fail
                            · go_ret
                              refine ⟨ret_bool (HN2.out HV.out).symm, Cls.of ?_⟩
                              repeat first | with_reducible exact Below.refl _ _ | with_reducible refine Below.setCell ?_ (by first | omega | (simp; done) | (simp; omega)) _ | with_reducible refine Below.alloc ?_ (by first | omega | (simp; done) | (simp; omega)) _ | with_reducible refine Below.drew ?_ | with_reducible refine Ext.on _ ?_ (by first | omega | (simp; done) | (simp; omega))
                            · go_roundw
                              case rel =>
                                refine ⟨j5 + 1, by omega, by go_num, HG2.out HV.out, Cls.of ?_⟩
                                repeat first | with_reducible exact Below.refl _ _ | with_reducible refine Below.setCell ?_ (by first | omega | (simp; done) | (simp; omega)) _ | with_reducible refine Below.alloc ?_ (by first | omega | (simp; done) | (simp; omega)) _ | with_reducible refine Below.drew ?_ | with_reducible refine Ext.on _ ?_ (by first | omega | (simp; done) | (simp; omega))
                              case measure => simp [intOf]; omega
                        · have HT : Hid (sq = (allQ (fun i => lenAll (xrow i).len (yrow i).len fun k => sameV (xval i k) (yval i k)) 0 xrn && allQ (fun i => sameQ (kid i) (kid' i)) 0 xkn)) := Lib.hid (by rw [HE.out, show xgn - j5 = 0 by omega]; rfl)
                          clear HE
                          go_wp2_with fail
                          go_loopw [6] (fun i wr => ∃ j : Nat, j ≤ xrn ∧ i = .int .i64 j ∧ sq = (allQ (fun i => lenAll (xrow i).len (yrow i).len fun k => sameV (xval i k) (yval i k)) j (xrn - j) && allQ (fun i => sameQ (kid i) (kid' i)) 0 xkn) ∧ Cls ((w.alloc (.cells #[.int .i64 xop, .string xtable, .int .i64 xkind, .bool xall, .int .i64 xcond.op, .int .i64 xcond.ty, .int .i64 xcond.num, .string xcond.text, .int .i64 xcond.col, .slice xck.a xck.len xck.cap, .slice xea xen xec, .slice xga xgn xgc, .slice xta xtn xtc, .slice xra xrn xrc, .slice xka xkn xkc] 43)).alloc (.cells #[.int .i64 yop, .string ytable, .int .i64 ykind, .bool xall, .int .i64 ycond.op, .int .i64 ycond.ty, .int .i64 ycond.num, .string ycond.text, .int .i64 ycond.col, .slice yck.a yck.len yck.cap, .slice yea yen yec, .slice yga xgn ygc, .slice yta ytn ytc, .slice yra xrn yrc, .slice yka xkn ykc] 43)) wr) (fun i _ => xrn - (intOf i).toNat)
                          case atStart =>
                            refine ⟨0, Nat.zero_le _, rfl, HT.out, Cls.of ?_⟩
                            repeat first | with_reducible exact Below.refl _ _ | with_reducible refine Below.setCell ?_ (by first | omega | (simp; done) | (simp; omega)) _ | with_reducible refine Below.alloc ?_ (by first | omega | (simp; done) | (simp; omega)) _ | with_reducible refine Below.drew ?_ | with_reducible refine Ext.on _ ?_ (by first | omega | (simp; done) | (simp; omega))
                          case round =>
                            obtain ⟨j6, hj6, rfl, he6, z6, rfl⟩ := hrel
                            have HE := Lib.hid he6
                            clear he6
                            have zs6 := z6.size
                            simp at zs6
                            by_cases hlt6 : j6 < xrn
                            · obtain ⟨b1, off1, ha1, hb1, hc1⟩ := HRW.out.2.2.2 j6 hlt6
                              obtain ⟨b2, off2, ha2, hb2, hc2⟩ := HRW'.out.2.2.2 j6 hlt6
                              simp only at ha1 ha2
                              subst ha1 ha2
                              have hb3 : b1 < w.heap.size + 1 := by omega
                              have hb4 : b2 < w.heap.size + 1 := by omega
                              have hb5 : b1 < w.heap.size + 1 + 1 := by omega
                              have hb6 : b2 < w.heap.size + 1 + 1 := by omega
                              have q0 := hc1 0 (by omega)
                              have q0' := hc2 0 (by omega)
                              simp only [Sl.v, List.getElem?_cons_zero, Nat.add_zero, Nat.mul_one] at q0 q0'
                              clear hc1 hc2
                              have hnj : xrn - j6 = (xrn - (j6 + 1)) + 1 := by omega
                              have HG : Hid ((fun i => lenAll (xrow i).len (yrow i).len fun k => sameV (xval i k) (yval i k)) j6 = true → sq = (allQ (fun i => lenAll (xrow i).len (yrow i).len fun k => sameV (xval i k) (yval i k)) (j6 + 1) (xrn - (j6 + 1)) && allQ (fun i => sameQ (kid i) (kid' i)) 0 xkn)) := Lib.hid (fun hp => by rw [HE.out, hnj, allQ_go hp])
                              have HN : Hid ((fun i => lenAll (xrow i).len (yrow i).len fun k => sameV (xval i k) (yval i k)) j6 = false → sq = false) := Lib.hid (fun hp => by rw [HE.out, hnj, allQ_stop hp]; try simp)
                              clear hnj
                              have C1 : Hid (∀ y : type_of% z6, Calls Try.prog 41 #[.slice (xrow j6).a (xrow j6).len (xrow j6).cap, .slice (yrow j6).a (yrow j6).len (yrow j6).cap] y.val fun e w' => e = .returned (.int .i64 (cmpL (rowL (xrow j6).len (xval j6)) (rowL (yrow j6).len (yval j6)))) ∧ Cls y.val w') := Lib.hid (fun y => rCompareRows_calls _ _ _ _ _ _ _ _ y.val ((Holds_of ((HRV.out j6 hlt6).later (by repeat first | with_reducible exact Below.refl _ _ | with_reducible refine Below.setCell ?_ (by first | omega | (simp; done) | (simp; omega)) _ | with_reducible refine Below.alloc ?_ (by first | omega | (simp; done) | (simp; omega)) _ | with_reducible refine Below.drew ?_ | with_reducible refine Ext.on _ ?_ (by first | omega | (simp; done) | (simp; omega))))).later y.below) ((Holds_of ((HRV'.out j6 hlt6).later (by repeat first | with_reducible exact Below.refl _ _ | with_reducible refine Below.setCell ?_ (by first | omega | (simp; done) | (simp; omega)) _ | with_reducible refine Below.alloc ?_ (by first | omega | (simp; done) | (simp; omega)) _ | with_reducible refine Below.drew ?_ | with_reducible refine Ext.on _ ?_ (by first | omega | (simp; done) | (simp; omega))))).later y.below) (HRV.out j6 hlt6).1 (HRV'.out j6 hlt6).1 (HRV.out j6 hlt6).2.1 (HRV'.out j6 hlt6).2.1)
                              have hr := rows_iff (xrow j6).len (yrow j6).len (xval j6) (yval j6)
                              have HG2 : Hid (lenAll (xrow j6).len (yrow j6).len (fun k => sameV (xval j6 k) (yval j6 k)) = true → _) := HG
                              have HN2 : Hid (lenAll (xrow j6).len (yrow j6).len (fun k => sameV (xval j6 k) (yval j6 k)) = false → _) := HN
                              clear HG HN
                              generalize lenAll (xrow j6).len (yrow j6).len (fun k => sameV (xval j6 k) (yval j6 k)) = sv at hr HG2 HN2
                              generalize cmpL (rowL (xrow j6).len (xval j6)) (rowL (yrow j6).len (yval j6)) = cv at C1 hr
                              generalize xrow j6 = u at *
                              generalize yrow j6 = v at *
                              cases sv
                              all_goals
                                simp only [Bool.not_true, Bool.not_false] at hr
                                go_wp2_with fail
                                refine wp_region_on (by kernel_rfl) (by kernel_rfl) ?_
                                repeat (go_big_quiet_step ((go_at_call 41; exact Cls.call (C1.out _))))
                                refine wpQuiet_nil ?_
                                rintro _ ⟨y, rfl⟩
                                go_wp2_with fail
                              · go_ret
                                refine ⟨ret_bool (HN2.out (by trivial)).symm, Cls.of ?_⟩
                                repeat first | with_reducible exact Below.refl _ _ | with_reducible refine Below.setCell ?_ (by first | omega | (simp; done) | (simp; omega)) _ | with_reducible refine Below.alloc ?_ (by first | omega | (simp; done) | (simp; omega)) _ | with_reducible refine Below.drew ?_ | with_reducible refine Ext.on _ ?_ (by first | omega | (simp; done) | (simp; omega))
                              · go_roundw
                                case rel =>
                                  refine ⟨j6 + 1, by omega, by go_num, HG2.out (by trivial), Cls.of ?_⟩
                                  repeat first | with_reducible exact Below.refl _ _ | with_reducible refine Below.setCell ?_ (by first | omega | (simp; done) | (simp; omega)) _ | with_reducible refine Below.alloc ?_ (by first | omega | (simp; done) | (simp; omega)) _ | with_reducible refine Below.drew ?_ | with_reducible refine Ext.on _ ?_ (by first | omega | (simp; done) | (simp; omega))
                                case measure => simp [intOf]; omega
                            · have HT : Hid (sq = allQ (fun i => sameQ (kid i) (kid' i)) 0 xkn) := Lib.hid (by rw [HE.out, show xrn - j6 = 0 by omega]; rfl)
                              clear HE
                              go_wp2_with fail
                              go_loopw [7] (fun i wr => ∃ j : Nat, j ≤ xkn ∧ i = .int .i64 j ∧ sq = (allQ (fun i => sameQ (kid i) (kid' i)) j (xkn - j)) ∧ Cls ((w.alloc (.cells #[.int .i64 xop, .string xtable, .int .i64 xkind, .bool xall, .int .i64 xcond.op, .int .i64 xcond.ty, .int .i64 xcond.num, .string xcond.text, .int .i64 xcond.col, .slice xck.a xck.len xck.cap, .slice xea xen xec, .slice xga xgn xgc, .slice xta xtn xtc, .slice xra xrn xrc, .slice xka xkn xkc] 43)).alloc (.cells #[.int .i64 yop, .string ytable, .int .i64 ykind, .bool xall, .int .i64 ycond.op, .int .i64 ycond.ty, .int .i64 ycond.num, .string ycond.text, .int .i64 ycond.col, .slice yck.a yck.len yck.cap, .slice yea yen yec, .slice yga xgn ygc, .slice yta ytn ytc, .slice yra xrn yrc, .slice yka xkn ykc] 43)) wr) (fun i _ => xkn - (intOf i).toNat)
                              case atStart =>
                                refine ⟨0, Nat.zero_le _, rfl, HT.out, Cls.of ?_⟩
                                repeat first | with_reducible exact Below.refl _ _ | with_reducible refine Below.setCell ?_ (by first | omega | (simp; done) | (simp; omega)) _ | with_reducible refine Below.alloc ?_ (by first | omega | (simp; done) | (simp; omega)) _ | with_reducible refine Below.drew ?_ | with_reducible refine Ext.on _ ?_ (by first | omega | (simp; done) | (simp; omega))
                              case round =>
                                obtain ⟨j7, hj7, rfl, he7, z7, rfl⟩ := hrel
                                have HE := Lib.hid he7
                                clear he7
                                have zs7 := z7.size
                                simp at zs7
                                by_cases hlt7 : j7 < xkn
                                · obtain ⟨b1, off1, ha1, hb1, hc1⟩ := HKD.out.2.2.2 j7 hlt7
                                  obtain ⟨b2, off2, ha2, hb2, hc2⟩ := HKD'.out.2.2.2 j7 hlt7
                                  simp only at ha1 ha2
                                  subst ha1 ha2
                                  have hb3 : b1 < w.heap.size + 1 := by omega
                                  have hb4 : b2 < w.heap.size + 1 := by omega
                                  have hb5 : b1 < w.heap.size + 1 + 1 := by omega
                                  have hb6 : b2 < w.heap.size + 1 + 1 := by omega
                                  have q0 := hc1 0 (by omega)
                                  have q0' := hc2 0 (by omega)
                                  have q1 := hc1 1 (by omega)
                                  have q1' := hc2 1 (by omega)
                                  have q2 := hc1 2 (by omega)
                                  have q2' := hc2 2 (by omega)
                                  have q3 := hc1 3 (by omega)
                                  have q3' := hc2 3 (by omega)
                                  have q4 := hc1 4 (by omega)
                                  have q4' := hc2 4 (by omega)
                                  have q5 := hc1 5 (by omega)
                                  have q5' := hc2 5 (by omega)
                                  have q6 := hc1 6 (by omega)
                                  have q6' := hc2 6 (by omega)
                                  have q7 := hc1 7 (by omega)
                                  have q7' := hc2 7 (by omega)
                                  have q8 := hc1 8 (by omega)
                                  have q8' := hc2 8 (by omega)
                                  have q9 := hc1 9 (by omega)
                                  have q9' := hc2 9 (by omega)
                                  have q10 := hc1 10 (by omega)
                                  have q10' := hc2 10 (by omega)
                                  have q11 := hc1 11 (by omega)
                                  have q11' := hc2 11 (by omega)
                                  have q12 := hc1 12 (by omega)
                                  have q12' := hc2 12 (by omega)
                                  have q13 := hc1 13 (by omega)
                                  have q13' := hc2 13 (by omega)
                                  have q14 := hc1 14 (by omega)
                                  have q14' := hc2 14 (by omega)
                                  simp only [Qy.cells, Sl.v, List.getElem?_cons_zero, List.getElem?_cons_succ, Nat.add_zero] at q0 q0' q1 q1' q2 q2' q3 q3' q4 q4' q5 q5' q6 q6' q7 q7' q8 q8' q9 q9' q10 q10' q11 q11' q12 q12' q13 q13' q14 q14'
                                  clear hc1 hc2
                                  have hnj : xkn - j7 = (xkn - (j7 + 1)) + 1 := by omega
                                  have HG : Hid ((fun i => sameQ (kid i) (kid' i)) j7 = true → sq = (allQ (fun i => sameQ (kid i) (kid' i)) (j7 + 1) (xkn - (j7 + 1)))) := Lib.hid (fun hp => by rw [HE.out, hnj, allQ_go hp])
                                  have HN : Hid ((fun i => sameQ (kid i) (kid' i)) j7 = false → sq = false) := Lib.hid (fun hp => by rw [HE.out, hnj, allQ_stop hp]; try simp)
                                  clear hnj
                                  have C1 : Hid (∀ y : type_of% z7, Calls Try.prog 19 #[.agg #[.int .i64 (kid j7).p.op, .string (kid j7).p.table, .int .i64 (kid j7).p.kind, .bool (kid j7).p.all, .int .i64 (kid j7).p.cond.op, .int .i64 (kid j7).p.cond.ty, .int .i64 (kid j7).p.cond.num, .string (kid j7).p.cond.text, .int .i64 (kid j7).p.cond.col, .slice (kid j7).p.ck.a (kid j7).p.ck.len (kid j7).p.ck.cap, .slice (kid j7).p.es.a (kid j7).p.es.len (kid j7).p.es.cap, .slice (kid j7).p.gs.a (kid j7).p.gs.len (kid j7).p.gs.cap, .slice (kid j7).p.ts.a (kid j7).p.ts.len (kid j7).p.ts.cap, .slice (kid j7).p.rs.a (kid j7).p.rs.len (kid j7).p.rs.cap, .slice (kid j7).ks.a (kid j7).ks.len (kid j7).ks.cap], .agg #[.int .i64 (kid' j7).p.op, .string (kid' j7).p.table, .int .i64 (kid' j7).p.kind, .bool (kid' j7).p.all, .int .i64 (kid' j7).p.cond.op, .int .i64 (kid' j7).p.cond.ty, .int .i64 (kid' j7).p.cond.num, .string (kid' j7).p.cond.text, .int .i64 (kid' j7).p.cond.col, .slice (kid' j7).p.ck.a (kid' j7).p.ck.len (kid' j7).p.ck.cap, .slice (kid' j7).p.es.a (kid' j7).p.es.len (kid' j7).p.es.cap, .slice (kid' j7).p.gs.a (kid' j7).p.gs.len (kid' j7).p.gs.cap, .slice (kid' j7).p.ts.a (kid' j7).p.ts.len (kid' j7).p.ts.cap, .slice (kid' j7).p.rs.a (kid' j7).p.rs.len (kid' j7).p.rs.cap, .slice (kid' j7).ks.a (kid' j7).ks.len (kid' j7).ks.cap]] y.val fun r w' => r = .returned (.bool (sameQ (kid j7) (kid' j7))) ∧ Cls y.val w') := Lib.hid (fun y => HI.out j7 (kid' j7) y.val (((HKA.out j7 hlt7).later (by repeat first | with_reducible exact Below.refl _ _ | with_reducible refine Below.setCell ?_ (by first | omega | (simp; done) | (simp; omega)) _ | with_reducible refine Below.alloc ?_ (by first | omega | (simp; done) | (simp; omega)) _ | with_reducible refine Below.drew ?_ | with_reducible refine Ext.on _ ?_ (by first | omega | (simp; done) | (simp; omega)))).later y.below) (((HKA'.out j7 hlt7).later (by repeat first | with_reducible exact Below.refl _ _ | with_reducible refine Below.setCell ?_ (by first | omega | (simp; done) | (simp; omega)) _ | with_reducible refine Below.alloc ?_ (by first | omega | (simp; done) | (simp; omega)) _ | with_reducible refine Below.drew ?_ | with_reducible refine Ext.on _ ?_ (by first | omega | (simp; done) | (simp; omega)))).later y.below))
                                  have HG2 : Hid (sameQ (kid j7) (kid' j7) = true → _) := HG
                                  have HN2 : Hid (sameQ (kid j7) (kid' j7) = false → _) := HN
                                  clear HG HN HI
                                  generalize sameQ (kid j7) (kid' j7) = sk at C1 HG2 HN2
                                  generalize kid j7 = u at *
                                  generalize kid' j7 = v at *
                                  cases sk
                                  all_goals
                                    go_wp2_with fail
                                    refine wp_region_on (by kernel_rfl) (by kernel_rfl) ?_
                                    repeat (go_big_quiet_step ((go_at_call 19; exact Cls.call (C1.out _))))
                                    refine wpQuiet_nil ?_
                                    rintro _ ⟨y, rfl⟩
                                    go_wp2_with fail
                                  · go_ret
                                    refine ⟨ret_bool (HN2.out (by trivial)).symm, Cls.of ?_⟩
                                    repeat first | with_reducible exact Below.refl _ _ | with_reducible refine Below.setCell ?_ (by first | omega | (simp; done) | (simp; omega)) _ | with_reducible refine Below.alloc ?_ (by first | omega | (simp; done) | (simp; omega)) _ | with_reducible refine Below.drew ?_ | with_reducible refine Ext.on _ ?_ (by first | omega | (simp; done) | (simp; omega))
                                  · go_roundw
                                    case rel =>
                                      refine ⟨j7 + 1, by omega, by go_num, HG2.out (by trivial), Cls.of ?_⟩
                                      repeat first | with_reducible exact Below.refl _ _ | with_reducible refine Below.setCell ?_ (by first | omega | (simp; done) | (simp; omega)) _ | with_reducible refine Below.alloc ?_ (by first | omega | (simp; done) | (simp; omega)) _ | with_reducible refine Below.drew ?_ | with_reducible refine Ext.on _ ?_ (by first | omega | (simp; done) | (simp; omega))
                                    case measure => simp [intOf]; omega
                                · have HT : Hid (sq = true) := Lib.hid (by rw [HE.out, show xkn - j7 = 0 by omega]; rfl)
                                  go_wp2_with fail
                                  go_ret
                                  refine ⟨ret_bool HT.out.symm, Cls.of ?_⟩
                                  repeat first | with_reducible exact Below.refl _ _ | with_reducible refine Below.setCell ?_ (by first | omega | (simp; done) | (simp; omega)) _ | with_reducible refine Below.alloc ?_ (by first | omega | (simp; done) | (simp; omega)) _ | with_reducible refine Below.drew ?_ | with_reducible refine Ext.on _ ?_ (by first | omega | (simp; done) | (simp; omega))
theorem rSameQ_calls : ∀ q : Qy, RSameQOf q := by
  intro q
  induction q with
  | nil => intro q' w h; cases h
  | mk p ks kid ih => exact rSameQ_step p ks kid ih
end Go.Proofs.Ytonnbmiallammaa
