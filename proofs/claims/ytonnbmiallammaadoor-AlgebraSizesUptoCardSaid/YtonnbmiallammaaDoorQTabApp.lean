/-
  The tables of a query, as the program gives them: gathered, sorted, and neighbours that are equal struck.
-/
import Derived.Test.YtonnbmiallammaaDoorQTabRef2
import Derived.Test.YtonnbmiallammaaDoorShelf
set_option linter.unusedVariables false
namespace Go.Proofs.YtonnbmiallammaaDoor
open Go Go.RowKit Go.Deep Go.Sort Go.Proofs
/-- From w to wr nothing has changed but the row that v owned; u owns that row or a new one. -/
structure Hold (w : World) (v : Value) (wr : World) (u : Value) : Prop where
  os : wr.os = w.os
  tape : wr.tape = w.tape
  output : wr.output = w.output
  size : w.heap.size ≤ wr.heap.size
  block : ∀ k, k < w.heap.size → v.ownBlock ≠ some k → wr.heap[k]? = w.heap[k]?
  own : ∀ k, u.ownBlock = some k → v.ownBlock = some k ∨ w.heap.size ≤ k
namespace Hold
theorem refl (w : World) (v : Value) : Hold w v w v := ⟨rfl, rfl, rfl, Nat.le_refl _, fun _ _ _ => rfl, fun _ h => .inl h⟩
theorem step {w wr w' : World} {v u u' : Value} (h : Hold w v wr u) (k : Hold wr u w' u') : Hold w v w' u' where
  os := k.os.trans h.os
  tape := k.tape.trans h.tape
  output := k.output.trans h.output
  size := Nat.le_trans h.size k.size
  block := fun i hi hv => (k.block i (Nat.lt_of_lt_of_le hi h.size) fun e => by rcases h.own i e with e' | e'; exact hv e'; omega).trans (h.block i hi hv)
  own := fun i e => by
    rcases k.own i e with e' | e'
    · exact h.own i e'
    · exact .inr (Nat.le_trans h.size e')
theorem ofBelow {w w' : World} {v : Value} (h : Below w.heap.size w w') : Hold w v w' v := ⟨h.os, h.tape, h.output, h.size, fun k hk _ => h.block k hk, fun _ e => .inl e⟩
theorem grown {w w' : World} {v v' : Value} (h : w.grownBy w' v.ownBlock) (ha : v'.ownBlock = v.ownBlock ∨ v'.ownBlock = some w.heap.size) : Hold w v w' v' where
  os := h.os
  tape := h.tape
  output := h.output
  size := h.size
  block := fun k hk hv => h.block k hk fun e => hv e.symm
  own := fun k e => by
    rcases ha with ha | ha
    · exact .inl (ha ▸ e)
    · rw [ha] at e; exact .inr (by have := Option.some.inj e; omega)
theorem below {w w' : World} {v v' : Value} {base n size : Nat} {e : TypeId} {xs : List Value} (h : Hold w v w' v') (ho : w.ownsRow base e size v n xs) (hb : base ≤ w.heap.size) : Below base w w' :=
  ⟨h.os, h.tape, h.output, h.size, fun k hk => h.block k (by omega) fun e' => by have := (ho.lt k e').1; omega⟩
end Hold
theorem free_of_row {w : World} {b : Nat} {cs : Array Value} {t : TypeId} (h : w.heap[b]? = some (.cells cs t (0, 0))) (i : Nat) : w.frozen? ⟨b, i, none⟩ = false := by simp [World.frozen?, h]
def TAppOf (q : Qy) : Prop := ∀ (w0 : World) (v : Value) (xs : List Bs) (w : World), QAt w0 q → Below w0.heap.size w0 w → w.ownsRow w0.heap.size 9 1 v xs.length (flatS xs) → xs.length + cntQ q ≤ 2 ^ 22 →
    Calls Tryd.prog 62 #[v, .agg #[.int .i64 q.p.op, .string q.p.table, .int .i64 q.p.kind, .bool q.p.all, .int .i64 q.p.cond.op, .int .i64 q.p.cond.ty, .int .i64 q.p.cond.num, .string q.p.cond.text, .int .i64 q.p.cond.col, .slice q.p.ck.a q.p.ck.len q.p.ck.cap, .slice q.p.es.a q.p.es.len q.p.es.cap, .slice q.p.gs.a q.p.gs.len q.p.gs.cap, .slice q.p.ts.a q.p.ts.len q.p.ts.cap, .slice q.p.rs.a q.p.rs.len q.p.rs.cap, .slice q.ks.a q.ks.len q.ks.cap]] w fun r w' => ∃ v', r = .returned v' ∧ w'.ownsRow w0.heap.size 9 1 v' (xs ++ tabsQ q).length (flatS (xs ++ tabsQ q)) ∧ Hold w v w' v'
set_option maxHeartbeats 8000000 in
set_option maxRecDepth 20000 in
theorem tapp_no (p : Qr) (ks : Sl) (kid : Nat → Qy) (ih : ∀ i, TAppOf (kid i)) (hop : p.op ≠ 1) : TAppOf (.mk p ks kid) := by
  intro w0 v xs w h hB hown hcnt
  have hp := h.part
  have hq := h.slice
  have hkid := h.kid
  simp only [Qy.p, Qy.ks, Qy.kid] at hp hq hkid
  have HKD : Hid (SlAt w0 15 ks fun i => (kid i).cells) := Lib.hid hq
  have hbase := hB.size
  have HB0 := Lib.hid hB
  have HO := Lib.hid hown
  have HVB : Hid (v.ownBlock ≠ some w.heap.size) := Lib.hid (fun h => by have := (hown.lt _ h).2; omega)
  have hcc : xs.length + (1 + cntP p + sumN (fun i => cntQ (kid i)) ks.len) ≤ 2 ^ 22 := hcnt
  have HCL : Hid (xs.length + 1 ≤ 2 ^ 22) := Lib.hid (by omega)
  have HCC : Hid (∀ j, j < ks.len → xs.length + 1 + (catN (fun i => tabsQ (kid i)) j).length + cntQ (kid j) ≤ 2 ^ 22) := Lib.hid (fun j hj => by
    have h1 := catN_len (f := fun i => tabsQ (kid i)) (g := fun i => cntQ (kid i)) (n := j) fun i _ => tabs_len _
    have h2 := sumN_mono (f := fun i => cntQ (kid i)) (m := j + 1) (n := ks.len) hj
    have h3 : sumN (fun i => cntQ (kid i)) (j + 1) = sumN (fun i => cntQ (kid i)) j + cntQ (kid j) := rfl
    omega)
  have HGO : Hid (∀ j, catN (fun i => tabsQ (kid i)) (j + 1) = catN (fun i => tabsQ (kid i)) j ++ tabsQ (kid j)) := Lib.hid (fun _ => rfl)
  have HG0 : Hid (catN (fun i => tabsQ (kid i)) 0 = []) := Lib.hid rfl
  have HI : Hid (∀ i, i < ks.len → ∀ (v : Value) (xs : List Bs) (w : World), Below w0.heap.size w0 w → w.ownsRow w0.heap.size 9 1 v xs.length (flatS xs) → xs.length + cntQ (kid i) ≤ 2 ^ 22 → Calls Tryd.prog 62 #[v, .agg #[.int .i64 (kid i).p.op, .string (kid i).p.table, .int .i64 (kid i).p.kind, .bool (kid i).p.all, .int .i64 (kid i).p.cond.op, .int .i64 (kid i).p.cond.ty, .int .i64 (kid i).p.cond.num, .string (kid i).p.cond.text, .int .i64 (kid i).p.cond.col, .slice (kid i).p.ck.a (kid i).p.ck.len (kid i).p.ck.cap, .slice (kid i).p.es.a (kid i).p.es.len (kid i).p.es.cap, .slice (kid i).p.gs.a (kid i).p.gs.len (kid i).p.gs.cap, .slice (kid i).p.ts.a (kid i).p.ts.len (kid i).p.ts.cap, .slice (kid i).p.rs.a (kid i).p.rs.len (kid i).p.rs.cap, .slice (kid i).ks.a (kid i).ks.len (kid i).ks.cap]] w fun r w' => ∃ v', r = .returned v' ∧ w'.ownsRow w0.heap.size 9 1 v' (xs ++ tabsQ (kid i)).length (flatS (xs ++ tabsQ (kid i))) ∧ Hold w v w' v') := Lib.hid (fun i hi v xs w => ih i w0 v xs w (hkid i hi))
  have hkn : ks.len ≤ maxLen := Nat.le_trans HKD.out.1 HKD.out.2.1
  unfold maxLen at hkn
  have HT : Hid (xs ++ catN (fun i => tabsQ (kid i)) ks.len = xs ++ tabsQ (.mk p ks kid)) := Lib.hid (by
    have e : tab1 p = [] := by unfold tab1; rw [if_neg hop]
    show _ = xs ++ (tab1 p ++ _)
    rw [e, List.nil_append])
  have b1 : (p.op == 1) = false := by simp [hop]
  clear hop
  simp only [Qy.p, Qy.ks] at ⊢
  clear h hp hq hkid hB hown hcnt hcc ih
  generalize tabsQ (.mk p ks kid) = ttot at *
  generalize hct : catN (fun i => tabsQ (kid i)) = ct at *
  clear hct
  obtain ⟨tk, htk⟩ : ∃ tk : Nat → List Bs, ∀ j, tk j = tabsQ (kid j) := ⟨_, fun _ => rfl⟩
  simp only [← htk] at HGO HI
  clear htk
  obtain ⟨op, table, kind, all, cond, ck, ⟨ea, en, ec⟩, exprs, ⟨ga, gn, gc⟩, agg, ⟨ta, tn, tc⟩, typ, ⟨ra, rn, rc⟩, row, val⟩ := p
  obtain ⟨ka, kn, kc⟩ := ks
  simp only at *
  have HOS := HO
  have HHS : Hid (Hold w v (w.alloc (.cells #[.int .i64 op, .string table, .int .i64 kind, .bool all, .int .i64 cond.op, .int .i64 cond.ty, .int .i64 cond.num, .string cond.text, .int .i64 cond.col, .slice ck.a ck.len ck.cap, .slice ea en ec, .slice ga gn gc, .slice ta tn tc, .slice ra rn rc, .slice ka kn kc] 63)) v) := Lib.hid (Hold.ofBelow (by repeat first | with_reducible exact Below.refl _ _ | with_reducible refine Below.setCell ?_ (by first | omega | (simp; done) | (simp; omega)) _ | with_reducible refine Below.alloc ?_ (by first | omega | (simp; done) | (simp; omega)) _ | with_reducible refine Below.drew ?_ | with_reducible refine Ext.on _ ?_ (by first | omega | (simp; done) | (simp; omega))))
  have HOS : Hid ((w.alloc (.cells #[.int .i64 op, .string table, .int .i64 kind, .bool all, .int .i64 cond.op, .int .i64 cond.ty, .int .i64 cond.num, .string cond.text, .int .i64 cond.col, .slice ck.a ck.len ck.cap, .slice ea en ec, .slice ga gn gc, .slice ta tn tc, .slice ra rn rc, .slice ka kn kc] 63)).ownsRow w0.heap.size 9 1 v xs.length (flatS xs)) := Lib.hid (own_later' HO.out (by repeat first | with_reducible exact Below.refl _ _ | with_reducible refine Below.setCell ?_ (by first | omega | (simp; done) | (simp; omega)) _ | with_reducible refine Below.alloc ?_ (by first | omega | (simp; done) | (simp; omega)) _ | with_reducible refine Below.drew ?_ | with_reducible refine Ext.on _ ?_ (by first | omega | (simp; done) | (simp; omega))))
  go_enter Tryd.func62, Tryd.ntmps62
  go_wp2_with fail
  go_loopw [0, 18] (fun u i wr => ∃ (j : Nat) (x : Value), j ≤ kn ∧ i = .int .i64 j ∧ x = u ∧ wr.ownsRow w0.heap.size 9 1 u (xs ++ ct j).length (flatS (xs ++ ct j)) ∧ Hold w v wr u) (fun _ i _ => kn - (intOf i).toNat)
  case atStart => exact ⟨0, _, Nat.zero_le _, rfl, rfl, by rw [HG0.out, List.append_nil]; exact HOS.out, HHS.out⟩
  case round =>
    obtain ⟨j, u, hj, rfl, hu, hou, hhu⟩ := hrel
    subst hu
    have HU := Lib.hid hou
    have HH := Lib.hid hhu
    have HBW : Hid (Below w0.heap.size w0 wr) := Lib.hid (HB0.out.trans (hhu.below HO.out hbase))
    have hws := hhu.size
    clear hou hhu
    by_cases hlt : j < kn
    · obtain ⟨b2, off2, ha2, hb2', hc2⟩ := HKD.out.2.2.2 j hlt
      simp only at ha2
      subst ha2
      have hb3 : b2 < wr.heap.size := by omega
      have p0 := (HBW.out.cell (p := ⟨b2, _, none⟩) hb2').trans (hc2 0 (by omega))
      have p1 := (HBW.out.cell (p := ⟨b2, _, none⟩) hb2').trans (hc2 1 (by omega))
      have p2 := (HBW.out.cell (p := ⟨b2, _, none⟩) hb2').trans (hc2 2 (by omega))
      have p3 := (HBW.out.cell (p := ⟨b2, _, none⟩) hb2').trans (hc2 3 (by omega))
      have p4 := (HBW.out.cell (p := ⟨b2, _, none⟩) hb2').trans (hc2 4 (by omega))
      have p5 := (HBW.out.cell (p := ⟨b2, _, none⟩) hb2').trans (hc2 5 (by omega))
      have p6 := (HBW.out.cell (p := ⟨b2, _, none⟩) hb2').trans (hc2 6 (by omega))
      have p7 := (HBW.out.cell (p := ⟨b2, _, none⟩) hb2').trans (hc2 7 (by omega))
      have p8 := (HBW.out.cell (p := ⟨b2, _, none⟩) hb2').trans (hc2 8 (by omega))
      have p9 := (HBW.out.cell (p := ⟨b2, _, none⟩) hb2').trans (hc2 9 (by omega))
      have p10 := (HBW.out.cell (p := ⟨b2, _, none⟩) hb2').trans (hc2 10 (by omega))
      have p11 := (HBW.out.cell (p := ⟨b2, _, none⟩) hb2').trans (hc2 11 (by omega))
      have p12 := (HBW.out.cell (p := ⟨b2, _, none⟩) hb2').trans (hc2 12 (by omega))
      have p13 := (HBW.out.cell (p := ⟨b2, _, none⟩) hb2').trans (hc2 13 (by omega))
      have p14 := (HBW.out.cell (p := ⟨b2, _, none⟩) hb2').trans (hc2 14 (by omega))
      simp only [Qy.cells, Sl.v, List.getElem?_cons_zero, List.getElem?_cons_succ, Nat.add_zero] at p0 p1 p2 p3 p4 p5 p6 p7 p8 p9 p10 p11 p12 p13 p14
      have HG := Lib.hid (HGO.out j)
      have HC : Hid ((xs ++ ct j).length + cntQ (kid j) ≤ 2 ^ 22) := Lib.hid (by have h := HCC.out j hlt; simp only [List.length_append]; omega)
      have C1 : Hid (∀ W, Below wr.heap.size wr W → Calls Tryd.prog 62 #[u, .agg #[.int .i64 (kid j).p.op, .string (kid j).p.table, .int .i64 (kid j).p.kind, .bool (kid j).p.all, .int .i64 (kid j).p.cond.op, .int .i64 (kid j).p.cond.ty, .int .i64 (kid j).p.cond.num, .string (kid j).p.cond.text, .int .i64 (kid j).p.cond.col, .slice (kid j).p.ck.a (kid j).p.ck.len (kid j).p.ck.cap, .slice (kid j).p.es.a (kid j).p.es.len (kid j).p.es.cap, .slice (kid j).p.gs.a (kid j).p.gs.len (kid j).p.gs.cap, .slice (kid j).p.ts.a (kid j).p.ts.len (kid j).p.ts.cap, .slice (kid j).p.rs.a (kid j).p.rs.len (kid j).p.rs.cap, .slice (kid j).ks.a (kid j).ks.len (kid j).ks.cap]] W fun r w' => ∃ v', r = .returned v' ∧ w'.ownsRow w0.heap.size 9 1 v' ((xs ++ ct j) ++ tk j).length (flatS ((xs ++ ct j) ++ tk j)) ∧ Hold W u w' v') := Lib.hid (fun W hW => HI.out j hlt u _ W (HBW.out.trans (hW.mono (by omega))) (own_later' HU.out hW) HC.out)
      clear hc2
      rw [List.append_assoc, ← HG.out] at C1
      clear HC
      generalize kid j = k at *
      go_wp2_with (go_at_call 62; ((with_reducible refine (C1.out _ ?_).mono ?_); (· (repeat first | with_reducible exact Below.refl _ _ | with_reducible refine Below.setCell ?_ (by first | omega | (simp; done) | (simp; omega)) _ | with_reducible refine Below.alloc ?_ (by first | omega | (simp; done) | (simp; omega)) _ | with_reducible refine Below.drew ?_ | with_reducible refine Ext.on _ ?_ (by first | omega | (simp; done) | (simp; omega)))); rintro r w2 hq; obtain ⟨v2, rfl, ho2, hh2⟩ := hq; have HO2 := Lib.hid ho2; have HH2 := Lib.hid hh2; clear ho2 hh2))
      go_roundw
      case rel =>
        refine ⟨j + 1, _, by omega, by go_num, rfl, HO2.out, (HH.out.step (Hold.ofBelow ?_)).step HH2.out⟩
        repeat first | with_reducible exact Below.refl _ _ | with_reducible refine Below.setCell ?_ (by first | omega | (simp; done) | (simp; omega)) _ | with_reducible refine Below.alloc ?_ (by first | omega | (simp; done) | (simp; omega)) _ | with_reducible refine Below.drew ?_ | with_reducible refine Ext.on _ ?_ (by first | omega | (simp; done) | (simp; omega))
      case measure => simp [intOf]; omega
    · obtain rfl : kn = j := by omega
      rw [HT.out] at HU
      go_wp2_with fail
      go_ret
      exact ⟨u, rfl, HU.out, HH.out⟩
set_option maxHeartbeats 8000000 in
set_option maxRecDepth 20000 in
theorem tapp_yes (p : Qr) (ks : Sl) (kid : Nat → Qy) (ih : ∀ i, TAppOf (kid i)) (hop : p.op = 1) : TAppOf (.mk p ks kid) := by
  intro w0 v xs w h hB hown hcnt
  have hp := h.part
  have hq := h.slice
  have hkid := h.kid
  simp only [Qy.p, Qy.ks, Qy.kid] at hp hq hkid
  have HKD : Hid (SlAt w0 15 ks fun i => (kid i).cells) := Lib.hid hq
  have hbase := hB.size
  have HB0 := Lib.hid hB
  have HO := Lib.hid hown
  have HVB : Hid (v.ownBlock ≠ some w.heap.size) := Lib.hid (fun h => by have := (hown.lt _ h).2; omega)
  have hcc : xs.length + (1 + cntP p + sumN (fun i => cntQ (kid i)) ks.len) ≤ 2 ^ 22 := hcnt
  have HCL : Hid (xs.length + 1 ≤ 2 ^ 22) := Lib.hid (by omega)
  have HCC : Hid (∀ j, j < ks.len → xs.length + 1 + (catN (fun i => tabsQ (kid i)) j).length + cntQ (kid j) ≤ 2 ^ 22) := Lib.hid (fun j hj => by
    have h1 := catN_len (f := fun i => tabsQ (kid i)) (g := fun i => cntQ (kid i)) (n := j) fun i _ => tabs_len _
    have h2 := sumN_mono (f := fun i => cntQ (kid i)) (m := j + 1) (n := ks.len) hj
    have h3 : sumN (fun i => cntQ (kid i)) (j + 1) = sumN (fun i => cntQ (kid i)) j + cntQ (kid j) := rfl
    omega)
  have HGO : Hid (∀ j, catN (fun i => tabsQ (kid i)) (j + 1) = catN (fun i => tabsQ (kid i)) j ++ tabsQ (kid j)) := Lib.hid (fun _ => rfl)
  have HG0 : Hid (catN (fun i => tabsQ (kid i)) 0 = []) := Lib.hid rfl
  have HI : Hid (∀ i, i < ks.len → ∀ (v : Value) (xs : List Bs) (w : World), Below w0.heap.size w0 w → w.ownsRow w0.heap.size 9 1 v xs.length (flatS xs) → xs.length + cntQ (kid i) ≤ 2 ^ 22 → Calls Tryd.prog 62 #[v, .agg #[.int .i64 (kid i).p.op, .string (kid i).p.table, .int .i64 (kid i).p.kind, .bool (kid i).p.all, .int .i64 (kid i).p.cond.op, .int .i64 (kid i).p.cond.ty, .int .i64 (kid i).p.cond.num, .string (kid i).p.cond.text, .int .i64 (kid i).p.cond.col, .slice (kid i).p.ck.a (kid i).p.ck.len (kid i).p.ck.cap, .slice (kid i).p.es.a (kid i).p.es.len (kid i).p.es.cap, .slice (kid i).p.gs.a (kid i).p.gs.len (kid i).p.gs.cap, .slice (kid i).p.ts.a (kid i).p.ts.len (kid i).p.ts.cap, .slice (kid i).p.rs.a (kid i).p.rs.len (kid i).p.rs.cap, .slice (kid i).ks.a (kid i).ks.len (kid i).ks.cap]] w fun r w' => ∃ v', r = .returned v' ∧ w'.ownsRow w0.heap.size 9 1 v' (xs ++ tabsQ (kid i)).length (flatS (xs ++ tabsQ (kid i))) ∧ Hold w v w' v') := Lib.hid (fun i hi v xs w => ih i w0 v xs w (hkid i hi))
  have hkn : ks.len ≤ maxLen := Nat.le_trans HKD.out.1 HKD.out.2.1
  unfold maxLen at hkn
  have HT : Hid ((xs ++ [p.table.data.toList]) ++ catN (fun i => tabsQ (kid i)) ks.len = xs ++ tabsQ (.mk p ks kid)) := Lib.hid (by
    have e : tab1 p = [p.table.data.toList] := by unfold tab1; rw [if_pos hop]
    show _ = xs ++ (tab1 p ++ _)
    rw [e, List.append_assoc])
  obtain ⟨i0, hi, hz0, hz1, hz2⟩ := info_parts infoS
  have b1 : (p.op == 1) = true := by simp [hop]
  clear hop
  simp only [Qy.p, Qy.ks] at ⊢
  clear h hp hq hkid hB hown hcnt hcc ih
  generalize tabsQ (.mk p ks kid) = ttot at *
  generalize hct : catN (fun i => tabsQ (kid i)) = ct at *
  clear hct
  obtain ⟨tk, htk⟩ : ∃ tk : Nat → List Bs, ∀ j, tk j = tabsQ (kid j) := ⟨_, fun _ => rfl⟩
  simp only [← htk] at HGO HI
  clear htk
  obtain ⟨op, table, kind, all, cond, ck, ⟨ea, en, ec⟩, exprs, ⟨ga, gn, gc⟩, agg, ⟨ta, tn, tc⟩, typ, ⟨ra, rn, rc⟩, row, val⟩ := p
  obtain ⟨ka, kn, kc⟩ := ks
  simp only at *
  go_enter Tryd.func62, Tryd.ntmps62
  go_wp2_with (at_builtin; refine wpList_append_own_at _ rfl _ _ 74 rfl w0.heap.size 9 i0 (.string ⟨#[]⟩) 1 16 Tryd.underlying74 hi hz0 hz1 hz2 rfl (by decide) v xs.length (flatS xs) rfl (own_later' HO.out (by repeat first | with_reducible exact Below.refl _ _ | with_reducible refine Below.setCell ?_ (by first | omega | (simp; done) | (simp; omega)) _ | with_reducible refine Below.alloc ?_ (by first | omega | (simp; done) | (simp; omega)) _ | with_reducible refine Below.drew ?_ | with_reducible refine Ext.on _ ?_ (by first | omega | (simp; done) | (simp; omega)))) ⟨w.heap.size + 1, 0, none⟩ 1 1 [.string table] rfl rfl (cells_new2 _ _ _ _) (fun u hu => by rcases List.mem_singleton.1 hu with rfl; rfl) (by have := HCL.out; unfold maxLen; omega) (by have := HCL.out; omega) (by simp; omega) ?_; intro v1 w1 hown1 hg1 _ hat1; have HHS : Hid (Hold w v w1 v1) := Lib.hid ((Hold.ofBelow (by repeat first | with_reducible exact Below.refl _ _ | with_reducible refine Below.setCell ?_ (by first | omega | (simp; done) | (simp; omega)) _ | with_reducible refine Below.alloc ?_ (by first | omega | (simp; done) | (simp; omega)) _ | with_reducible refine Below.drew ?_ | with_reducible refine Ext.on _ ?_ (by first | omega | (simp; done) | (simp; omega)))).step (Hold.grown hg1 hat1)); have HOS : Hid (w1.ownsRow w0.heap.size 9 1 v1 (xs ++ [table.data.toList]).length (flatS (xs ++ [table.data.toList]))) := Lib.hid (by rw [flatS_append, List.length_append]; exact hown1); have HBX : Hid (w1.heap[w.heap.size]? = some (.cells #[.int .i64 op, .string table, .int .i64 kind, .bool all, .int .i64 cond.op, .int .i64 cond.ty, .int .i64 cond.num, .string cond.text, .int .i64 cond.col, .slice ck.a ck.len ck.cap, .slice ea en ec, .slice ga gn gc, .slice ta tn tc, .slice ra rn rc, .slice ka kn kc] 63)) := Lib.hid ((hg1.block w.heap.size (by simp; omega) (fun e' => HVB.out e'.symm)).trans ((Below.heap_alloc _ _ _ (by simp)).trans (heap_alloc_new w _))); have c14 : w1.cell? ⟨w.heap.size, 14, none⟩ = some (.slice ka kn kc) := (by rw [cell_of_row _ _ _ _ _ (0, 0) HBX.out]; rfl); have l1 : w.heap.size < w1.heap.size := (Array.getElem?_eq_some_iff.1 HBX.out).1; clear hown1 hg1 hat1)
  go_loopw [0, 18] (fun u i wr => ∃ (j : Nat) (x : Value), j ≤ kn ∧ i = .int .i64 j ∧ x = u ∧ wr.ownsRow w0.heap.size 9 1 u ((xs ++ [table.data.toList]) ++ ct j).length (flatS ((xs ++ [table.data.toList]) ++ ct j)) ∧ Hold w v wr u) (fun _ i _ => kn - (intOf i).toNat)
  case atStart => exact ⟨0, _, Nat.zero_le _, rfl, rfl, by rw [HG0.out, List.append_nil]; exact HOS.out, HHS.out⟩
  case round =>
    obtain ⟨j, u, hj, rfl, hu, hou, hhu⟩ := hrel
    subst hu
    have HU := Lib.hid hou
    have HH := Lib.hid hhu
    have HBW : Hid (Below w0.heap.size w0 wr) := Lib.hid (HB0.out.trans (hhu.below HO.out hbase))
    have hws := hhu.size
    clear hou hhu
    by_cases hlt : j < kn
    · obtain ⟨b2, off2, ha2, hb2', hc2⟩ := HKD.out.2.2.2 j hlt
      simp only at ha2
      subst ha2
      have hb3 : b2 < wr.heap.size := by omega
      have p0 := (HBW.out.cell (p := ⟨b2, _, none⟩) hb2').trans (hc2 0 (by omega))
      have p1 := (HBW.out.cell (p := ⟨b2, _, none⟩) hb2').trans (hc2 1 (by omega))
      have p2 := (HBW.out.cell (p := ⟨b2, _, none⟩) hb2').trans (hc2 2 (by omega))
      have p3 := (HBW.out.cell (p := ⟨b2, _, none⟩) hb2').trans (hc2 3 (by omega))
      have p4 := (HBW.out.cell (p := ⟨b2, _, none⟩) hb2').trans (hc2 4 (by omega))
      have p5 := (HBW.out.cell (p := ⟨b2, _, none⟩) hb2').trans (hc2 5 (by omega))
      have p6 := (HBW.out.cell (p := ⟨b2, _, none⟩) hb2').trans (hc2 6 (by omega))
      have p7 := (HBW.out.cell (p := ⟨b2, _, none⟩) hb2').trans (hc2 7 (by omega))
      have p8 := (HBW.out.cell (p := ⟨b2, _, none⟩) hb2').trans (hc2 8 (by omega))
      have p9 := (HBW.out.cell (p := ⟨b2, _, none⟩) hb2').trans (hc2 9 (by omega))
      have p10 := (HBW.out.cell (p := ⟨b2, _, none⟩) hb2').trans (hc2 10 (by omega))
      have p11 := (HBW.out.cell (p := ⟨b2, _, none⟩) hb2').trans (hc2 11 (by omega))
      have p12 := (HBW.out.cell (p := ⟨b2, _, none⟩) hb2').trans (hc2 12 (by omega))
      have p13 := (HBW.out.cell (p := ⟨b2, _, none⟩) hb2').trans (hc2 13 (by omega))
      have p14 := (HBW.out.cell (p := ⟨b2, _, none⟩) hb2').trans (hc2 14 (by omega))
      simp only [Qy.cells, Sl.v, List.getElem?_cons_zero, List.getElem?_cons_succ, Nat.add_zero] at p0 p1 p2 p3 p4 p5 p6 p7 p8 p9 p10 p11 p12 p13 p14
      have HG := Lib.hid (HGO.out j)
      have HC : Hid (((xs ++ [table.data.toList]) ++ ct j).length + cntQ (kid j) ≤ 2 ^ 22) := Lib.hid (by have h := HCC.out j hlt; simp only [List.length_append, List.length_cons, List.length_nil]; omega)
      have C1 : Hid (∀ W, Below wr.heap.size wr W → Calls Tryd.prog 62 #[u, .agg #[.int .i64 (kid j).p.op, .string (kid j).p.table, .int .i64 (kid j).p.kind, .bool (kid j).p.all, .int .i64 (kid j).p.cond.op, .int .i64 (kid j).p.cond.ty, .int .i64 (kid j).p.cond.num, .string (kid j).p.cond.text, .int .i64 (kid j).p.cond.col, .slice (kid j).p.ck.a (kid j).p.ck.len (kid j).p.ck.cap, .slice (kid j).p.es.a (kid j).p.es.len (kid j).p.es.cap, .slice (kid j).p.gs.a (kid j).p.gs.len (kid j).p.gs.cap, .slice (kid j).p.ts.a (kid j).p.ts.len (kid j).p.ts.cap, .slice (kid j).p.rs.a (kid j).p.rs.len (kid j).p.rs.cap, .slice (kid j).ks.a (kid j).ks.len (kid j).ks.cap]] W fun r w' => ∃ v', r = .returned v' ∧ w'.ownsRow w0.heap.size 9 1 v' (((xs ++ [table.data.toList]) ++ ct j) ++ tk j).length (flatS (((xs ++ [table.data.toList]) ++ ct j) ++ tk j)) ∧ Hold W u w' v') := Lib.hid (fun W hW => HI.out j hlt u _ W (HBW.out.trans (hW.mono (by omega))) (own_later' HU.out hW) HC.out)
      clear hc2
      rw [List.append_assoc, ← HG.out] at C1
      clear HC
      generalize kid j = k at *
      go_wp2_with (go_at_call 62; ((with_reducible refine (C1.out _ ?_).mono ?_); (· (repeat first | with_reducible exact Below.refl _ _ | with_reducible refine Below.setCell ?_ (by first | omega | (simp; done) | (simp; omega)) _ | with_reducible refine Below.alloc ?_ (by first | omega | (simp; done) | (simp; omega)) _ | with_reducible refine Below.drew ?_ | with_reducible refine Ext.on _ ?_ (by first | omega | (simp; done) | (simp; omega)))); rintro r w2 hq; obtain ⟨v2, rfl, ho2, hh2⟩ := hq; have HO2 := Lib.hid ho2; have HH2 := Lib.hid hh2; clear ho2 hh2))
      go_roundw
      case rel =>
        refine ⟨j + 1, _, by omega, by go_num, rfl, HO2.out, (HH.out.step (Hold.ofBelow ?_)).step HH2.out⟩
        repeat first | with_reducible exact Below.refl _ _ | with_reducible refine Below.setCell ?_ (by first | omega | (simp; done) | (simp; omega)) _ | with_reducible refine Below.alloc ?_ (by first | omega | (simp; done) | (simp; omega)) _ | with_reducible refine Below.drew ?_ | with_reducible refine Ext.on _ ?_ (by first | omega | (simp; done) | (simp; omega))
      case measure => simp [intOf]; omega
    · obtain rfl : kn = j := by omega
      rw [HT.out] at HU
      go_wp2_with fail
      go_ret
      exact ⟨u, rfl, HU.out, HH.out⟩
theorem appendTables_calls : ∀ q : Qy, TAppOf q := by
  intro q
  induction q with
  | nil => intro w0 v xs w h; cases h
  | mk p ks kid ih =>
    by_cases hop : p.op = 1
    · exact tapp_yes p ks kid ih hop
    · exact tapp_no p ks kid ih hop
theorem holdsS {w : World} {g : Nat} {cur : Array Value} {e : TypeId} {xs : List Bs} (hb : w.heap[g]? = some (.cells cur e (0, 0))) (ht : cur.toList.take xs.length = flatS xs) : Go.Sort.Holds encStr w g 0 xs.toArray := by
  intro j hj
  have hj' : j < xs.length := by simpa using hj
  refine ⟨?_, by simp [World.frozen?, hb]⟩
  have h1 : (cur.toList.take xs.length)[j]? = (flatS xs)[j]? := by rw [ht]
  rw [List.getElem?_take_of_lt hj'] at h1
  simp only [World.cell?, hb, Nat.zero_add]
  simp only [Option.isSome_none, Bool.false_eq_true, if_false]
  rw [← Array.getElem?_toList, h1]
  simp [flatS, hj']
theorem heap_put {w : World} {g n : Nat} {cur : Array Value} {e : TypeId} {fr : Nat × Nat} (d : Array Bs) (hb : w.heap[g]? = some (.cells cur e fr)) :
    (putRow encStr (Sort.ahead w n) g 0 d).heap[g]? = some (.cells (putCells encStr 0 d cur) e fr) := by
  simp [putRow, mapBlock, Sort.ahead, Array.getElem?_modify, hb, onCells]
theorem below_put {w : World} {base g n : Nat} (d : Array Bs) (hg : base ≤ g) (hb : base ≤ w.heap.size) : Below base w (putRow encStr (Sort.ahead w n) g 0 d) := by
  refine ⟨rfl, rfl, rfl, by simp [putRow, mapBlock, Sort.ahead], fun k hk => ?_⟩
  have hne : g ≠ k := by omega
  simp [putRow, mapBlock, Sort.ahead, Array.getElem?_modify, hne]
theorem below_grow {base : Nat} {w w' : World} (h : Below base w w') (os : Array Obj) (hb : base ≤ w.heap.size) : Below base w (grow w' os) := by
  refine ⟨h.os, h.tape, h.output, Nat.le_trans h.size (by simp [grow]), fun k hk => ?_⟩
  rw [heap_grow_old _ _ (by have := h.size; omega)]
  exact h.block k hk
theorem take_putS (cur : Array Value) (ts : List Bs) (h : ts.length ≤ cur.size) : (putCells encStr 0 ts.toArray cur).toList.take ts.length = flatS ts := by
  apply List.ext_getElem?
  intro j
  by_cases hj : j < ts.length
  · rw [List.getElem?_take_of_lt hj, Array.getElem?_toList]
    simp [putCells, flatS, hj, show j < cur.size by omega]
  · rw [List.getElem?_take_eq_none (by omega), List.getElem?_eq_none (by simp [flatS]; omega)]
theorem own_base {w : World} {base n size : Nat} {e : TypeId} {v : Value} {xs : List Value} (h : w.ownsRow base e size v n xs) {g : Nat} (hg : v.ownBlock = some g) : base ≤ w.heap.size := by
  have := h.lt g hg; omega
theorem SortS_own (base : Nat) (v : Value) (xs : List Bs) (w : World) (h : w.ownsRow base 9 1 v xs.length (flatS xs)) (hl : xs.length ≤ 2 ^ 40) :
    Calls Tryd.prog 63 #[v] w fun r w' => r = .returned (.tuple #[]) ∧ w'.ownsRow base 9 1 v (srtS xs).length (flatS (srtS xs)) ∧ Below base w w' := by
  rcases h.2 with ⟨rfl, h0⟩ | ⟨g, cap, cur, rfl, hb, hh, hn, hc, hr, ht⟩
  · obtain rfl : xs = [] := List.eq_nil_of_length_eq_zero h0
    refine (Tryd.slices_Sort_string_none none 0 w).mono fun r w' ⟨hr, hw⟩ => ?_
    subst hr hw
    have e : srtS [] = [] := List.eq_nil_of_length_eq_zero (srtS_len [])
    exact ⟨rfl, by rw [e]; exact h, Below.refl _ _⟩
  · have hlt := (Array.getElem?_eq_some_iff.1 hh).1
    rw [Nat.mul_one] at ht hr
    refine (Tryd.slices_Sort_string g 0 cap xs w (holdsS hh ht) hlt (by omega)).mono fun r w' ⟨hr', n, os, hw⟩ => ?_
    subst hr' hw
    refine ⟨rfl, ?_, below_grow (below_put _ hb (by omega)) _ (by omega)⟩
    refine ⟨by simp [flatS], .inr ⟨g, cap, putCells encStr 0 (srtS xs).toArray cur, by rw [srtS_len], hb, ?_, by rw [srtS_len]; exact hn, hc, by simp [putCells, hr], ?_⟩⟩
    · rw [heap_grow_old _ _ (by simpa [putRow, mapBlock, Sort.ahead] using hlt)]
      exact heap_put _ hh
    · rw [Nat.mul_one]
      exact take_putS cur (srtS xs) (by rw [srtS_len]; omega)
theorem StrsIn.cut {w : World} {a : Option Addr} {n c m : Nat} {l : List Bs} (h : StrsIn w ⟨a, n, c⟩ l) (hm : m ≤ l.length) : StrsIn w ⟨a, m, c⟩ (l.take m) := by
  have hn : n = l.length := h.1
  have hc : n ≤ c := h.2.1
  refine ⟨(List.length_take_of_le hm).symm, by show m ≤ c; omega, h.2.2.1, fun ha => ?_, fun i hi => ?_⟩
  · have h1 : n = 0 ∧ c = 0 := h.2.2.2.1 ha
    exact ⟨by show m = 0; omega, h1.2⟩
  · have hi2 : i < m := hi
    obtain ⟨b, off, ha, hb, hcell⟩ := h.2.2.2.2 i (by show i < n; omega)
    refine ⟨b, off, ha, hb, fun j hj => ?_⟩
    rw [hcell j hj]
    simp [sC, List.getD, hi2]
theorem CompactS_own (base : Nat) (v : Value) (xs : List Bs) (w : World) (h : w.ownsRow base 9 1 v xs.length (flatS xs)) (hl : xs.length ≤ 2 ^ 40) :
    Calls Tryd.prog 64 #[v] w fun r w' => ∃ s : Sl, r = .returned (.slice s.a s.len s.cap) ∧ StrsIn w' s (Lib.compact xs) ∧ Below base w w' := by
  rcases h.2 with ⟨rfl, h0⟩ | ⟨g, cap, cur, rfl, hb, hh, hn, hc, hr, ht⟩
  · obtain rfl : xs = [] := List.eq_nil_of_length_eq_zero h0
    refine (Tryd.slices_Compact_string_empty none 0 w).mono fun r w' ⟨hr, hw⟩ => ?_
    subst hr hw
    exact ⟨Sl.z, rfl, by rw [compactS_nil]; exact StrsIn.nil, Below.refl _ _⟩
  · have hlt := (Array.getElem?_eq_some_iff.1 hh).1
    rw [Nat.mul_one] at ht hr
    refine (Tryd.slices_Compact_string g 0 cap xs w (holdsS hh ht) (by omega) hn).mono fun r w' ⟨hr', n, hw⟩ => ?_
    subst hr' hw
    have hcl := compactS_len xs
    refine ⟨⟨some ⟨g, 0, none⟩, (Lib.compact xs).length, cap⟩, rfl, ?_, below_put _ hb (by omega)⟩
    have hlen : (Lib.compact xs ++ List.replicate (xs.length - (Lib.compact xs).length) ([] : Bs)).length = xs.length := by simp; omega
    have hown : (putRow encStr (Sort.ahead w n) g 0 (Lib.compact xs ++ List.replicate (xs.length - (Lib.compact xs).length) ([] : Bs)).toArray).ownsRow base 9 1 (.slice (some ⟨g, 0, none⟩) xs.length cap) (Lib.compact xs ++ List.replicate (xs.length - (Lib.compact xs).length) ([] : Bs)).length (flatS (Lib.compact xs ++ List.replicate (xs.length - (Lib.compact xs).length) ([] : Bs))) := by
      refine ⟨by simp [flatS], .inr ⟨g, cap, putCells encStr 0 (Lib.compact xs ++ List.replicate (xs.length - (Lib.compact xs).length) ([] : Bs)).toArray cur, by rw [hlen], hb, heap_put _ hh, by rw [hlen]; exact hn, hc, by simp [putCells, hr], ?_⟩⟩
      rw [Nat.mul_one]
      exact take_putS cur _ (by rw [hlen]; omega)
    obtain ⟨s, hs, hin⟩ := StrsIn.of_own hown
    obtain ⟨sa, sn, sc⟩ := s
    simp only [Sl.v, Value.slice.injEq] at hs
    obtain ⟨rfl, rfl, rfl⟩ := hs
    have h2 := hin.cut (m := (Lib.compact xs).length) (by rw [hlen]; exact hcl)
    rwa [List.take_left' rfl] at h2
set_option maxHeartbeats 4000000 in
set_option maxRecDepth 20000 in
theorem Tables_calls (q : Qy) (w : World) (h : QAt w q) (hc : cntQ q ≤ 2 ^ 21) :
    Calls Tryd.prog 30 #[.agg #[.int .i64 q.p.op, .string q.p.table, .int .i64 q.p.kind, .bool q.p.all, .int .i64 q.p.cond.op, .int .i64 q.p.cond.ty, .int .i64 q.p.cond.num, .string q.p.cond.text, .int .i64 q.p.cond.col, .slice q.p.ck.a q.p.ck.len q.p.ck.cap, .slice q.p.es.a q.p.es.len q.p.es.cap, .slice q.p.gs.a q.p.gs.len q.p.gs.cap, .slice q.p.ts.a q.p.ts.len q.p.ts.cap, .slice q.p.rs.a q.p.rs.len q.p.rs.cap, .slice q.ks.a q.ks.len q.ks.cap]] w fun r w' => ∃ s : Sl, r = .returned (.slice s.a s.len s.cap) ∧ StrsIn w' s (rtabsQ q) ∧ Cls w w' := by
  have C1 : Hid (∀ W, Below w.heap.size w W → Calls Tryd.prog 62 #[.slice none 0 0, .agg #[.int .i64 q.p.op, .string q.p.table, .int .i64 q.p.kind, .bool q.p.all, .int .i64 q.p.cond.op, .int .i64 q.p.cond.ty, .int .i64 q.p.cond.num, .string q.p.cond.text, .int .i64 q.p.cond.col, .slice q.p.ck.a q.p.ck.len q.p.ck.cap, .slice q.p.es.a q.p.es.len q.p.es.cap, .slice q.p.gs.a q.p.gs.len q.p.gs.cap, .slice q.p.ts.a q.p.ts.len q.p.ts.cap, .slice q.p.rs.a q.p.rs.len q.p.rs.cap, .slice q.ks.a q.ks.len q.ks.cap]] W fun r w' => ∃ v', r = .returned v' ∧ w'.ownsRow w.heap.size 9 1 v' (tabsQ q).length (flatS (tabsQ q)) ∧ Below w.heap.size w w') := Lib.hid (fun W hW =>
    (appendTables_calls q w (.slice none 0 0) [] W h hW (World.ownsRow_nil _ _ _ 1) (by simp; omega)).mono fun r w' ⟨v', hr, ho, hh⟩ => ⟨v', hr, ho, hW.trans (hh.below (World.ownsRow_nil _ _ 9 1) hW.size)⟩)
  have HL : Hid ((tabsQ q).length ≤ 2 ^ 40) := Lib.hid (Nat.le_trans (tabs_len q) (by omega))
  have HE : Hid (Lib.compact (srtS (tabsQ q)) = rtabsQ q) := Lib.hid (ptabs_eq q)
  clear h hc
  generalize tabsQ q = ts at *
  generalize rtabsQ q = rts at *
  generalize q.p = p at *
  generalize q.ks = ks at *
  go_enter Tryd.func30, Tryd.ntmps30
  go_wp2_with (first | (go_at_call 62; ((with_reducible refine (C1.out _ ?_).mono ?_); (· (repeat first | with_reducible exact Below.refl _ _ | with_reducible refine Below.setCell ?_ (by first | omega | (simp; done) | (simp; omega)) _ | with_reducible refine Below.alloc ?_ (by first | omega | (simp; done) | (simp; omega)) _ | with_reducible refine Below.drew ?_ | with_reducible refine Ext.on _ ?_ (by first | omega | (simp; done) | (simp; omega)))); rintro r w1 hq; obtain ⟨v1, rfl, ho1, hb1⟩ := hq; have HO1 := Lib.hid ho1; have HB1 := Lib.hid hb1; clear ho1 hb1)) | (go_at_call 63; ((with_reducible refine (SortS_own w.heap.size v1 ts w1 HO1.out HL.out).mono ?_); rintro r w2 hq; obtain ⟨rfl, ho2, hb2⟩ := hq; have HO2 := Lib.hid ho2; have HB2 := Lib.hid (HB1.out.trans hb2); clear ho2 hb2)) | (go_at_call 64; ((with_reducible refine (CompactS_own w.heap.size v1 (srtS ts) w2 HO2.out (by rw [srtS_len]; exact HL.out)).mono ?_); rintro r w3 hq; obtain ⟨s, rfl, hi3, hb3⟩ := hq; have HI3 := Lib.hid hi3; have HB3 := Lib.hid (HB2.out.trans hb3); clear hi3 hb3)))
  go_ret
  exact ⟨s, rfl, by rw [← HE.out]; exact HI3.out, Cls.of HB3.out⟩
end Go.Proofs.YtonnbmiallammaaDoor
