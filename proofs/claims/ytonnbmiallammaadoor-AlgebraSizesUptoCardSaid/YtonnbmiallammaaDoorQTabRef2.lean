/-
  The tables of a query, as the reference gives them.
-/
import Derived.Test.YtonnbmiallammaaDoorQTabRef
import Derived.Test.YtonnbmiallammaaDoorQFew
import Derived.LoopTactic
set_option linter.unusedVariables false
namespace Go.Proofs.YtonnbmiallammaaDoor
open Go Go.RowKit Go.Deep
theorem foldS_len (m : List Bs) : ∀ acc : List Bs, (m.foldl insS acc).length ≤ acc.length + m.length := by
  induction m with
  | nil => intro acc; simp
  | cons y m ih => intro acc; have h1 := ih (insS acc y); have h2 := insS_len acc y; rw [List.foldl_cons, List.length_cons]; omega
theorem takeS {l : List Bs} {j : Nat} (h : j < l.length) : l.take (j + 1) = l.take j ++ [l.getD j []] := by
  rw [List.take_add_one, List.getElem?_eq_getElem h]; simp [List.getD, h]
theorem foldS_go {m acc : List Bs} {k : Nat} (h : k < m.length) : (m.take (k + 1)).foldl insS acc = insS ((m.take k).foldl insS acc) (m.getD k []) := by
  rw [takeS h, List.foldl_append]; rfl
theorem insN_len {f : Nat → List Bs} {g : Nat → Nat} (acc : List Bs) : ∀ {n : Nat}, (∀ i, i < n → (f i).length ≤ g i) → (insN f acc n).length ≤ acc.length + sumN g n
  | 0, _ => Nat.le_refl _
  | n + 1, h => by
    have h1 := insN_len (f := f) (g := g) acc (n := n) fun i hi => h i (by omega)
    have h2 := h n (by omega)
    have h3 := foldS_len (f n) (insN f acc n)
    show ((f n).foldl insS (insN f acc n)).length ≤ acc.length + (sumN g n + g n)
    omega
theorem rtabs_len : ∀ q : Qy, (rtabsQ q).length ≤ cntQ q := by
  intro q
  induction q with
  | nil => exact Nat.le_refl _
  | mk p ks kid ih =>
    have h1 := insN_len (f := fun i => rtabsQ (kid i)) (g := fun i => cntQ (kid i)) (tab1 p) (n := ks.len) fun i _ => ih i
    have h2 : (tab1 p).length ≤ 1 := by unfold tab1; split <;> simp
    show (insN (fun i => rtabsQ (kid i)) (tab1 p) ks.len).length ≤ 1 + cntP p + sumN (fun i => cntQ (kid i)) ks.len
    omega
theorem insertS_use (s : Sl) (l : List Bs) (n : Bs) (nb : ByteArray) (hnb : nb = ⟨n.toArray⟩) (w : World) (h : StrsIn w s l) (hl : l.length ≤ 2 ^ 40) :
    Calls Tryd.prog 65 #[.slice s.a s.len s.cap, .string nb] w fun r w' => ∃ s' : Sl, r = .returned (.slice s'.a s'.len s'.cap) ∧ StrsIn w' s' (insS l n) ∧ Cls w w' := insertS_calls s l n nb hnb w h hl
theorem cells_new2 (w : World) (o : Obj) (l : List Value) (t : TypeId) : ∀ j u, l[j]? = some u → ((w.alloc o).alloc (.cells l.toArray t)).cell? ((⟨w.heap.size + 1, 0, none⟩ : Addr).add j) = some u := by
  have h := cells_new' (w.alloc o) l t
  simpa using h
def RTabsOf (q : Qy) : Prop := ∀ (w : World), QAt w q → cntQ q ≤ 2 ^ 21 → Calls Tryd.prog 31 #[.agg #[.int .i64 q.p.op, .string q.p.table, .int .i64 q.p.kind, .bool q.p.all, .int .i64 q.p.cond.op, .int .i64 q.p.cond.ty, .int .i64 q.p.cond.num, .string q.p.cond.text, .int .i64 q.p.cond.col, .slice q.p.ck.a q.p.ck.len q.p.ck.cap, .slice q.p.es.a q.p.es.len q.p.es.cap, .slice q.p.gs.a q.p.gs.len q.p.gs.cap, .slice q.p.ts.a q.p.ts.len q.p.ts.cap, .slice q.p.rs.a q.p.rs.len q.p.rs.cap, .slice q.ks.a q.ks.len q.ks.cap]] w fun r w' => ∃ s : Sl, r = .returned (.slice s.a s.len s.cap) ∧ StrsIn w' s (rtabsQ q) ∧ Cls w w'
set_option maxHeartbeats 8000000 in
set_option maxRecDepth 20000 in
theorem rtabs_no (p : Qr) (ks : Sl) (kid : Nat → Qy) (ih : ∀ i, RTabsOf (kid i)) (hop : p.op ≠ 1) : RTabsOf (.mk p ks kid) := by
  intro w h hc
  have hp := h.part
  have hq := h.slice
  have hkid := h.kid
  simp only [Qy.p, Qy.ks, Qy.kid] at hp hq hkid
  have HE : Hid (rtabsQ (.mk p ks kid) = insN (fun i => rtabsQ (kid i)) (tab1 p) ks.len) := Lib.hid rfl
  have hcc : 1 + cntP p + sumN (fun i => cntQ (kid i)) ks.len ≤ 2 ^ 21 := hc
  have hkc : ∀ i, i < ks.len → cntQ (kid i) ≤ 2 ^ 21 := fun i hi => Nat.le_trans (sumN_at (f := fun i => cntQ (kid i)) hi) (by omega)
  have HRB : Hid (∀ i, i < ks.len → (rtabsQ (kid i)).length ≤ 2 ^ 21) := Lib.hid (fun i hi => Nat.le_trans (rtabs_len _) (hkc i hi))
  have HAB : Hid (∀ j, j ≤ ks.len → (insN (fun i => rtabsQ (kid i)) (tab1 p) j).length ≤ 2 ^ 22) := Lib.hid (fun j hj => by
    have h1 := insN_len (f := fun i => rtabsQ (kid i)) (g := fun i => cntQ (kid i)) (tab1 p) (n := j) fun i _ => rtabs_len _
    have h2 := sumN_mono (f := fun i => cntQ (kid i)) hj
    have h3 : (tab1 p).length ≤ 1 := by unfold tab1; split <;> simp
    omega)
  have HGO : Hid (∀ j, insN (fun i => rtabsQ (kid i)) (tab1 p) (j + 1) = (rtabsQ (kid j)).foldl insS (insN (fun i => rtabsQ (kid i)) (tab1 p) j)) := Lib.hid (fun _ => rfl)
  have HG0 : Hid (insN (fun i => rtabsQ (kid i)) (tab1 p) 0 = tab1 p) := Lib.hid rfl
  have HKD : Hid (SlAt w 15 ks fun i => (kid i).cells) := Lib.hid hq
  have HI : Hid (∀ i, i < ks.len → ∀ W, Below w.heap.size w W → Calls Tryd.prog 31 #[.agg #[.int .i64 (kid i).p.op, .string (kid i).p.table, .int .i64 (kid i).p.kind, .bool (kid i).p.all, .int .i64 (kid i).p.cond.op, .int .i64 (kid i).p.cond.ty, .int .i64 (kid i).p.cond.num, .string (kid i).p.cond.text, .int .i64 (kid i).p.cond.col, .slice (kid i).p.ck.a (kid i).p.ck.len (kid i).p.ck.cap, .slice (kid i).p.es.a (kid i).p.es.len (kid i).p.es.cap, .slice (kid i).p.gs.a (kid i).p.gs.len (kid i).p.gs.cap, .slice (kid i).p.ts.a (kid i).p.ts.len (kid i).p.ts.cap, .slice (kid i).p.rs.a (kid i).p.rs.len (kid i).p.rs.cap, .slice (kid i).ks.a (kid i).ks.len (kid i).ks.cap]] W fun r w' => ∃ s : Sl, r = .returned (.slice s.a s.len s.cap) ∧ StrsIn w' s (rtabsQ (kid i)) ∧ Cls W w') := Lib.hid (fun i hi W hW => ih i W ((hkid i hi).later hW) (hkc i hi))
  have hkn : ks.len ≤ maxLen := Nat.le_trans HKD.out.1 HKD.out.2.1
  unfold maxLen at hkn
  have HT1 : Hid (tab1 p = []) := Lib.hid (by unfold tab1; rw [if_neg hop])
  simp only [Qy.p, Qy.ks] at ⊢
  clear h hp hq hkid hc hcc hkc ih
  generalize rtabsQ (.mk p ks kid) = rtot at *
  generalize hins : insN (fun i => rtabsQ (kid i)) (tab1 p) = ins at *
  clear hins
  obtain ⟨rt, hrt⟩ : ∃ rt : Nat → List Bs, ∀ j, rt j = rtabsQ (kid j) := ⟨_, fun _ => rfl⟩
  simp only [← hrt] at HRB HGO HI
  clear hrt
  have HG1 : Hid (ins 0 = []) := Lib.hid (by rw [HG0.out, HT1.out])
  have b1 : (p.op == 1) = false := by simp [hop]
  clear hop HT1 HG0
  obtain ⟨op, table, kind, all, cond, ck, ⟨ea, en, ec⟩, exprs, ⟨ga, gn, gc⟩, agg, ⟨ta, tn, tc⟩, typ, ⟨ra, rn, rc⟩, row, val⟩ := p
  obtain ⟨ka, kn, kc⟩ := ks
  simp only at *
  go_enter Tryd.func31, Tryd.ntmps31
  go_wp2_with fail
  go_loopw [3, 4] (fun u i wr => ∃ (j : Nat) (s : Sl), j ≤ kn ∧ i = .int .i64 j ∧ u = .slice s.a s.len s.cap ∧ StrsIn wr s (ins j) ∧ Cls (w.alloc (.cells #[.int .i64 op, .string table, .int .i64 kind, .bool all, .int .i64 cond.op, .int .i64 cond.ty, .int .i64 cond.num, .string cond.text, .int .i64 cond.col, .slice ck.a ck.len ck.cap, .slice ea en ec, .slice ga gn gc, .slice ta tn tc, .slice ra rn rc, .slice ka kn kc] 63)) wr) (fun _ i _ => kn - (intOf i).toNat)
  case atStart => exact ⟨0, Sl.z, Nat.zero_le _, rfl, rfl, by rw [HG1.out]; exact StrsIn.nil, Cls.of (Below.refl _ _)⟩
  case round =>
    obtain ⟨j, s, hj, rfl, rfl, hin, y, rfl⟩ := hrel
    have HIN := Lib.hid hin
    clear hin
    have ys := y.size
    try simp at ys
    have yl : w.heap.size < y.val.heap.size := by omega
    by_cases hlt : j < kn
    · obtain ⟨b2, off2, ha2, hb2', hc2⟩ := HKD.out.2.2.2 j hlt
      simp only at ha2
      subst ha2
      have hb3 : b2 < w.heap.size + 1 := by omega
      have p0 := hc2 0 (by omega)
      have p1 := hc2 1 (by omega)
      have p2 := hc2 2 (by omega)
      have p3 := hc2 3 (by omega)
      have p4 := hc2 4 (by omega)
      have p5 := hc2 5 (by omega)
      have p6 := hc2 6 (by omega)
      have p7 := hc2 7 (by omega)
      have p8 := hc2 8 (by omega)
      have p9 := hc2 9 (by omega)
      have p10 := hc2 10 (by omega)
      have p11 := hc2 11 (by omega)
      have p12 := hc2 12 (by omega)
      have p13 := hc2 13 (by omega)
      have p14 := hc2 14 (by omega)
      simp only [Qy.cells, Sl.v, List.getElem?_cons_zero, List.getElem?_cons_succ, Nat.add_zero] at p0 p1 p2 p3 p4 p5 p6 p7 p8 p9 p10 p11 p12 p13 p14
      have C1 : Hid (∀ W, Below w.heap.size w W → Calls Tryd.prog 31 #[.agg #[.int .i64 (kid j).p.op, .string (kid j).p.table, .int .i64 (kid j).p.kind, .bool (kid j).p.all, .int .i64 (kid j).p.cond.op, .int .i64 (kid j).p.cond.ty, .int .i64 (kid j).p.cond.num, .string (kid j).p.cond.text, .int .i64 (kid j).p.cond.col, .slice (kid j).p.ck.a (kid j).p.ck.len (kid j).p.ck.cap, .slice (kid j).p.es.a (kid j).p.es.len (kid j).p.es.cap, .slice (kid j).p.gs.a (kid j).p.gs.len (kid j).p.gs.cap, .slice (kid j).p.ts.a (kid j).p.ts.len (kid j).p.ts.cap, .slice (kid j).p.rs.a (kid j).p.rs.len (kid j).p.rs.cap, .slice (kid j).ks.a (kid j).ks.len (kid j).ks.cap]] W fun r w' => ∃ s : Sl, r = .returned (.slice s.a s.len s.cap) ∧ StrsIn w' s (rt j) ∧ Cls W w') := Lib.hid (fun W hW => HI.out j hlt W hW)
      have HR := Lib.hid (HRB.out j hlt)
      have HA := Lib.hid (HAB.out j (by omega))
      have HG := Lib.hid (HGO.out j)
      clear hc2
      generalize kid j = k at *
      generalize rt j = rk at *
      generalize ins j = acc at *
      go_wp2_with (go_at_call 31; ((with_reducible refine (C1.out _ ?_).mono ?_); (· (repeat first | with_reducible exact Below.refl _ _ | with_reducible refine Below.setCell ?_ (by first | omega | (simp; done) | (simp; omega)) _ | with_reducible refine Below.alloc ?_ (by first | omega | (simp; done) | (simp; omega)) _ | with_reducible refine Below.drew ?_ | with_reducible refine Ext.on _ ?_ (by first | omega | (simp; done) | (simp; omega)))); rintro r w2 hq; obtain ⟨s2, rfl, h2, z, rfl⟩ := hq; have H2 := Lib.hid h2; clear h2; have zs := z.size))
      go_loopw [3, 6] (fun u i wr => ∃ (k : Nat) (s3 : Sl), k ≤ rk.length ∧ i = .int .i64 k ∧ u = .slice s3.a s3.len s3.cap ∧ StrsIn wr s3 ((rk.take k).foldl insS acc) ∧ Cls z.val wr) (fun _ i _ => rk.length - (intOf i).toNat)
      case atStart => exact ⟨0, s, Nat.zero_le _, rfl, rfl, by rw [List.take_zero, List.foldl_nil]; exact HIN.out.later z.below, Cls.of (Below.refl _ _)⟩
      case round =>
        obtain ⟨k, s3, hk3, rfl, rfl, h3, x, rfl⟩ := hrel
        have H3 := Lib.hid h3
        clear h3
        have hs2l : s2.len = rk.length := H2.out.1
        have hs2c : s2.len ≤ s2.cap := H2.out.2.1
        have hs2m : s2.cap ≤ maxLen := H2.out.2.2.1
        unfold maxLen at hs2m
        have HSL := Lib.hid hs2l
        by_cases hlt3 : k < rk.length
        · obtain ⟨b3, off3, ha3, hb3', q⟩ := H2.out.at_ hlt3
          have HF := Lib.hid (foldS_go (acc := acc) hlt3)
          have HB : Hid (((rk.take k).foldl insS acc).length ≤ 2 ^ 40) := Lib.hid (by have h1 := foldS_len (rk.take k) acc; have h2 := HR.out; have h3 := HA.out; have h4 := List.length_take_le k rk; omega)
          have hlt4 : k < s2.len := by omega
          generalize (rk.take k).foldl insS acc = cur at *
          generalize rk.getD k [] = v at *
          obtain ⟨vb, hvb⟩ : ∃ vb : ByteArray, vb = ⟨v.toArray⟩ := ⟨_, rfl⟩
          rw [show encStr v = .string vb from by rw [hvb]] at q
          have HV := Lib.hid hvb
          clear hvb
          obtain ⟨sa, sn, sc⟩ := s2
          simp only at ha3 hs2l hs2c hs2m hlt4
          subst ha3
          clear hs2l
          go_wp2_with (go_at_call 65; ((with_reducible refine (insertS_use s3 cur v vb HV.out _ H3.out HB.out).mono ?_); rintro r w2 hq; obtain ⟨s4, rfl, h4, t, rfl⟩ := hq; have H4 := Lib.hid h4; clear h4))
          go_roundw
          case rel => exact ⟨k + 1, s4, by omega, by go_num, rfl, by rw [HF.out]; exact H4.out, Cls.of (t.on x.below x.size)⟩
          case measure => simp [intOf]; omega
        · obtain rfl : k = rk.length := by omega
          have hlt4 : ¬ rk.length < s2.len := by omega
          obtain ⟨sa, sn, sc⟩ := s2
          simp only at hs2l hs2c hs2m hlt4
          clear hs2l
          go_wp2_with fail
          go_roundw
          case rel =>
            refine ⟨j + 1, s3, by omega, by go_num, rfl, ?_, Cls.of ?_⟩
            · rw [HG.out]; have h := H3.out; rw [List.take_length] at h; exact h
            · repeat first | with_reducible exact Below.refl _ _ | with_reducible refine Below.setCell ?_ (by first | omega | (simp; done) | (simp; omega)) _ | with_reducible refine Below.alloc ?_ (by first | omega | (simp; done) | (simp; omega)) _ | with_reducible refine Below.drew ?_ | with_reducible refine Ext.on _ ?_ (by first | omega | (simp; done) | (simp; omega))
          case measure => simp [intOf]; omega
    · obtain rfl : kn = j := by omega
      go_wp2_with fail
      go_ret
      refine ⟨s, rfl, by rw [HE.out]; exact HIN.out, Cls.of ?_⟩
      repeat first | with_reducible exact Below.refl _ _ | with_reducible refine Below.setCell ?_ (by first | omega | (simp; done) | (simp; omega)) _ | with_reducible refine Below.alloc ?_ (by first | omega | (simp; done) | (simp; omega)) _ | with_reducible refine Below.drew ?_ | with_reducible refine Ext.on _ ?_ (by first | omega | (simp; done) | (simp; omega))
set_option maxHeartbeats 8000000 in
set_option maxRecDepth 20000 in
theorem rtabs_yes (p : Qr) (ks : Sl) (kid : Nat → Qy) (ih : ∀ i, RTabsOf (kid i)) (hop : p.op = 1) : RTabsOf (.mk p ks kid) := by
  intro w h hc
  have hp := h.part
  have hq := h.slice
  have hkid := h.kid
  simp only [Qy.p, Qy.ks, Qy.kid] at hp hq hkid
  have HE : Hid (rtabsQ (.mk p ks kid) = insN (fun i => rtabsQ (kid i)) (tab1 p) ks.len) := Lib.hid rfl
  have hcc : 1 + cntP p + sumN (fun i => cntQ (kid i)) ks.len ≤ 2 ^ 21 := hc
  have hkc : ∀ i, i < ks.len → cntQ (kid i) ≤ 2 ^ 21 := fun i hi => Nat.le_trans (sumN_at (f := fun i => cntQ (kid i)) hi) (by omega)
  have HRB : Hid (∀ i, i < ks.len → (rtabsQ (kid i)).length ≤ 2 ^ 21) := Lib.hid (fun i hi => Nat.le_trans (rtabs_len _) (hkc i hi))
  have HAB : Hid (∀ j, j ≤ ks.len → (insN (fun i => rtabsQ (kid i)) (tab1 p) j).length ≤ 2 ^ 22) := Lib.hid (fun j hj => by
    have h1 := insN_len (f := fun i => rtabsQ (kid i)) (g := fun i => cntQ (kid i)) (tab1 p) (n := j) fun i _ => rtabs_len _
    have h2 := sumN_mono (f := fun i => cntQ (kid i)) hj
    have h3 : (tab1 p).length ≤ 1 := by unfold tab1; split <;> simp
    omega)
  have HGO : Hid (∀ j, insN (fun i => rtabsQ (kid i)) (tab1 p) (j + 1) = (rtabsQ (kid j)).foldl insS (insN (fun i => rtabsQ (kid i)) (tab1 p) j)) := Lib.hid (fun _ => rfl)
  have HG0 : Hid (insN (fun i => rtabsQ (kid i)) (tab1 p) 0 = tab1 p) := Lib.hid rfl
  have HKD : Hid (SlAt w 15 ks fun i => (kid i).cells) := Lib.hid hq
  have HI : Hid (∀ i, i < ks.len → ∀ W, Below w.heap.size w W → Calls Tryd.prog 31 #[.agg #[.int .i64 (kid i).p.op, .string (kid i).p.table, .int .i64 (kid i).p.kind, .bool (kid i).p.all, .int .i64 (kid i).p.cond.op, .int .i64 (kid i).p.cond.ty, .int .i64 (kid i).p.cond.num, .string (kid i).p.cond.text, .int .i64 (kid i).p.cond.col, .slice (kid i).p.ck.a (kid i).p.ck.len (kid i).p.ck.cap, .slice (kid i).p.es.a (kid i).p.es.len (kid i).p.es.cap, .slice (kid i).p.gs.a (kid i).p.gs.len (kid i).p.gs.cap, .slice (kid i).p.ts.a (kid i).p.ts.len (kid i).p.ts.cap, .slice (kid i).p.rs.a (kid i).p.rs.len (kid i).p.rs.cap, .slice (kid i).ks.a (kid i).ks.len (kid i).ks.cap]] W fun r w' => ∃ s : Sl, r = .returned (.slice s.a s.len s.cap) ∧ StrsIn w' s (rtabsQ (kid i)) ∧ Cls W w') := Lib.hid (fun i hi W hW => ih i W ((hkid i hi).later hW) (hkc i hi))
  have hkn : ks.len ≤ maxLen := Nat.le_trans HKD.out.1 HKD.out.2.1
  unfold maxLen at hkn
  have HT1 : Hid (tab1 p = [p.table.data.toList]) := Lib.hid (by unfold tab1; rw [if_pos hop])
  obtain ⟨i0, hi, hz0, hz1, hz2⟩ := info_parts infoS
  simp only [Qy.p, Qy.ks] at ⊢
  clear h hp hq hkid hc hcc hkc ih
  generalize rtabsQ (.mk p ks kid) = rtot at *
  generalize hins : insN (fun i => rtabsQ (kid i)) (tab1 p) = ins at *
  clear hins
  obtain ⟨rt, hrt⟩ : ∃ rt : Nat → List Bs, ∀ j, rt j = rtabsQ (kid j) := ⟨_, fun _ => rfl⟩
  simp only [← hrt] at HRB HGO HI
  clear hrt
  have HG1 : Hid (ins 0 = [p.table.data.toList]) := Lib.hid (by rw [HG0.out, HT1.out])
  have b1 : (p.op == 1) = true := by simp [hop]
  clear hop HT1 HG0
  obtain ⟨op, table, kind, all, cond, ck, ⟨ea, en, ec⟩, exprs, ⟨ga, gn, gc⟩, agg, ⟨ta, tn, tc⟩, typ, ⟨ra, rn, rc⟩, row, val⟩ := p
  obtain ⟨ka, kn, kc⟩ := ks
  simp only at *
  go_enter Tryd.func31, Tryd.ntmps31
  go_wp2_with (at_builtin; refine wpList_append_own_at _ rfl _ _ 74 rfl w.heap.size 9 i0 (.string ⟨#[]⟩) 1 16 Tryd.underlying74 hi hz0 hz1 hz2 rfl (by decide) (.slice none 0 0) 0 [] rfl (World.ownsRow_nil _ _ _ 1) ⟨w.heap.size + 1, 0, none⟩ 1 1 [.string table] rfl rfl (cells_new2 _ _ _ _) (fun u hu => by rcases List.mem_singleton.1 hu with rfl; rfl) (by unfold maxLen; omega) (by omega) (by first | (simp; done) | (simp; omega)) ?_; intro v1 w1 hown1 hg1 _ hat1; have HB1 : Hid (Below w.heap.size w w1) := Lib.hid (Below.grown (w := (w.alloc _).alloc _) (by repeat first | with_reducible exact Below.refl _ _ | with_reducible refine Below.setCell ?_ (by first | omega | (simp; done) | (simp; omega)) _ | with_reducible refine Below.alloc ?_ (by first | omega | (simp; done) | (simp; omega)) _ | with_reducible refine Below.drew ?_ | with_reducible refine Ext.on _ ?_ (by first | omega | (simp; done) | (simp; omega))) hg1 (by first | (simp; done) | (simp; omega)) (fun k hk => absurd hk (by simp [Value.ownBlock]))); have HBX : Hid (w1.heap[w.heap.size]? = some (.cells #[.int .i64 op, .string table, .int .i64 kind, .bool all, .int .i64 cond.op, .int .i64 cond.ty, .int .i64 cond.num, .string cond.text, .int .i64 cond.col, .slice ck.a ck.len ck.cap, .slice ea en ec, .slice ga gn gc, .slice ta tn tc, .slice ra rn rc, .slice ka kn kc] 63)) := Lib.hid ((hg1.block w.heap.size (by simp; omega) (by simp [Value.ownBlock])).trans ((Below.heap_alloc _ _ _ (by simp)).trans (heap_alloc_new w _))); have HO1 : Hid (w1.ownsRow w.heap.size 9 1 v1 [table.data.toList].length (flatS [table.data.toList])) := Lib.hid hown1; obtain ⟨s0, hs0, h0⟩ := StrsIn.of_own HO1.out; subst hs0; have H0 := Lib.hid h0; have HB1L : Hid (w.heap.size < w1.heap.size) := Lib.hid ((Array.getElem?_eq_some_iff.1 HBX.out).1); have c14 : w1.cell? ⟨w.heap.size, 14, none⟩ = some (.slice ka kn kc) := (by rw [cell_of_row _ _ _ _ _ (0, 0) HBX.out]; rfl); clear hown1 hg1 hat1 h0; have l1 := HB1L.out)
  go_loopw [3, 4] (fun u i wr => ∃ (j : Nat) (s : Sl), j ≤ kn ∧ i = .int .i64 j ∧ u = .slice s.a s.len s.cap ∧ StrsIn wr s (ins j) ∧ Cls w1 wr) (fun _ i _ => kn - (intOf i).toNat)
  case atStart => exact ⟨0, s0, Nat.zero_le _, rfl, rfl, by rw [HG1.out]; exact H0.out, Cls.of (Below.refl _ _)⟩
  case round =>
    obtain ⟨j, s, hj, rfl, rfl, hin, y, rfl⟩ := hrel
    have HIN := Lib.hid hin
    clear hin
    have ys := y.size
    try simp at ys
    have yl : w.heap.size < y.val.heap.size := by have := HB1L.out; omega
    by_cases hlt : j < kn
    · obtain ⟨b2, off2, ha2, hb2', hc2⟩ := HKD.out.2.2.2 j hlt
      simp only at ha2
      subst ha2
      have hb3 : b2 < w1.heap.size := by have := HB1L.out; omega
      have p0 := hc2 0 (by omega)
      have p1 := hc2 1 (by omega)
      have p2 := hc2 2 (by omega)
      have p3 := hc2 3 (by omega)
      have p4 := hc2 4 (by omega)
      have p5 := hc2 5 (by omega)
      have p6 := hc2 6 (by omega)
      have p7 := hc2 7 (by omega)
      have p8 := hc2 8 (by omega)
      have p9 := hc2 9 (by omega)
      have p10 := hc2 10 (by omega)
      have p11 := hc2 11 (by omega)
      have p12 := hc2 12 (by omega)
      have p13 := hc2 13 (by omega)
      have p14 := hc2 14 (by omega)
      simp only [Qy.cells, Sl.v, List.getElem?_cons_zero, List.getElem?_cons_succ, Nat.add_zero] at p0 p1 p2 p3 p4 p5 p6 p7 p8 p9 p10 p11 p12 p13 p14
      have C1 : Hid (∀ W, Below w.heap.size w W → Calls Tryd.prog 31 #[.agg #[.int .i64 (kid j).p.op, .string (kid j).p.table, .int .i64 (kid j).p.kind, .bool (kid j).p.all, .int .i64 (kid j).p.cond.op, .int .i64 (kid j).p.cond.ty, .int .i64 (kid j).p.cond.num, .string (kid j).p.cond.text, .int .i64 (kid j).p.cond.col, .slice (kid j).p.ck.a (kid j).p.ck.len (kid j).p.ck.cap, .slice (kid j).p.es.a (kid j).p.es.len (kid j).p.es.cap, .slice (kid j).p.gs.a (kid j).p.gs.len (kid j).p.gs.cap, .slice (kid j).p.ts.a (kid j).p.ts.len (kid j).p.ts.cap, .slice (kid j).p.rs.a (kid j).p.rs.len (kid j).p.rs.cap, .slice (kid j).ks.a (kid j).ks.len (kid j).ks.cap]] W fun r w' => ∃ s : Sl, r = .returned (.slice s.a s.len s.cap) ∧ StrsIn w' s (rt j) ∧ Cls W w') := Lib.hid (fun W hW => HI.out j hlt W hW)
      have HR := Lib.hid (HRB.out j hlt)
      have HA := Lib.hid (HAB.out j (by omega))
      have HG := Lib.hid (HGO.out j)
      rw [← HB1.out.cell (p := ⟨b2, _, none⟩) hb2'] at p0
      rw [← HB1.out.cell (p := ⟨b2, _, none⟩) hb2'] at p1
      rw [← HB1.out.cell (p := ⟨b2, _, none⟩) hb2'] at p2
      rw [← HB1.out.cell (p := ⟨b2, _, none⟩) hb2'] at p3
      rw [← HB1.out.cell (p := ⟨b2, _, none⟩) hb2'] at p4
      rw [← HB1.out.cell (p := ⟨b2, _, none⟩) hb2'] at p5
      rw [← HB1.out.cell (p := ⟨b2, _, none⟩) hb2'] at p6
      rw [← HB1.out.cell (p := ⟨b2, _, none⟩) hb2'] at p7
      rw [← HB1.out.cell (p := ⟨b2, _, none⟩) hb2'] at p8
      rw [← HB1.out.cell (p := ⟨b2, _, none⟩) hb2'] at p9
      rw [← HB1.out.cell (p := ⟨b2, _, none⟩) hb2'] at p10
      rw [← HB1.out.cell (p := ⟨b2, _, none⟩) hb2'] at p11
      rw [← HB1.out.cell (p := ⟨b2, _, none⟩) hb2'] at p12
      rw [← HB1.out.cell (p := ⟨b2, _, none⟩) hb2'] at p13
      rw [← HB1.out.cell (p := ⟨b2, _, none⟩) hb2'] at p14
      clear hc2
      generalize kid j = k at *
      generalize rt j = rk at *
      generalize ins j = acc at *
      go_wp2_with (go_at_call 31; ((with_reducible refine (C1.out _ ?_).mono ?_); (· (repeat first | with_reducible exact Below.refl _ _ | with_reducible refine Below.setCell ?_ (by first | omega | (simp; done) | (simp; omega)) _ | with_reducible refine Below.alloc ?_ (by first | omega | (simp; done) | (simp; omega)) _ | with_reducible refine Below.drew ?_ | with_reducible refine Ext.on _ ?_ (by first | omega | (simp; done) | (simp; omega)); exact HB1.out)); rintro r w2 hq; obtain ⟨s2, rfl, h2, z, rfl⟩ := hq; have H2 := Lib.hid h2; clear h2; have zs := z.size))
      go_loopw [3, 6] (fun u i wr => ∃ (k : Nat) (s3 : Sl), k ≤ rk.length ∧ i = .int .i64 k ∧ u = .slice s3.a s3.len s3.cap ∧ StrsIn wr s3 ((rk.take k).foldl insS acc) ∧ Cls z.val wr) (fun _ i _ => rk.length - (intOf i).toNat)
      case atStart => exact ⟨0, s, Nat.zero_le _, rfl, rfl, by rw [List.take_zero, List.foldl_nil]; exact HIN.out.later z.below, Cls.of (Below.refl _ _)⟩
      case round =>
        obtain ⟨k, s3, hk3, rfl, rfl, h3, x, rfl⟩ := hrel
        have H3 := Lib.hid h3
        clear h3
        have hs2l : s2.len = rk.length := H2.out.1
        have hs2c : s2.len ≤ s2.cap := H2.out.2.1
        have hs2m : s2.cap ≤ maxLen := H2.out.2.2.1
        unfold maxLen at hs2m
        have HSL := Lib.hid hs2l
        by_cases hlt3 : k < rk.length
        · obtain ⟨b3, off3, ha3, hb3', q⟩ := H2.out.at_ hlt3
          have HF := Lib.hid (foldS_go (acc := acc) hlt3)
          have HB : Hid (((rk.take k).foldl insS acc).length ≤ 2 ^ 40) := Lib.hid (by have h1 := foldS_len (rk.take k) acc; have h2 := HR.out; have h3 := HA.out; have h4 := List.length_take_le k rk; omega)
          have hlt4 : k < s2.len := by omega
          generalize (rk.take k).foldl insS acc = cur at *
          generalize rk.getD k [] = v at *
          obtain ⟨vb, hvb⟩ : ∃ vb : ByteArray, vb = ⟨v.toArray⟩ := ⟨_, rfl⟩
          rw [show encStr v = .string vb from by rw [hvb]] at q
          have HV := Lib.hid hvb
          clear hvb
          obtain ⟨sa, sn, sc⟩ := s2
          simp only at ha3 hs2l hs2c hs2m hlt4
          subst ha3
          clear hs2l
          go_wp2_with (go_at_call 65; ((with_reducible refine (insertS_use s3 cur v vb HV.out _ H3.out HB.out).mono ?_); rintro r w2 hq; obtain ⟨s4, rfl, h4, t, rfl⟩ := hq; have H4 := Lib.hid h4; clear h4))
          go_roundw
          case rel => exact ⟨k + 1, s4, by omega, by go_num, rfl, by rw [HF.out]; exact H4.out, Cls.of (t.on x.below x.size)⟩
          case measure => simp [intOf]; omega
        · obtain rfl : k = rk.length := by omega
          have hlt4 : ¬ rk.length < s2.len := by omega
          obtain ⟨sa, sn, sc⟩ := s2
          simp only at hs2l hs2c hs2m hlt4
          clear hs2l
          go_wp2_with fail
          go_roundw
          case rel =>
            refine ⟨j + 1, s3, by omega, by go_num, rfl, ?_, Cls.of ?_⟩
            · rw [HG.out]; have h := H3.out; rw [List.take_length] at h; exact h
            · repeat first | with_reducible exact Below.refl _ _ | with_reducible refine Below.setCell ?_ (by first | omega | (simp; done) | (simp; omega)) _ | with_reducible refine Below.alloc ?_ (by first | omega | (simp; done) | (simp; omega)) _ | with_reducible refine Below.drew ?_ | with_reducible refine Ext.on _ ?_ (by first | omega | (simp; done) | (simp; omega))
          case measure => simp [intOf]; omega
    · obtain rfl : kn = j := by omega
      go_wp2_with fail
      go_ret
      refine ⟨s, rfl, by rw [HE.out]; exact HIN.out, Cls.of ?_⟩
      (repeat first | with_reducible exact Below.refl _ _ | with_reducible refine Below.setCell ?_ (by first | omega | (simp; done) | (simp; omega)) _ | with_reducible refine Below.alloc ?_ (by first | omega | (simp; done) | (simp; omega)) _ | with_reducible refine Below.drew ?_ | with_reducible refine Ext.on _ ?_ (by first | omega | (simp; done) | (simp; omega)); exact HB1.out)
theorem rTables_calls : ∀ q : Qy, RTabsOf q := by
  intro q
  induction q with
  | nil => intro w h; cases h
  | mk p ks kid ih =>
    by_cases hop : p.op = 1
    · exact rtabs_yes p ks kid ih hop
    · exact rtabs_no p ks kid ih hop
end Go.Proofs.YtonnbmiallammaaDoor
