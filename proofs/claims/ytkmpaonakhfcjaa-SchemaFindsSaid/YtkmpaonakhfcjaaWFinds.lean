/-
  SchemaFinds: what the law's own body does.
-/
import Derived.Test.YtkmpaonakhfcjaaFew3
import Derived.Test.YtkmpaonakhfcjaaTarget
import Derived.Test.YtkmpaonakhfcjaaOpenS
import Derived.Test.YtkmpaonakhfcjaaLin
import Derived.Deep.RegionWith
set_option linter.unusedVariables false
namespace Go.Proofs.Ytkmpaonakhfcjaa
open Go Go.RowKit Go.Deep
theorem idx_le {p : Nat → Bool} : ∀ (m j d : Nat), d < m → p (j + d) = true → (j : Int) ≤ idx p j m ∧ idx p j m ≤ (j : Int) + d
  | 0, j, d, h, _ => absurd h (by omega)
  | m + 1, j, d, h, hp => by
    by_cases hj : p j = true
    · rw [idx_stop hj]; omega
    · have hj' : p j = false := by simpa using hj
      rw [idx_go hj']
      cases d with
      | zero => exact absurd hp hj
      | succ d =>
        have := idx_le m (j + 1) d (by omega) (by rw [show j + 1 + d = j + (d + 1) by omega]; exact hp)
        omega
theorem cls_below {w w' : World} (h : Cls w w') : Below w.heap.size w w' := by
  obtain ⟨q, rfl⟩ := h
  exact q.below
theorem name_self (tb : Nat → Tb) (j : Nat) : nameP tb (tb j).name (0 + j) = true := by simp [nameP]
set_option maxHeartbeats 4000000 in
set_option maxRecDepth 20000 in
theorem schemaFinds_walk (sl : Sl) (tb : Nat → Tb) (s : ByteArray) (i k : Int) (w : World) (h : TabsAt w sl tb) (hs : s.size ≤ maxLen) (hi : (Lit.int .i64 i).wf = true) (hk : (Lit.int .i64 k).wf = true) :
    Calls Try.prog 4 #[.agg #[.slice sl.a sl.len sl.cap], .string s, .int .i64 i, .int .i64 k] w fun e w' => e = .returned (.bool true) ∧ Below w.heap.size w w' := by
  obtain ⟨sa, sn, sc⟩ := sl
  have hle := h.1.1
  have hmax := h.1.2.1
  unfold maxLen at hmax
  simp only at hle hmax ⊢
  have H := Lib.hid h
  have C0 : Hid (∀ W, Below w.heap.size w W → Calls Try.prog 12 #[.agg #[.slice sa sn sc]] W fun r w' => FewIs ⟨sa, sn, sc⟩ tb W r w') := Lib.hid (fun W hW => Few3_calls ⟨sa, sn, sc⟩ tb W (h.later hW))
  have C1 : Hid (∀ x W, Below w.heap.size w W → Calls Try.prog 13 #[.agg #[.slice sa sn sc], .string x] W fun r w' => r = .returned (.tuple #[.int .i64 (at0 (idx (nameP tb x) 0 sn)), .bool (decide (0 ≤ idx (nameP tb x) 0 sn))]) ∧ Cls W w') := Lib.hid (fun x W hW => Find_calls ⟨sa, sn, sc⟩ tb x W (h.later hW))
  have C2 : Hid (∀ x W, Below w.heap.size w W → Calls Try.prog 14 #[.agg #[.slice sa sn sc], .string x] W fun r w' => r = .returned (.tuple #[.int .i64 (at0 (idx (nameP tb x) 0 sn)), .bool (decide (0 ≤ idx (nameP tb x) 0 sn))]) ∧ Cls W w') := Lib.hid (fun x W hW => rFind_calls ⟨sa, sn, sc⟩ tb x W (h.later hW))
  have C3 : Hid (∀ W, Below w.heap.size w W → Calls Try.prog 15 #[.agg #[.slice sa sn sc], .int .i64 i, .int .i64 k] W fun r w' => r = .returned (.tuple #[.int .i64 (tgtI ⟨sa, sn, sc⟩ tb i k), .bool (tgtB ⟨sa, sn, sc⟩ tb i k)]) ∧ Cls W w') := Lib.hid (fun W hW => Target_calls ⟨sa, sn, sc⟩ tb i k W (h.later hW))
  have C4 : Hid (∀ W, Below w.heap.size w W → Calls Try.prog 16 #[.agg #[.slice sa sn sc], .int .i64 i, .int .i64 k] W fun r w' => r = .returned (.tuple #[.int .i64 (tgtI ⟨sa, sn, sc⟩ tb i k), .bool (tgtB ⟨sa, sn, sc⟩ tb i k)]) ∧ Cls W w') := Lib.hid (fun W hW => rTarget_calls ⟨sa, sn, sc⟩ tb i k W (h.later hW))
  generalize tgtI ⟨sa, sn, sc⟩ tb i k = ti at C3 C4
  generalize tgtB ⟨sa, sn, sc⟩ tb i k = tj at C3 C4
  clear h
  go_enter Try.func4, Try.ntmps4
  go_wp2_with (first | (go_at_call 12; ((with_reducible refine (C0.out _ ?_).mono ?_); (· (repeat first | with_reducible exact Below.refl _ _ | with_reducible refine Below.setCell ?_ (by first | omega | (simp; done) | (simp; omega)) _ | with_reducible refine Below.alloc ?_ (by first | omega | (simp; done) | (simp; omega)) _ | with_reducible refine Below.drew ?_ | with_reducible refine Ext.on _ ?_ (by first | omega | (simp; done) | (simp; omega)))); rintro r _ ⟨fb, rfl, hfew, y, rfl⟩; have HF := Lib.hid hfew; clear hfew; obtain ⟨l1, l2, l3, l4, l5⟩ := y.lts (b := w.heap.size) (by simp); cases fb)) | (go_at_call 13; ((with_reducible refine (C1.out _ _ ?_).mono ?_); (· (repeat first | with_reducible exact Below.refl _ _ | with_reducible refine Below.setCell ?_ (by first | omega | (simp; done) | (simp; omega)) _ | with_reducible refine Below.alloc ?_ (by first | omega | (simp; done) | (simp; omega)) _ | with_reducible refine Below.drew ?_ | with_reducible refine Ext.on _ ?_ (by first | omega | (simp; done) | (simp; omega)))); rintro r _ ⟨rfl, z1, rfl⟩; obtain ⟨l11, l12, l13, l14, l15⟩ := z1.lts l1)) | (go_at_call 14; ((with_reducible refine (C2.out _ _ ?_).mono ?_); (· (repeat first | with_reducible exact Below.refl _ _ | with_reducible refine Below.setCell ?_ (by first | omega | (simp; done) | (simp; omega)) _ | with_reducible refine Below.alloc ?_ (by first | omega | (simp; done) | (simp; omega)) _ | with_reducible refine Below.drew ?_ | with_reducible refine Ext.on _ ?_ (by first | omega | (simp; done) | (simp; omega)))); rintro r _ ⟨rfl, z2, rfl⟩; obtain ⟨l21, l22, l23, l24, l25⟩ := z2.lts l11)) | (go_at_call 15; ((with_reducible refine (C3.out _ ?_).mono ?_); (· (repeat first | with_reducible exact Below.refl _ _ | with_reducible refine Below.setCell ?_ (by first | omega | (simp; done) | (simp; omega)) _ | with_reducible refine Below.alloc ?_ (by first | omega | (simp; done) | (simp; omega)) _ | with_reducible refine Below.drew ?_ | with_reducible refine Ext.on _ ?_ (by first | omega | (simp; done) | (simp; omega)))); rintro r _ ⟨rfl, z3, rfl⟩; obtain ⟨l31, l32, l33, l34, l35⟩ := z3.lts l21)) | (go_at_call 16; ((with_reducible refine (C4.out _ ?_).mono ?_); (· (repeat first | with_reducible exact Below.refl _ _ | with_reducible refine Below.setCell ?_ (by first | omega | (simp; done) | (simp; omega)) _ | with_reducible refine Below.alloc ?_ (by first | omega | (simp; done) | (simp; omega)) _ | with_reducible refine Below.drew ?_ | with_reducible refine Ext.on _ ?_ (by first | omega | (simp; done) | (simp; omega)))); rintro r _ ⟨rfl, z4, rfl⟩; obtain ⟨l41, l42, l43, l44, l45⟩ := z4.lts l31)))
  · go_ret
    refine ⟨ret_bool rfl, ?_⟩
    repeat first | with_reducible exact Below.refl _ _ | with_reducible refine Below.setCell ?_ (by first | omega | (simp; done) | (simp; omega)) _ | with_reducible refine Below.alloc ?_ (by first | omega | (simp; done) | (simp; omega)) _ | with_reducible refine Below.drew ?_ | with_reducible refine Ext.on _ ?_ (by first | omega | (simp; done) | (simp; omega))
  · have hcs := Lib.hid (HF.out trivial).2
    clear HF
    go_loopw [17] (fun i wr => ∃ j : Nat, j ≤ sn ∧ i = .int .i64 j ∧ Cls (w.alloc (.cells #[.slice sa sn sc] 34)) wr) (fun i _ => sn - (intOf i).toNat)
    case atStart =>
      refine ⟨0, Nat.zero_le _, rfl, Cls.of ?_⟩
      repeat first | with_reducible exact Below.refl _ _ | with_reducible refine Below.setCell ?_ (by first | omega | (simp; done) | (simp; omega)) _ | with_reducible refine Below.alloc ?_ (by first | omega | (simp; done) | (simp; omega)) _ | with_reducible refine Below.drew ?_ | with_reducible refine Ext.on _ ?_ (by first | omega | (simp; done) | (simp; omega))
    case round =>
      obtain ⟨j, hj, rfl, x, rfl⟩ := hrel
      have xs := x.size
      simp at xs
      by_cases hlt : j < sn
      · obtain ⟨b, off, ha, hb2, hc⟩ := H.out.1.2.2.2 j hlt
        simp only at ha
        subst ha
        have hb1 : b < w.heap.size + 1 := by omega
        have q0 := hc 0 (by omega)
        have q1 := hc 1 (by omega)
        have q2 := hc 2 (by omega)
        have q3 := hc 3 (by omega)
        have q4 := hc 4 (by omega)
        have q5 := hc 5 (by omega)
        simp only [Tb.cells, Sl.v, List.getElem?_cons_zero, List.getElem?_cons_succ, Nat.add_zero] at q0 q1 q2 q3 q4 q5
        clear hc
        have HT := H.out.2 j hlt
        have hcj := hcs.out j hlt
        have K1 : Hid (∀ W, Below w.heap.size w W → Calls Try.prog 17 #[.agg #[.string (tb j).name, .slice (tb j).cs.a (tb j).cs.len (tb j).cs.cap, .slice (tb j).ps.a (tb j).ps.len (tb j).ps.cap, .slice (tb j).us.a (tb j).us.len (tb j).us.cap, .slice (tb j).fs.a (tb j).fs.len (tb j).fs.cap, .slice (tb j).ks.a (tb j).ks.len (tb j).ks.cap], .string s] W fun r w' => r = .returned (.tuple #[.int .i64 (at0 (idx (colP (tb j).col s) 0 (tb j).cs.len)), .bool (decide (0 ≤ idx (colP (tb j).col s) 0 (tb j).cs.len))]) ∧ Cls W w') := Lib.hid (fun W hW => Column_calls (tb j) s W (HT.later hW))
        have K2 : Hid (∀ W, Below w.heap.size w W → Calls Try.prog 18 #[.agg #[.string (tb j).name, .slice (tb j).cs.a (tb j).cs.len (tb j).cs.cap, .slice (tb j).ps.a (tb j).ps.len (tb j).ps.cap, .slice (tb j).us.a (tb j).us.len (tb j).us.cap, .slice (tb j).fs.a (tb j).fs.len (tb j).fs.cap, .slice (tb j).ks.a (tb j).ks.len (tb j).ks.cap], .string s] W fun r w' => r = .returned (.tuple #[.int .i64 (at0 (idx (colP (tb j).col s) 0 (tb j).cs.len)), .bool (decide (0 ≤ idx (colP (tb j).col s) 0 (tb j).cs.len))]) ∧ Cls W w') := Lib.hid (fun W hW => rColumn_calls (tb j) s W (HT.later hW))
        have K3 : Hid (∀ W, Below w.heap.size w W → Calls Try.prog 20 #[.agg #[.string (tb j).name, .slice (tb j).cs.a (tb j).cs.len (tb j).cs.cap, .slice (tb j).ps.a (tb j).ps.len (tb j).ps.cap, .slice (tb j).us.a (tb j).us.len (tb j).us.cap, .slice (tb j).fs.a (tb j).fs.len (tb j).fs.cap, .slice (tb j).ks.a (tb j).ks.len (tb j).ks.cap]] W fun r w' => ∃ u : Sl, r = .returned (.slice u.a u.len u.cap) ∧ u.len = (tb j).cs.len ∧ SlAt w' 1 u (intC fun i => (tyL (tb j).col (tb j).cs.len).getD i 0) ∧ Cls W w') := Lib.hid (fun W hW => Types_calls (tb j) W (HT.later hW) (by omega))
        have K4 : Hid (∀ W, Below w.heap.size w W → Calls Try.prog 21 #[.agg #[.string (tb j).name, .slice (tb j).cs.a (tb j).cs.len (tb j).cs.cap, .slice (tb j).ps.a (tb j).ps.len (tb j).ps.cap, .slice (tb j).us.a (tb j).us.len (tb j).us.cap, .slice (tb j).fs.a (tb j).fs.len (tb j).fs.cap, .slice (tb j).ks.a (tb j).ks.len (tb j).ks.cap]] W fun r w' => ∃ u : Sl, r = .returned (.slice u.a u.len u.cap) ∧ u.len = (tb j).cs.len ∧ SlAt w' 1 u (intC fun i => (tyL (tb j).col (tb j).cs.len).getD i 0) ∧ Cls W w') := Lib.hid (fun W hW => rTypes_calls (tb j) W (HT.later hW) (by omega))
        obtain ⟨hlo, hhi⟩ := idx_le sn 0 j hlt (name_self tb j)
        obtain ⟨m, hm⟩ : ∃ m : Int, m = idx (nameP tb (tb j).name) 0 sn := ⟨_, rfl⟩
        have hm0 : at0 m = m := by unfold at0; rw [if_neg (by omega)]
        have K5 : Hid (∀ W, Below w.heap.size w W → Calls Try.prog 13 #[.agg #[.slice (some ⟨b, off, none⟩) sn sc], .string (tb j).name] W fun r w' => r = .returned (.tuple #[.int .i64 m, .bool true]) ∧ Cls W w') := Lib.hid (fun W hW => by
          have := C1.out (tb j).name W hW
          rw [← hm, hm0, show decide (0 ≤ m) = true by simp; omega] at this
          exact this)
        have d7 : decide ((j : Int) < m) = false := by simp; omega
        clear HT hcj hlo hhi hm hm0 C1 C2 C3 C4 C0
        generalize tyL (tb j).col (tb j).cs.len = tys at K3 K4
        generalize at0 (idx (colP (tb j).col s) 0 (tb j).cs.len) = ci at K1 K2
        generalize decide (0 ≤ idx (colP (tb j).col s) 0 (tb j).cs.len) = cb at K1 K2
        generalize tb j = t at q0 q1 q2 q3 q4 q5 K1 K2 K3 K4 K5
        obtain ⟨e1, e2, e3, e4, e5⟩ := x.lts (b := w.heap.size) (by simp)
        obtain ⟨g1, g2, g3, g4, g5⟩ := x.lts (b := b) (by simp; omega)
        go_wp2_with (first | (go_at_call 17; ((with_reducible refine (K1.out _ ?_).mono ?_); (· (repeat first | with_reducible exact Below.refl _ _ | with_reducible refine Below.setCell ?_ (by first | omega | (simp; done) | (simp; omega)) _ | with_reducible refine Below.alloc ?_ (by first | omega | (simp; done) | (simp; omega)) _ | with_reducible refine Below.drew ?_ | with_reducible refine Ext.on _ ?_ (by first | omega | (simp; done) | (simp; omega)))); rintro r _ ⟨rfl, y1, rfl⟩; obtain ⟨m1, m2, m3, m4, m5⟩ := y1.lts g1; obtain ⟨n1, n2, n3, n4, n5⟩ := y1.lts e1)) | (go_at_call 18; ((with_reducible refine (K2.out _ ?_).mono ?_); (· (repeat first | with_reducible exact Below.refl _ _ | with_reducible refine Below.setCell ?_ (by first | omega | (simp; done) | (simp; omega)) _ | with_reducible refine Below.alloc ?_ (by first | omega | (simp; done) | (simp; omega)) _ | with_reducible refine Below.drew ?_ | with_reducible refine Ext.on _ ?_ (by first | omega | (simp; done) | (simp; omega)))); rintro r _ ⟨rfl, y2, rfl⟩; obtain ⟨o1, o2, o3, o4, o5⟩ := y2.lts m1; obtain ⟨p1, p2, p3, p4, p5⟩ := y2.lts n1)))
        refine wp_region_lin_on (by kernel_rfl) (by kernel_rfl) ?_
        intro yy
        repeat first | (refine lin_calm rfl ?_; intro KK hKK; go_big_quiet_step (fail); refine wpQuiet_nil ?_; refine hKK _ ?_; clear hKK KK) | (refine lin_free rfl ?_; intro KK hKK; go_wp2_with (first | (go_at_call 20; ((with_reducible refine (K3.out _ ?_).mono ?_); (· (repeat first | with_reducible exact Below.refl _ _ | with_reducible refine Below.setCell ?_ (by first | omega | (simp; done) | (simp; omega)) _ | with_reducible refine Below.alloc ?_ (by first | omega | (simp; done) | (simp; omega)) _ | with_reducible refine Below.drew ?_ | with_reducible refine Ext.on _ ?_ (by first | omega | (simp; done) | (simp; omega)))); rintro r w2 hq; obtain ⟨u1, rfl, hl1, hs1, hc1⟩ := hq; have HS1 := Lib.hid hs1; obtain ⟨z1, rfl⟩ := Cls.step _ hc1; have HL1 := Lib.hid hl1; clear hl1 hs1 hc1)) | (go_at_call 21; ((with_reducible refine (K4.out _ ?_).mono ?_); (· (repeat first | with_reducible exact Below.refl _ _ | with_reducible refine Below.setCell ?_ (by first | omega | (simp; done) | (simp; omega)) _ | with_reducible refine Below.alloc ?_ (by first | omega | (simp; done) | (simp; omega)) _ | with_reducible refine Below.drew ?_ | with_reducible refine Ext.on _ ?_ (by first | omega | (simp; done) | (simp; omega)))); rintro r w2 hq; obtain ⟨u2, rfl, hl2, hs2, hc2⟩ := hq; have HS2 := Lib.hid hs2; have HS3 := Lib.hid (HS1.out.later (cls_below hc2)); obtain ⟨z2, rfl⟩ := Cls.step _ hc2; have HL2 := Lib.hid hl2; clear hl2 hs2 hc2)) | (go_at_call 19; (have T1 := Cls.call (same_calls u1 u2 _ _ HS3.out HS2.out (HL1.out.trans HL2.out.symm)); (with_reducible refine T1.mono ?_); rintro r _ ⟨rfl, z3, rfl⟩))); refine hKK _ _ (.inr ⟨_, rfl⟩) ?_; clear hKK KK)
        refine lin_nil ?_
        go_wp2_with fail
        refine wp_region_on (by kernel_rfl) (by kernel_rfl) ?_
        repeat (go_big_quiet_step ((go_at_call 13; exact Cls.call (K5.out _ (by repeat first | with_reducible exact Below.refl _ _ | with_reducible refine Below.setCell ?_ (by first | omega | (simp; done) | (simp; omega)) _ | with_reducible refine Below.alloc ?_ (by first | omega | (simp; done) | (simp; omega)) _ | with_reducible refine Below.drew ?_ | with_reducible refine Ext.on _ ?_ (by first | omega | (simp; done) | (simp; omega)))))))
        refine wpQuiet_nil ?_
        rintro _ ⟨z4, rfl⟩
        go_wp2_with fail
        go_roundw
        case rel =>
          refine ⟨j + 1, by omega, by go_num, Cls.of ?_⟩
          repeat first | with_reducible exact Below.refl _ _ | with_reducible refine Below.setCell ?_ (by first | omega | (simp; done) | (simp; omega)) _ | with_reducible refine Below.alloc ?_ (by first | omega | (simp; done) | (simp; omega)) _ | with_reducible refine Below.drew ?_ | with_reducible refine Ext.on _ ?_ (by first | omega | (simp; done) | (simp; omega))
        case measure => simp [intOf]; omega
      · go_wp2_with fail
        go_ret
        refine ⟨ret_bool rfl, ?_⟩
        repeat first | with_reducible exact Below.refl _ _ | with_reducible refine Below.setCell ?_ (by first | omega | (simp; done) | (simp; omega)) _ | with_reducible refine Below.alloc ?_ (by first | omega | (simp; done) | (simp; omega)) _ | with_reducible refine Below.drew ?_ | with_reducible refine Ext.on _ ?_ (by first | omega | (simp; done) | (simp; omega))
end Go.Proofs.Ytkmpaonakhfcjaa
