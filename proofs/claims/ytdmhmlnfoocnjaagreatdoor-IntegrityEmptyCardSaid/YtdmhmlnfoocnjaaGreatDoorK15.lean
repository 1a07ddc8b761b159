/-
  The first error of a table's keys.
-/
import Derived.Test.YtdmhmlnfoocnjaaGreatDoorK14
import Derived.Test.YtdmhmlnfoocnjaaGreatDoorK07
set_option linter.unusedVariables false
namespace Go.Proofs.YtdmhmlnfoocnjaaGreatDoor
open Go Go.RowKit Go.Deep
theorem keyB_in {n len : Nat} {f : Nat → Int} (h : keyB n f len = true) : ∀ i, i < len → 0 ≤ f i ∧ f i < n := by
  intro i hi
  unfold keyB at h
  simp only [Bool.and_eq_true, decide_eq_true_eq] at h
  have h1 := (idx_none len 0).1 h.1 i (Nat.zero_le _) (by omega)
  unfold badK at h1
  simp only [Bool.or_eq_false_iff, decide_eq_false_iff_not] at h1
  omega
def nulP (t : Tb) (f : Nat → Int) (i : Nat) : Bool := (t.col (f i).toNat).null
set_option maxHeartbeats 4000000 in
set_option maxRecDepth 20000 in
theorem nullFn_calls (t : Tb) (c : Int) (bx : Nat) (w : World) (h : TbAt w t) (hb : w.heap[bx]? = some (.cells #[.string t.name, .slice t.cs.a t.cs.len t.cs.cap, .slice t.ps.a t.ps.len t.ps.cap, .slice t.us.a t.us.len t.us.cap, .slice t.fs.a t.fs.len t.fs.cap, .slice t.ks.a t.ks.len t.ks.cap] 55)) (h0 : 0 ≤ c) (h1 : c < t.cs.len) :
    Calls Tryz.prog 108 #[.int .i64 c, .pointer (some ⟨bx, 0, none⟩)] w fun r w' => r = .returned (.bool (t.col c.toNat).null) ∧ Cls w w' := by
  obtain ⟨n, rfl⟩ : ∃ n : Nat, c = n := ⟨c.toNat, by omega⟩
  have hle := h.cols.1
  have hmax := h.cols.2.1
  unfold maxLen at hmax
  obtain ⟨b, off, ha, hb2, hc⟩ := h.cols.2.2.2 n (by omega)
  have q0 := hc 0 (by omega)
  have q1 := hc 1 (by omega)
  have q2 := hc 2 (by omega)
  simp only [Cl.cells, List.getElem?_cons_zero, List.getElem?_cons_succ, Nat.add_zero] at q0 q1 q2
  obtain ⟨b0, _, _, _, _, _, _, k0, k1, k2, k3, k4, k5⟩ := six_z hb
  simp only [Int.toNat_natCast]
  generalize t.col n = c at q0 q1 q2 ⊢
  rw [ha] at k1
  clear hc h hb ha
  generalize t.cs.len = cn at *
  go_enter Tryz.func108, Tryz.ntmps108
  go_wp2_with fail
  go_ret
  refine ⟨ret_bool rfl, Cls.of ?_⟩
  repeat first|with_reducible exact Below.refl _ _|with_reducible refine Below.setCell ?_ (by first|omega|(simp;done)|(simp;omega)) _|with_reducible refine Below.alloc ?_ (by first|omega|(simp;done)|(simp;omega)) _|with_reducible refine Below.drew ?_|with_reducible refine Ext.on _ ?_ (by first|omega|(simp;done)|(simp;omega))
set_option maxHeartbeats 4000000 in
set_option maxRecDepth 20000 in
theorem indexN_calls (t : Tb) (s : Sl) (f : Nat → Int) (bx : Nat) (w : World) (h : TbAt w t) (hb : w.heap[bx]? = some (.cells #[.string t.name, .slice t.cs.a t.cs.len t.cs.cap, .slice t.ps.a t.ps.len t.ps.cap, .slice t.us.a t.us.len t.us.cap, .slice t.fs.a t.fs.len t.fs.cap, .slice t.ks.a t.ks.len t.ks.cap] 55)) (hs : SlAt w 1 s (intC f)) (hin : ∀ i, i < s.len → 0 ≤ f i ∧ f i < t.cs.len) :
    Calls Tryz.prog 132 #[.slice s.a s.len s.cap, .func (.func 108) #[] #[.pointer (some ⟨bx, 0, none⟩)]] w fun r w' => r = .returned (.int .i64 (idx (nulP t f) 0 s.len)) ∧ Cls w w' := by
  have hle := hs.1
  have hmax := hs.2.1
  unfold maxLen at hmax
  have H := Lib.hid hs.2.2.2
  have HT : Hid (∀ j, j < s.len → ∀ W, Below w.heap.size w W → Calls Tryz.prog 108 #[.int .i64 (f j), .pointer (some ⟨bx, 0, none⟩)] W fun r w' => r = .returned (.bool (nulP t f j)) ∧ Cls W w') := Lib.hid fun j hj W hW => nullFn_calls t (f j) bx W (h.later hW) ((hW.block _ (Array.getElem?_eq_some_iff.1 hb).1).trans hb) (hin j hj).1 (hin j hj).2
  clear hs h hb hin
  obtain ⟨sa, sn, sc⟩ := s
  simp only at hle hmax H HT
  generalize nulP t f = nf at HT ⊢
  go_enter Tryz.func132, Tryz.ntmps132
  go_wp2_with fail
  go_loopw [8] (fun i wr => ∃ j : Nat, j ≤ sn ∧ i = .int .i64 j ∧ idx nf 0 sn = idx nf j (sn - j) ∧ Cls w wr) (fun i _ => sn - (intOf i).toNat)
  case atStart => exact ⟨0, Nat.zero_le _, rfl, rfl, Cls.of (Below.refl _ _)⟩
  case round =>
    obtain ⟨j, hj, rfl, he, x, rfl⟩ := hrel
    have HE := Lib.hid he
    clear he
    have xs := x.size
    by_cases hltj : j < sn
    · obtain ⟨b, off, ha, hb2, hc⟩ := H.out j hltj
      subst ha
      have q0 := hc 0 (by omega)
      simp only [intC, List.getElem?_cons_zero, Nat.add_zero, Nat.mul_one] at q0
      have hS : Hid (sn - j = (sn - (j + 1)) + 1) := Lib.hid (by omega)
      have C1 := Lib.hid (HT.out j hltj)
      clear hc
      cases hbb : nf j
      all_goals
        have HB := Lib.hid hbb
        rw [hbb] at C1
        clear hbb
        generalize f j = tj at q0 C1
        go_wp2_with (go_at_call 108; ((with_reducible refine (Cls.call (C1.out _ x.below)).mono ?_); rintro r _ ⟨rfl, y, rfl⟩))
      · go_roundw
        case rel => exact ⟨j + 1, by omega, by go_num, by rw [HE.out, hS.out, idx_go HB.out], y, rfl⟩
        case measure => simp [intOf]; omega
      · go_ret
        exact ⟨ret_int (by rw [HE.out, hS.out, idx_stop HB.out]), y, rfl⟩
    · have hz : Hid (sn - j = 0) := Lib.hid (by omega)
      go_wp2_with fail
      go_ret
      exact ⟨ret_int (by rw [HE.out, hz.out]; rfl), x, rfl⟩
set_option maxHeartbeats 4000000 in
set_option maxRecDepth 20000 in
theorem containsN_calls (t : Tb) (s : Sl) (f : Nat → Int) (bx : Nat) (w : World) (h : TbAt w t) (hb : w.heap[bx]? = some (.cells #[.string t.name, .slice t.cs.a t.cs.len t.cs.cap, .slice t.ps.a t.ps.len t.ps.cap, .slice t.us.a t.us.len t.us.cap, .slice t.fs.a t.fs.len t.fs.cap, .slice t.ks.a t.ks.len t.ks.cap] 55)) (hs : SlAt w 1 s (intC f)) (hin : ∀ i, i < s.len → 0 ≤ f i ∧ f i < t.cs.len) :
    Calls Tryz.prog 107 #[.slice s.a s.len s.cap, .func (.func 108) #[] #[.pointer (some ⟨bx, 0, none⟩)]] w fun r w' => r = .returned (.bool (decide (0 ≤ idx (nulP t f) 0 s.len))) ∧ Cls w w' := by
  have C1 := Lib.hid (indexN_calls t s f bx w h hb hs hin)
  clear h hb hs hin
  generalize idx (nulP t f) 0 s.len = n at C1 ⊢
  go_enter Tryz.func107, Tryz.ntmps107
  go_wp2_with (go_at_call 132; ((with_reducible refine C1.out.mono ?_); rintro r _ ⟨rfl, y, rfl⟩))
  go_ret
  exact ⟨ret_bool (by simp), y, rfl⟩
def uqP (t : Tb) (i : Nat) : Bool := !keyB t.cs.len (t.uqn i) (t.uq i).len
def fkP (t : Tb) (i : Nat) : Bool := !keyB t.cs.len (t.fkn i) (t.fk i).len
def keyE (t : Tb) : Int :=
  if keyB t.cs.len t.prim t.ps.len = true then (if 0 ≤ idx (nulP t t.prim) 0 t.ps.len then 4 else if 0 ≤ idx (uqP t) 0 t.us.len then 6 else if 0 ≤ idx (fkP t) 0 t.fs.len then 6 else 0) else 6
set_option maxHeartbeats 8000000 in
set_option maxRecDepth 20000 in
theorem keyError_calls (t : Tb) (w : World) (h : TbAt w t) :
    Calls Tryz.prog 75 #[.agg #[.string t.name, .slice t.cs.a t.cs.len t.cs.cap, .slice t.ps.a t.ps.len t.ps.cap, .slice t.us.a t.us.len t.us.cap, .slice t.fs.a t.fs.len t.fs.cap, .slice t.ks.a t.ks.len t.ks.cap]] w fun r w' => r = .returned (.int .i64 (keyE t)) ∧ Cls w w' := by
  have hcm : t.cs.len ≤ maxLen := Nat.le_trans h.cols.1 h.cols.2.1
  have hul := h.uqs.1
  have hum := h.uqs.2.1
  have hfl := h.fks.1
  have hfm := h.fks.2.1
  unfold maxLen at hum hfm
  have HK : Hid (keyE t = if keyB t.cs.len t.prim t.ps.len = true then (if 0 ≤ idx (nulP t t.prim) 0 t.ps.len then 4 else if 0 ≤ idx (uqP t) 0 t.us.len then 6 else if 0 ≤ idx (fkP t) 0 t.fs.len then 6 else 0) else 6) := Lib.hid rfl
  have C1 : Hid (∀ W, Below w.heap.size w W → Calls Tryz.prog 106 #[.agg #[.string t.name, .slice t.cs.a t.cs.len t.cs.cap, .slice t.ps.a t.ps.len t.ps.cap, .slice t.us.a t.us.len t.us.cap, .slice t.fs.a t.fs.len t.fs.cap, .slice t.ks.a t.ks.len t.ks.cap], .slice t.ps.a t.ps.len t.ps.cap] W fun r w' => r = .returned (.bool (keyB t.cs.len t.prim t.ps.len)) ∧ Cls W w') := Lib.hid fun W hW => isKey_calls t t.ps t.prim W (h.prim.later hW) hcm
  have C2 : Hid (keyB t.cs.len t.prim t.ps.len = true → ∀ W, Below w.heap.size w W → W.heap[w.heap.size]? = some (.cells #[.string t.name, .slice t.cs.a t.cs.len t.cs.cap, .slice t.ps.a t.ps.len t.ps.cap, .slice t.us.a t.us.len t.us.cap, .slice t.fs.a t.fs.len t.fs.cap, .slice t.ks.a t.ks.len t.ks.cap] 55) → Calls Tryz.prog 107 #[.slice t.ps.a t.ps.len t.ps.cap, .func (.func 108) #[] #[.pointer (some ⟨w.heap.size, 0, none⟩)]] W fun r w' => r = .returned (.bool (decide (0 ≤ idx (nulP t t.prim) 0 t.ps.len))) ∧ Cls W w') := Lib.hid fun hk W hW hb => containsN_calls t t.ps t.prim w.heap.size W (h.later hW) hb (h.prim.later hW) (keyB_in hk)
  have CU : Hid (∀ i, i < t.us.len → ∀ W, Below w.heap.size w W → Calls Tryz.prog 106 #[.agg #[.string t.name, .slice t.cs.a t.cs.len t.cs.cap, .slice t.ps.a t.ps.len t.ps.cap, .slice t.us.a t.us.len t.us.cap, .slice t.fs.a t.fs.len t.fs.cap, .slice t.ks.a t.ks.len t.ks.cap], .slice (t.uq i).a (t.uq i).len (t.uq i).cap] W fun r w' => r = .returned (.bool (keyB t.cs.len (t.uqn i) (t.uq i).len)) ∧ Cls W w') := Lib.hid fun i hi W hW => isKey_calls t (t.uq i) (t.uqn i) W ((h.uqn i hi).later hW) hcm
  have CF : Hid (∀ i, i < t.fs.len → ∀ W, Below w.heap.size w W → Calls Tryz.prog 106 #[.agg #[.string t.name, .slice t.cs.a t.cs.len t.cs.cap, .slice t.ps.a t.ps.len t.ps.cap, .slice t.us.a t.us.len t.us.cap, .slice t.fs.a t.fs.len t.fs.cap, .slice t.ks.a t.ks.len t.ks.cap], .slice (t.fk i).a (t.fk i).len (t.fk i).cap] W fun r w' => r = .returned (.bool (keyB t.cs.len (t.fkn i) (t.fk i).len)) ∧ Cls W w') := Lib.hid fun i hi W hW => isKey_calls t (t.fk i) (t.fkn i) W ((h.fkn i hi).1.later hW) hcm
  have HU := Lib.hid h.uqs.2.2.2
  have HF := Lib.hid h.fks.2.2.2
  have HPU : Hid (∀ i, uqP t i = !keyB t.cs.len (t.uqn i) (t.uq i).len) := Lib.hid fun i => rfl
  have HPF : Hid (∀ i, fkP t i = !keyB t.cs.len (t.fkn i) (t.fk i).len) := Lib.hid fun i => rfl
  clear h hcm
  generalize keyE t = ke at HK ⊢
  generalize idx (nulP t t.prim) 0 t.ps.len = ni at HK C2
  generalize uqP t = up at HK HPU
  generalize fkP t = fp at HK HPF
  obtain ⟨tn, ⟨ca, cn, cc⟩, tf, ⟨pa, pn, pc⟩, tprim, ⟨ua, un, uc⟩, tuq, tuqn, ⟨fa, fn, fc⟩, tfk, tfkn, tfkt, tks, tch⟩ := t
  simp only at hul hum hfl hfm HK C1 C2 CU CF HU HF HPU HPF ⊢
  generalize keyB cn tprim pn = kb at HK C1 C2
  go_enter Tryz.func75, Tryz.ntmps75
  cases kb
  · go_wp2_with (go_at_call 106; ((with_reducible refine (C1.out _ (by repeat first|with_reducible exact Below.refl _ _|with_reducible refine Below.setCell ?_ (by first|omega|(simp;done)|(simp;omega)) _|with_reducible refine Below.alloc ?_ (by first|omega|(simp;done)|(simp;omega)) _|with_reducible refine Below.drew ?_|with_reducible refine Ext.on _ ?_ (by first|omega|(simp;done)|(simp;omega)))).mono ?_); rintro r _ ⟨rfl, y, rfl⟩))
    go_ret
    refine ⟨ret_int (by rw [HK.out]; rfl), Cls.of ?_⟩
    repeat first|with_reducible exact Below.refl _ _|with_reducible refine Below.setCell ?_ (by first|omega|(simp;done)|(simp;omega)) _|with_reducible refine Below.alloc ?_ (by first|omega|(simp;done)|(simp;omega)) _|with_reducible refine Below.drew ?_|with_reducible refine Ext.on _ ?_ (by first|omega|(simp;done)|(simp;omega))
  · have CP := Lib.hid (C2.out rfl)
    clear C2
    by_cases hni : 0 ≤ ni
    · have dn : decide (0 ≤ ni) = true := by simp; omega
      rw [dn] at CP
      have HNI := Lib.hid hni
      clear hni dn
      go_wp2_with (first | (go_at_call 106; ((with_reducible refine (C1.out _ (by repeat first|with_reducible exact Below.refl _ _|with_reducible refine Below.setCell ?_ (by first|omega|(simp;done)|(simp;omega)) _|with_reducible refine Below.alloc ?_ (by first|omega|(simp;done)|(simp;omega)) _|with_reducible refine Below.drew ?_|with_reducible refine Ext.on _ ?_ (by first|omega|(simp;done)|(simp;omega)))).mono ?_); rintro r _ ⟨rfl, y, rfl⟩; obtain ⟨b0, _, _, _, _, _, _, k0, k1, k2, k3, k4, k5⟩ := six_z ((y.below.block w.heap.size (by simp)).trans (heap_alloc_new w _)))) | (go_at_call 107; ((with_reducible refine (CP.out _ ?_ ?_).mono ?_); (· repeat first|with_reducible exact Below.refl _ _|with_reducible refine Below.setCell ?_ (by first|omega|(simp;done)|(simp;omega)) _|with_reducible refine Below.alloc ?_ (by first|omega|(simp;done)|(simp;omega)) _|with_reducible refine Below.drew ?_|with_reducible refine Ext.on _ ?_ (by first|omega|(simp;done)|(simp;omega))); (· exact (y.below.block w.heap.size (by simp)).trans (heap_alloc_new w _)); rintro r _ ⟨rfl, z, rfl⟩)))
      go_ret
      refine ⟨ret_int (by rw [HK.out, if_pos (by trivial), if_pos HNI.out]), Cls.of ?_⟩
      repeat first|with_reducible exact Below.refl _ _|with_reducible refine Below.setCell ?_ (by first|omega|(simp;done)|(simp;omega)) _|with_reducible refine Below.alloc ?_ (by first|omega|(simp;done)|(simp;omega)) _|with_reducible refine Below.drew ?_|with_reducible refine Ext.on _ ?_ (by first|omega|(simp;done)|(simp;omega))
    · have dn : decide (0 ≤ ni) = false := by simp; omega
      rw [dn] at CP
      have HNI := Lib.hid hni
      clear hni dn
      go_wp2_with (first | (go_at_call 106; ((with_reducible refine (C1.out _ (by repeat first|with_reducible exact Below.refl _ _|with_reducible refine Below.setCell ?_ (by first|omega|(simp;done)|(simp;omega)) _|with_reducible refine Below.alloc ?_ (by first|omega|(simp;done)|(simp;omega)) _|with_reducible refine Below.drew ?_|with_reducible refine Ext.on _ ?_ (by first|omega|(simp;done)|(simp;omega)))).mono ?_); rintro r _ ⟨rfl, y, rfl⟩; obtain ⟨b0, _, _, _, _, _, _, k0, k1, k2, k3, k4, k5⟩ := six_z ((y.below.block w.heap.size (by simp)).trans (heap_alloc_new w _)))) | (go_at_call 107; ((with_reducible refine (CP.out _ ?_ ?_).mono ?_); (· repeat first|with_reducible exact Below.refl _ _|with_reducible refine Below.setCell ?_ (by first|omega|(simp;done)|(simp;omega)) _|with_reducible refine Below.alloc ?_ (by first|omega|(simp;done)|(simp;omega)) _|with_reducible refine Below.drew ?_|with_reducible refine Ext.on _ ?_ (by first|omega|(simp;done)|(simp;omega))); (· exact (y.below.block w.heap.size (by simp)).trans (heap_alloc_new w _)); rintro r _ ⟨rfl, z, rfl⟩; obtain ⟨c0', _, _, _, _, _, _, m0, m1, m2, m3, m4, m5⟩ := six_z ((z.below.block w.heap.size (by have := y.size; simp at this; omega)).trans ((y.below.block w.heap.size (by simp)).trans (heap_alloc_new w _))))))
      have HBL := Lib.hid ((z.below.block w.heap.size (by have := y.size; simp at this; omega)).trans ((y.below.block w.heap.size (by simp)).trans (heap_alloc_new w (.cells #[.string tn, .slice ca cn cc, .slice pa pn pc, .slice ua un uc, .slice fa fn fc, .slice tks.a tks.len tks.cap] 55))))
      have HB0 : Hid (Below w.heap.size w z.val) := Lib.hid (by repeat first|with_reducible exact Below.refl _ _|with_reducible refine Below.setCell ?_ (by first|omega|(simp;done)|(simp;omega)) _|with_reducible refine Below.alloc ?_ (by first|omega|(simp;done)|(simp;omega)) _|with_reducible refine Below.drew ?_|with_reducible refine Ext.on _ ?_ (by first|omega|(simp;done)|(simp;omega)))
      have h0s := c0'
      clear c0' m0 m1 m2 m3 m4 m5 b0 k0 k1 k2 k3 k4 k5 CP C1
      generalize z.val = W0 at *
      skip
      go_loopw [19] (fun i wr => ∃ j : Nat, j ≤ un ∧ i = .int .i64 j ∧ idx up 0 un = idx up j (un - j) ∧ Cls W0 wr) (fun i _ => un - (intOf i).toNat)
      case atStart => exact ⟨0, Nat.zero_le _, rfl, rfl, Cls.of (Below.refl _ _)⟩
      case round =>
        obtain ⟨j, hj, rfl, he, x, rfl⟩ := hrel
        have HE := Lib.hid he
        clear he
        have xs := x.size
        have HBX : Hid (Below w.heap.size w x.val) := Lib.hid (HB0.out.trans (x.below.mono (by omega)))
        have HBLX := Lib.hid ((x.below.block _ (by omega)).trans HBL.out)
        obtain ⟨b0, _, _, _, _, _, _, k0, k1, k2, k3, k4, k5⟩ := six_z HBLX.out
        by_cases hltj : j < un
        · obtain ⟨b, off, ha, hb2, hc⟩ := HU.out j hltj
          subst ha
          have q0 := hc 0 (by omega)
          simp only [List.getElem?_cons_zero, Nat.add_zero, Nat.mul_one, Sl.v] at q0
          rw [← HBX.out.cell (p := ⟨b, _, none⟩) hb2] at q0
          have hb3 : b < x.val.heap.size := by omega
          have hS : Hid (un - j = (un - (j + 1)) + 1) := Lib.hid (by omega)
          have hP := Lib.hid (HPU.out j)
          have C3 := Lib.hid (CU.out j hltj)
          clear hc
          generalize keyB cn (tuqn j) (tuq j).len = kb at hP C3
          generalize tuq j = u at q0 C3
          obtain ⟨u1, u2, u3⟩ := u
          simp only at q0 C3
          cases kb
          all_goals
            go_wp2_with (go_at_call 106; ((with_reducible refine (C3.out _ HBX.out).mono ?_); rintro r _ ⟨rfl, y, rfl⟩))
          · go_ret
            refine ⟨ret_int (by rw [HK.out, if_pos (by trivial), if_neg (by have := HNI.out; omega), if_pos (by rw [HE.out, hS.out, idx_stop hP.out]; omega)]), Cls.of (HBX.out.trans (y.below.mono (by omega)))⟩
          · go_roundw
            case rel => exact ⟨j + 1, by omega, by go_num, by rw [HE.out, hS.out, idx_go hP.out], Cls.of (x.below.trans (y.below.mono (by omega)))⟩
            case measure => simp [intOf]; omega
        · have hz : Hid (un - j = 0) := Lib.hid (by omega)
          have HUN : Hid (¬ 0 ≤ idx up 0 un) := Lib.hid (by rw [HE.out, hz.out]; show ¬ ((0 : Int) ≤ -1); decide)
          clear HE hz CU HU HPU
          go_wp2_with fail
          clear k0 k1 k2 k3 k4 k5 b0
          have h1s : w.heap.size < x.val.heap.size := by omega
          generalize x.val = W1 at *
          clear xs x HBL HB0 h0s
          go_loopw [31] (fun i wr => ∃ j : Nat, j ≤ fn ∧ i = .int .i64 j ∧ idx fp 0 fn = idx fp j (fn - j) ∧ Cls W1 wr) (fun i _ => fn - (intOf i).toNat)
          case atStart => exact ⟨0, Nat.zero_le _, rfl, rfl, Cls.of (Below.refl _ _)⟩
          case round =>
            obtain ⟨j, hj, rfl, he, x, rfl⟩ := hrel
            have HE := Lib.hid he
            clear he
            have xs := x.size
            have HBY : Hid (Below w.heap.size w x.val) := Lib.hid (HBX.out.trans (x.below.mono (by omega)))
            obtain ⟨b0, _, _, _, _, _, _, k0, k1, k2, k3, k4, k5⟩ := six_z ((x.below.block _ (by omega)).trans HBLX.out)
            by_cases hltj : j < fn
            · obtain ⟨b, off, ha, hb2, hc⟩ := HF.out j hltj
              subst ha
              have q0 := hc 0 (by omega)
              have q1 := hc 1 (by omega)
              simp only [List.getElem?_cons_zero, List.getElem?_cons_succ, Nat.add_zero, Sl.v] at q0 q1
              rw [← HBY.out.cell (p := ⟨b, _, none⟩) hb2] at q0 q1
              have hb3 : b < x.val.heap.size := by omega
              have hS : Hid (fn - j = (fn - (j + 1)) + 1) := Lib.hid (by omega)
              have hP := Lib.hid (HPF.out j)
              have C3 := Lib.hid (CF.out j hltj)
              clear hc
              generalize keyB cn (tfkn j) (tfk j).len = kb at hP C3
              generalize tfk j = u at q0 C3
              generalize tfkt j = ut at q1
              obtain ⟨u1, u2, u3⟩ := u
              simp only at q0 C3
              cases kb
              all_goals
                go_wp2_with (go_at_call 106; ((with_reducible refine (C3.out _ (HBY.out.trans (((Below.refl _ _).alloc (Nat.le_refl _) _).mono HBY.out.size))).mono ?_); rintro r _ ⟨rfl, y, rfl⟩))
              · go_ret
                refine ⟨ret_int (by rw [HK.out, if_pos (by trivial), if_neg (by have := HNI.out; omega), if_neg (by have := HUN.out; omega), if_pos (by rw [HE.out, hS.out, idx_stop hP.out]; omega)]), Cls.of (HBY.out.trans (Below.mono (((Below.refl _ _).alloc (Nat.le_refl _) _).trans (y.below.mono (by simp))) HBY.out.size))⟩
              · go_roundw
                case rel => exact ⟨j + 1, by omega, by go_num, by rw [HE.out, hS.out, idx_go hP.out], Cls.of (x.below.trans (Below.mono (((Below.refl _ _).alloc (Nat.le_refl _) _).trans (y.below.mono (by simp))) x.size))⟩
                case measure => simp [intOf]; omega
            · have hz : Hid (fn - j = 0) := Lib.hid (by omega)
              go_wp2_with fail
              go_ret
              exact ⟨ret_int (by rw [HK.out, if_pos (by trivial), if_neg (by have := HNI.out; omega), if_neg (by have := HUN.out; omega), if_neg (by rw [HE.out, hz.out]; show ¬ ((0 : Int) ≤ -1); decide)]), Cls.of HBY.out⟩
end Go.Proofs.YtdmhmlnfoocnjaaGreatDoor
set_option linter.unusedVariables false
namespace Go.Proofs.YtdmhmlnfoocnjaaGreatDoor
open Go Go.RowKit
set_option maxHeartbeats 2000000 in
theorem choose_calls (l : List Ex) (ih : ∀ k ∈ l, EvalOf k) (a : Option Addr) (cap : Nat) (ok : Nat → Prop) (ra : Option Addr) (rlen rcap : Nat) (row : List Vl) (w : World) (hk : Kids w ok a 3 cap l) (hr : RowIs w ra rlen rcap row) (ht : OpsTab w) :
    Calls Tryz.prog 121 #[.slice a 3 cap, .slice ra rlen rcap] w fun r w' => r = .returned (.agg #[.int .i64 (if trV (evalE (l.getD 0 Ex.z) row) = 1 then evalE (l.getD 1 Ex.z) row else evalE (l.getD 2 Ex.z) row).k, .int .i64 (if trV (evalE (l.getD 0 Ex.z) row) = 1 then evalE (l.getD 1 Ex.z) row else evalE (l.getD 2 Ex.z) row).n, .string (if trV (evalE (l.getD 0 Ex.z) row) = 1 then evalE (l.getD 1 Ex.z) row else evalE (l.getD 2 Ex.z) row).s]) ∧ Cls w w' := by
  have hlen := hk.len_eq
  have hle := hk.le
  have hmax := hk.max
  unfold maxLen at hmax
  obtain ⟨a0, len0, cap0, ⟨b, off, rfl, hb, hok, p0, p1, p2, p3, p4, p5⟩, f0, k0⟩ := hk.at_ (i := 0) (by omega)
  obtain ⟨a1, len1, cap1, ⟨_, _, e1, _, _, q0, q1, q2, q3, q4, q5⟩, f1, k1⟩ := hk.at_ (i := 1) (by omega)
  obtain ⟨a2, len2, cap2, ⟨_, _, e2, _, _, r0, r1, r2, r3, r4, r5⟩, f2, k2⟩ := hk.at_ (i := 2) (by omega)
  cases e1
  cases e2
  have C0 : Hid (∀ W, Below w.heap.size w W → Calls Tryz.prog 88 #[.agg #[.int .i64 (l.getD 0 Ex.z).op, .int .i64 (l.getD 0 Ex.z).ty, .int .i64 (l.getD 0 Ex.z).num, .string (l.getD 0 Ex.z).text, .int .i64 (l.getD 0 Ex.z).col, .slice a0 len0 cap0], .slice ra rlen rcap] W fun r w' => r = .returned (.agg #[.int .i64 (evalE (l.getD 0 Ex.z) row).k, .int .i64 (evalE (l.getD 0 Ex.z) row).n, .string (evalE (l.getD 0 Ex.z) row).s]) ∧ Cls W w') := Lib.hid (fun W hW => ih _ (getD_mem (by omega)) a0 len0 cap0 ok ra rlen rcap row W (k0.later hW) f0 (hr.later hW) (ht.later hW))
  have C1 : Hid (∀ W, Below w.heap.size w W → Calls Tryz.prog 88 #[.agg #[.int .i64 (l.getD 1 Ex.z).op, .int .i64 (l.getD 1 Ex.z).ty, .int .i64 (l.getD 1 Ex.z).num, .string (l.getD 1 Ex.z).text, .int .i64 (l.getD 1 Ex.z).col, .slice a1 len1 cap1], .slice ra rlen rcap] W fun r w' => r = .returned (.agg #[.int .i64 (evalE (l.getD 1 Ex.z) row).k, .int .i64 (evalE (l.getD 1 Ex.z) row).n, .string (evalE (l.getD 1 Ex.z) row).s]) ∧ Cls W w') := Lib.hid (fun W hW => ih _ (getD_mem (by omega)) a1 len1 cap1 ok ra rlen rcap row W (k1.later hW) f1 (hr.later hW) (ht.later hW))
  have C2 : Hid (∀ W, Below w.heap.size w W → Calls Tryz.prog 88 #[.agg #[.int .i64 (l.getD 2 Ex.z).op, .int .i64 (l.getD 2 Ex.z).ty, .int .i64 (l.getD 2 Ex.z).num, .string (l.getD 2 Ex.z).text, .int .i64 (l.getD 2 Ex.z).col, .slice a2 len2 cap2], .slice ra rlen rcap] W fun r w' => r = .returned (.agg #[.int .i64 (evalE (l.getD 2 Ex.z) row).k, .int .i64 (evalE (l.getD 2 Ex.z) row).n, .string (evalE (l.getD 2 Ex.z) row).s]) ∧ Cls W w') := Lib.hid (fun W hW => ih _ (getD_mem (by omega)) a2 len2 cap2 ok ra rlen rcap row W (k2.later hW) f2 (hr.later hW) (ht.later hW))
  simp only [Nat.zero_mul, Nat.add_zero, Nat.one_mul, Nat.reduceMul, Nat.add_assoc, Nat.reduceAdd] at p0 p1 p2 p3 p4 p5 q0 q1 q2 q3 q4 q5 r0 r1 r2 r3 r4 r5
  have hb1 : b < w.heap.size + 1 := by omega
  clear hk hr ht k0 k1 k2 f0 f1 f2 ih hlen
  generalize evalE (l.getD 0 Ex.z) row = v0 at C0 ⊢
  generalize evalE (l.getD 1 Ex.z) row = v1 at C1 ⊢
  generalize evalE (l.getD 2 Ex.z) row = v2 at C2 ⊢
  generalize l.getD 0 Ex.z = e0 at *
  generalize l.getD 1 Ex.z = e1 at *
  generalize l.getD 2 Ex.z = e2 at *
  have bT : ∃ t : Bool, (trV v0 == 1) = t ∧ (if trV v0 = 1 then v1 else v2) = bif t then v1 else v2 := ⟨trV v0 == 1, rfl, by
    by_cases h : trV v0 = 1
    · rw [if_pos h, h]; rfl
    · have h2 : (trV v0 == 1) = false := by simpa using h
      rw [if_neg h, h2]; rfl⟩
  obtain ⟨t, bT, hT⟩ := bT
  rw [hT]
  clear hT
  cases t
  all_goals
    simp only [cond_true, cond_false]
    go_enter Tryz.func121, Tryz.ntmps121
    go_wp2_with (first | (go_at_call 88; first | ((with_reducible refine (C0.out _ ?_).mono ?_); (· (repeat first | with_reducible exact Below.refl _ _ | with_reducible assumption | with_reducible refine Below.setCell ?_ (by first | omega | (simp; done) | (simp; omega)) _ | with_reducible refine Below.alloc ?_ (by first | omega | (simp; done) | (simp; omega)) _ | with_reducible refine Below.drew ?_ | with_reducible refine Ext.on _ ?_ (by first | omega | (simp; done) | (simp; omega)))); rintro r _ ⟨rfl, y0, rfl⟩; obtain ⟨l1, l2, l3, l4, l5⟩ := y0.lts (b := b) (by simp; omega); obtain ⟨m1, m2, m3, m4, m5⟩ := y0.lts (b := w.heap.size) (by simp)) | ((with_reducible refine (C1.out _ ?_).mono ?_); (· (repeat first | with_reducible exact Below.refl _ _ | with_reducible assumption | with_reducible refine Below.setCell ?_ (by first | omega | (simp; done) | (simp; omega)) _ | with_reducible refine Below.alloc ?_ (by first | omega | (simp; done) | (simp; omega)) _ | with_reducible refine Below.drew ?_ | with_reducible refine Ext.on _ ?_ (by first | omega | (simp; done) | (simp; omega)))); rintro r _ ⟨rfl, y1, rfl⟩; obtain ⟨u1, u2, u3, u4, u5⟩ := y1.lts o1) | ((with_reducible refine (C2.out _ ?_).mono ?_); (· (repeat first | with_reducible exact Below.refl _ _ | with_reducible assumption | with_reducible refine Below.setCell ?_ (by first | omega | (simp; done) | (simp; omega)) _ | with_reducible refine Below.alloc ?_ (by first | omega | (simp; done) | (simp; omega)) _ | with_reducible refine Below.drew ?_ | with_reducible refine Ext.on _ ?_ (by first | omega | (simp; done) | (simp; omega)))); rintro r _ ⟨rfl, y1, rfl⟩; obtain ⟨u1, u2, u3, u4, u5⟩ := y1.lts o1)) | (go_at_call 137; first | ((with_reducible refine (Cls.call (isTrue_calls _ _)).mono ?_); rintro r _ ⟨rfl, z0, rfl⟩; obtain ⟨n1, n2, n3, n4, n5⟩ := z0.lts l1; obtain ⟨o1, o2, o3, o4, o5⟩ := z0.lts m1) | ((with_reducible refine (isTrue_calls _ _).mono ?_); rintro r _ ⟨rfl, z0, rfl⟩; obtain ⟨n1, n2, n3, n4, n5⟩ := z0.lts l1; obtain ⟨o1, o2, o3, o4, o5⟩ := z0.lts m1)))
    have c0 : (y1.val.cell? ⟨w.heap.size, 0, none⟩).isSome = true := by rw [y1.cell 0 o1, z0.cell 0 m1, y0.cell 0 (by simp)]; simp [go_sem]
    have c1 : (y1.val.cell? ⟨w.heap.size, 1, none⟩).isSome = true := by rw [y1.cell 1 o1, z0.cell 1 m1, y0.cell 1 (by simp)]; simp [go_sem]
    have c2 : (y1.val.cell? ⟨w.heap.size, 2, none⟩).isSome = true := by rw [y1.cell 2 o1, z0.cell 2 m1, y0.cell 2 (by simp)]; simp [go_sem]
    refine ret_ex rfl ?_
    simp [results, Tryz.results121, go_sem, c0, c1, c2]
    refine Cls.of ?_
    repeat first | with_reducible exact Below.refl _ _ | with_reducible assumption | with_reducible refine Below.setCell ?_ (by first | omega | (simp; done) | (simp; omega)) _ | with_reducible refine Below.alloc ?_ (by first | omega | (simp; done) | (simp; omega)) _ | with_reducible refine Below.drew ?_ | with_reducible refine Ext.on _ ?_ (by first | omega | (simp; done) | (simp; omega))
set_option maxHeartbeats 2000000 in
theorem member_calls (l : List Ex) (ih : ∀ k ∈ l, EvalOf k) (a : Option Addr) (len cap : Nat) (ok : Nat → Prop) (ra : Option Addr) (rlen rcap : Nat) (row : List Vl) (w : World) (hk : Kids w ok a len cap l) (hlen2 : 2 ≤ len) (hr : RowIs w ra rlen rcap row) (ht : OpsTab w) :
    Calls Tryz.prog 122 #[.slice a len cap, .slice ra rlen rcap] w fun r w' => r = .returned (.agg #[.int .i64 (inV (evalE (l.getD 0 Ex.z) row) ((l.drop 1).map (evalE · row)) (tvV 0)).k, .int .i64 (inV (evalE (l.getD 0 Ex.z) row) ((l.drop 1).map (evalE · row)) (tvV 0)).n, .string (inV (evalE (l.getD 0 Ex.z) row) ((l.drop 1).map (evalE · row)) (tvV 0)).s]) ∧ Cls w w' := by
  have hlen := hk.len_eq
  have hle := hk.le
  have hmax := hk.max
  unfold maxLen at hmax
  obtain ⟨a0, len0, cap0, ⟨b, off, rfl, hb, hok, p0, p1, p2, p3, p4, p5⟩, f0, k0⟩ := hk.at_ (i := 0) (by omega)
  have C0 : Hid (∀ W, Below w.heap.size w W → Calls Tryz.prog 88 #[.agg #[.int .i64 (l.getD 0 Ex.z).op, .int .i64 (l.getD 0 Ex.z).ty, .int .i64 (l.getD 0 Ex.z).num, .string (l.getD 0 Ex.z).text, .int .i64 (l.getD 0 Ex.z).col, .slice a0 len0 cap0], .slice ra rlen rcap] W fun r w' => r = .returned (.agg #[.int .i64 (evalE (l.getD 0 Ex.z) row).k, .int .i64 (evalE (l.getD 0 Ex.z) row).n, .string (evalE (l.getD 0 Ex.z) row).s]) ∧ Cls W w') := Lib.hid (fun W hW => ih _ (getD_mem (by omega)) a0 len0 cap0 ok ra rlen rcap row W (k0.later hW) f0 (hr.later hW) (ht.later hW))
  simp only [Nat.zero_mul, Nat.add_zero] at p0 p1 p2 p3 p4 p5
  have hb1 : b < w.heap.size + 1 := by omega
  have HL := Lib.hid hlen
  have HR := Lib.hid hr
  have HK := Lib.hid hk
  have HI := Lib.hid ih
  have HT := Lib.hid ht
  clear hk hr ht k0 f0 ih hlen
  generalize evalE (l.getD 0 Ex.z) row = v0 at C0 ⊢
  generalize l.getD 0 Ex.z = e0 at *
  obtain ⟨X, hX⟩ : ∃ X, X = inV v0 ((l.drop 1).map (evalE · row)) (tvV 0) := ⟨_, rfl⟩
  rw [← hX]
  have HX := Lib.hid hX
  clear hX
  go_enter Tryz.func122, Tryz.ntmps122
  go_wp2_with (first | (go_at_call 88; ((with_reducible refine (C0.out _ ?_).mono ?_); (· (repeat first | with_reducible exact Below.refl _ _ | with_reducible assumption | with_reducible refine Below.setCell ?_ (by first | omega | (simp; done) | (simp; omega)) _ | with_reducible refine Below.alloc ?_ (by first | omega | (simp; done) | (simp; omega)) _ | with_reducible refine Below.drew ?_ | with_reducible refine Ext.on _ ?_ (by first | omega | (simp; done) | (simp; omega)))); rintro r _ ⟨rfl, y0, rfl⟩; skip)) | (go_at_call 138; first | ((with_reducible refine (Cls.call (Bool_calls _ _)).mono ?_); rintro r _ ⟨rfl, z0, rfl⟩) | ((with_reducible refine (Bool_calls _ _).mono ?_); rintro r _ ⟨rfl, z0, rfl⟩)))
  have wr0 := (y0.lts (b := w.heap.size) (by simp)).1
  have wb0 := (y0.lts (b := b) (by simp; omega)).1
  have wr1 := (z0.lts (b := w.heap.size) (by simp; omega)).1
  have wb1 := (z0.lts (b := b) (by simp; omega)).1
  have wy1 := (z0.lts (b := y0.val.heap.size) (by simp)).1
  go_loopw [18] (fun i wr => ∃ (j : Nat) (acc : Vl), Cls z0.val wr ∧ j ≤ len - 1 ∧ i = .int .i64 j ∧ z0.val.heap.size < wr.heap.size ∧ (wr.cell? ⟨z0.val.heap.size, 0, none⟩ = some (.int .i64 acc.k) ∧ wr.cell? ⟨z0.val.heap.size, 1, none⟩ = some (.int .i64 acc.n) ∧ wr.cell? ⟨z0.val.heap.size, 2, none⟩ = some (.string acc.s)) ∧ (wr.frozen? ⟨z0.val.heap.size, 0, none⟩ = false ∧ wr.frozen? ⟨z0.val.heap.size, 1, none⟩ = false ∧ wr.frozen? ⟨z0.val.heap.size, 2, none⟩ = false) ∧ X = inV v0 ((l.drop (j + 1)).map (evalE · row)) acc) (fun i _ => len - 1 - (intOf i).toNat)
  case atStart =>
    refine ⟨0, tvV 0, Cls.of ((Below.refl _ _).alloc (Nat.le_refl _) _), Nat.zero_le _, rfl, by simp, ⟨?_, ?_, ?_⟩, ⟨?_, ?_, ?_⟩, HX.out⟩
    all_goals simp [go_sem, tvV]
  case round =>
    obtain ⟨j, acc, ⟨x, rfl⟩, hj, rfl, hF, ⟨c0, c1, c2⟩, ⟨g0, g1, g2⟩, he⟩ := hrel
    have HE := Lib.hid he
    clear he
    have xr := (x.lts wr1).1
    have xb := (x.lts wb1).1
    have xy := (x.lts wy1).1
    by_cases hlt : j < len - 1
    · obtain ⟨aj, lenj, capj, ⟨b', off', ea, _, _, q0, q1, q2, q3, q4, q5⟩, fj, kj⟩ := HK.out.at_ (i := j + 1) (by omega)
      cases ea
      have eo : ∀ m, off + (j + 1) * 6 + m = off + 6 + j * 6 + m := fun m => by omega
      have eo0 : off + (j + 1) * 6 = off + 6 + j * 6 := by omega
      rw [eo] at q1 q2 q3 q4 q5
      rw [eo0] at q0
      have C1 : Hid (∀ W, Below w.heap.size w W → Calls Tryz.prog 88 #[.agg #[.int .i64 (l.getD (j + 1) Ex.z).op, .int .i64 (l.getD (j + 1) Ex.z).ty, .int .i64 (l.getD (j + 1) Ex.z).num, .string (l.getD (j + 1) Ex.z).text, .int .i64 (l.getD (j + 1) Ex.z).col, .slice aj lenj capj], .slice ra rlen rcap] W fun r w' => r = .returned (.agg #[.int .i64 (evalE (l.getD (j + 1) Ex.z) row).k, .int .i64 (evalE (l.getD (j + 1) Ex.z) row).n, .string (evalE (l.getD (j + 1) Ex.z) row).s]) ∧ Cls W w') := Lib.hid (fun W hW => HI.out _ (getD_mem (by have := HL.out; omega)) aj lenj capj ok ra rlen rcap row W (kj.later hW) fj (HR.out.later hW) (HT.out.later hW))
      have HD : Hid (inV v0 ((l.drop (j + 1)).map (evalE · row)) acc = inV v0 ((l.drop (j + 1 + 1)).map (evalE · row)) (orV acc v0 (evalE (l.getD (j + 1) Ex.z) row))) := Lib.hid (by rw [dropE (j := j + 1) (by have := HL.out; omega)]; rfl)
      clear eo eo0 fj kj
      generalize evalE (l.getD (j + 1) Ex.z) row = vj at C1 HD
      generalize l.getD (j + 1) Ex.z = ej at *
      go_wp2_with fail
      refine wp_region_ext_tail 7 (by kernel_rfl) (by kernel_rfl) ?_
      simp only [List.take_succ_cons, List.take_zero, List.drop_succ_cons, List.drop_zero]
      repeat (go_big_quiet_step (first | (go_at_call 88; exact Cls.call (C1.out _ (by repeat first | with_reducible exact Below.refl _ _ | with_reducible assumption | with_reducible refine Below.setCell ?_ (by first | omega | (simp; done) | (simp; omega)) _ | with_reducible refine Below.alloc ?_ (by first | omega | (simp; done) | (simp; omega)) _ | with_reducible refine Below.drew ?_ | with_reducible refine Ext.on _ ?_ (by first | omega | (simp; done) | (simp; omega))))) | (go_at_call 140; exact Cls.call (Equal_calls _ _ _ _ _ _ _)) | (go_at_call 139; exact Cls.call (Or_calls _ _ _ _ _ _ _))))
      refine wpQuiet_nil ?_
      rintro _ ⟨x2, rfl⟩
      have xF := (x2.lts (b := z0.val.heap.size) (by simp; omega)).1
      have k0 : (x2.val.cell? ⟨z0.val.heap.size, 0, none⟩).isSome = true := by rw [x2.cell 0 (by simp; omega)]; simp [go_sem, hF, c0]
      have h0 : x2.val.frozen? ⟨z0.val.heap.size, 0, none⟩ = false := by rw [x2.frozen 0 (by simp; omega)]; simp [go_sem, hF, g0]
      have k1 : (x2.val.cell? ⟨z0.val.heap.size, 1, none⟩).isSome = true := by rw [x2.cell 1 (by simp; omega)]; simp [go_sem, hF, c1]
      have h1 : x2.val.frozen? ⟨z0.val.heap.size, 1, none⟩ = false := by rw [x2.frozen 1 (by simp; omega)]; simp [go_sem, hF, g1]
      have k2 : (x2.val.cell? ⟨z0.val.heap.size, 2, none⟩).isSome = true := by rw [x2.cell 2 (by simp; omega)]; simp [go_sem, hF, c2]
      have h2 : x2.val.frozen? ⟨z0.val.heap.size, 2, none⟩ = false := by rw [x2.frozen 2 (by simp; omega)]; simp [go_sem, hF, g2]
      go_wp2_with fail
      go_roundw
      case rel =>
        refine ⟨j + 1, orV acc v0 vj, Cls.of ?_, by omega, by go_num, ?_, ⟨?_, ?_, ?_⟩, ⟨?_, ?_, ?_⟩, by rw [HE.out, HD.out]⟩
        · repeat first | with_reducible exact Below.refl _ _ | with_reducible assumption | with_reducible refine Below.setCell ?_ (by first | omega | (simp; done) | (simp; omega)) _ | with_reducible refine Below.alloc ?_ (by first | omega | (simp; done) | (simp; omega)) _ | with_reducible refine Below.drew ?_ | with_reducible refine Ext.on _ ?_ (by first | omega | (simp; done) | (simp; omega))
        all_goals simp [go_sem, orV, tvV, eqV, trV, xF, k0, k1, k2, h0, h1, h2]
      case measure => simp [intOf]; omega
    · have HT2 : Hid (X = acc) := Lib.hid (by rw [HE.out, List.drop_of_length_le (by have := HL.out; omega)]; rfl)
      have s0 : (x.val.cell? ⟨w.heap.size, 0, none⟩).isSome = true := by rw [x.cell 0 wr1, z0.cell 0 (by simp; omega)]; simp [go_sem, wr0]
      have s1 : (x.val.cell? ⟨w.heap.size, 1, none⟩).isSome = true := by rw [x.cell 1 wr1, z0.cell 1 (by simp; omega)]; simp [go_sem, wr0]
      have s2 : (x.val.cell? ⟨w.heap.size, 2, none⟩).isSome = true := by rw [x.cell 2 wr1, z0.cell 2 (by simp; omega)]; simp [go_sem, wr0]
      go_wp2_with fail
      refine ret_ex rfl ?_
      rw [HT2.out]
      simp [results, Tryz.results122, go_sem, s0, s1, s2]
      refine Cls.of ?_
      repeat first | with_reducible exact Below.refl _ _ | with_reducible assumption | with_reducible refine Below.setCell ?_ (by first | omega | (simp; done) | (simp; omega)) _ | with_reducible refine Below.alloc ?_ (by first | omega | (simp; done) | (simp; omega)) _ | with_reducible refine Below.drew ?_ | with_reducible refine Ext.on _ ?_ (by first | omega | (simp; done) | (simp; omega))
end Go.Proofs.YtdmhmlnfoocnjaaGreatDoor
