/-
  The first error of a table's keys. Plain functions on the numbers and texts of values: truths, and what logic gives. Nothing of the program is imported. Truth and Bool of the program, Bool of the reference, for all arguments.
-/
import Derived.Test.YtpddkljedhghkaaDoorJ07
import Derived.RowKit3
import Derived.Lib.Strings
import Derived.Test.YtpddkljedhghkaaDoorChecked
import Derived.Test.YtpddkljedhghkaaDoorJ01
import Derived.BigQuiet
set_option linter.unusedVariables false
namespace Go.Proofs.YtpddkljedhghkaaDoor
open Go Go.RowKit Go.Deep
theorem keyB_in {n len : Nat} {f : Nat → Int} (h : keyB n f len = true) : ∀ i, i < len → 0 ≤ f i ∧ f i < n := by
  intro i hi
  unfold keyB at h
  simp only [Bool.and_eq_true, decide_eq_true_eq] at h
  have h1 := (idx_none len 0).1 h.1 i (Nat.zero_le _) (by omega)
  unfold badK at h1
  simp only [Bool.or_eq_false_iff, decide_eq_false_iff_not] at h1
  omega
def nulP (t : Tb) (f : Nat → Int) (i : Nat) : Bool := (t.col (f i).toNat).null
set_option maxHeartbeats 4000000 in
set_option maxRecDepth 20000 in
theorem nullFn_calls (t : Tb) (c : Int) (bx : Nat) (w : World) (h : TbAt w t) (hb : w.heap[bx]? = some (.cells #[.string t.name, .slice t.cs.a t.cs.len t.cs.cap, .slice t.ps.a t.ps.len t.ps.cap, .slice t.us.a t.us.len t.us.cap, .slice t.fs.a t.fs.len t.fs.cap, .slice t.ks.a t.ks.len t.ks.cap] 53)) (h0 : 0 ≤ c) (h1 : c < t.cs.len) :
    Calls Tryd.prog 132 #[.int .i64 c, .pointer (some ⟨bx, 0, none⟩)] w fun r w' => r = .returned (.bool (t.col c.toNat).null) ∧ Cls w w' := by
  obtain ⟨n, rfl⟩ : ∃ n : Nat, c = n := ⟨c.toNat, by omega⟩
  have hle := h.cols.1
  have hmax := h.cols.2.1
  unfold maxLen at hmax
  obtain ⟨b, off, ha, hb2, hc⟩ := h.cols.2.2.2 n (by omega)
  have q0 := hc 0 (by omega)
  have q1 := hc 1 (by omega)
  have q2 := hc 2 (by omega)
  simp only [Cl.cells, List.getElem?_cons_zero, List.getElem?_cons_succ, Nat.add_zero] at q0 q1 q2
  obtain ⟨b0, _, _, _, _, _, _, k0, k1, k2, k3, k4, k5⟩ := six_z hb
  simp only [Int.toNat_natCast]
  generalize t.col n = c at q0 q1 q2 ⊢
  rw [ha] at k1
  clear hc h hb ha
  generalize t.cs.len = cn at *
  go_enter Tryd.func132, Tryd.ntmps132
  go_wp2_with fail
  go_ret
  refine ⟨ret_bool rfl, Cls.of ?_⟩
  repeat first | with_reducible exact Below.refl _ _ | with_reducible refine Below.setCell ?_ (by first | omega | (simp; done) | (simp; omega)) _ | with_reducible refine Below.alloc ?_ (by first | omega | (simp; done) | (simp; omega)) _ | with_reducible refine Below.drew ?_ | with_reducible refine Ext.on _ ?_ (by first | omega | (simp; done) | (simp; omega))
set_option maxHeartbeats 4000000 in
set_option maxRecDepth 20000 in
theorem indexN_calls (t : Tb) (s : Sl) (f : Nat → Int) (bx : Nat) (w : World) (h : TbAt w t) (hb : w.heap[bx]? = some (.cells #[.string t.name, .slice t.cs.a t.cs.len t.cs.cap, .slice t.ps.a t.ps.len t.ps.cap, .slice t.us.a t.us.len t.us.cap, .slice t.fs.a t.fs.len t.fs.cap, .slice t.ks.a t.ks.len t.ks.cap] 53)) (hs : SlAt w 1 s (intC f)) (hin : ∀ i, i < s.len → 0 ≤ f i ∧ f i < t.cs.len) :
    Calls Tryd.prog 150 #[.slice s.a s.len s.cap, .func (.func 132) #[] #[.pointer (some ⟨bx, 0, none⟩)]] w fun r w' => r = .returned (.int .i64 (idx (nulP t f) 0 s.len)) ∧ Cls w w' := by
  have hle := hs.1
  have hmax := hs.2.1
  unfold maxLen at hmax
  have H := Lib.hid hs.2.2.2
  have HT : Hid (∀ j, j < s.len → ∀ W, Below w.heap.size w W → Calls Tryd.prog 132 #[.int .i64 (f j), .pointer (some ⟨bx, 0, none⟩)] W fun r w' => r = .returned (.bool (nulP t f j)) ∧ Cls W w') := Lib.hid fun j hj W hW => nullFn_calls t (f j) bx W (h.later hW) ((hW.block _ (Array.getElem?_eq_some_iff.1 hb).1).trans hb) (hin j hj).1 (hin j hj).2
  clear hs h hb hin
  obtain ⟨sa, sn, sc⟩ := s
  simp only at hle hmax H HT
  generalize nulP t f = nf at HT ⊢
  go_enter Tryd.func150, Tryd.ntmps150
  go_wp2_with fail
  go_loopw [8] (fun i wr => ∃ j : Nat, j ≤ sn ∧ i = .int .i64 j ∧ idx nf 0 sn = idx nf j (sn - j) ∧ Cls w wr) (fun i _ => sn - (intOf i).toNat)
  case atStart => exact ⟨0, Nat.zero_le _, rfl, rfl, Cls.of (Below.refl _ _)⟩
  case round =>
    obtain ⟨j, hj, rfl, he, x, rfl⟩ := hrel
    have HE := Lib.hid he
    clear he
    have xs := x.size
    by_cases hltj : j < sn
    · obtain ⟨b, off, ha, hb2, hc⟩ := H.out j hltj
      subst ha
      have q0 := hc 0 (by omega)
      simp only [intC, List.getElem?_cons_zero, Nat.add_zero, Nat.mul_one] at q0
      have hS : Hid (sn - j = (sn - (j + 1)) + 1) := Lib.hid (by omega)
      have C1 := Lib.hid (HT.out j hltj)
      clear hc
      cases hbb : nf j
      all_goals
        have HB := Lib.hid hbb
        rw [hbb] at C1
        clear hbb
        generalize f j = tj at q0 C1
        go_wp2_with (go_at_call 132; ((with_reducible refine (Cls.call (C1.out _ x.below)).mono ?_); rintro r _ ⟨rfl, y, rfl⟩))
      · go_roundw
        case rel => exact ⟨j + 1, by omega, by go_num, by rw [HE.out, hS.out, idx_go HB.out], y, rfl⟩
        case measure => simp [intOf]; omega
      · go_ret
        exact ⟨ret_int (by rw [HE.out, hS.out, idx_stop HB.out]), y, rfl⟩
    · have hz : Hid (sn - j = 0) := Lib.hid (by omega)
      go_wp2_with fail
      go_ret
      exact ⟨ret_int (by rw [HE.out, hz.out]; rfl), x, rfl⟩
set_option maxHeartbeats 4000000 in
set_option maxRecDepth 20000 in
theorem containsN_calls (t : Tb) (s : Sl) (f : Nat → Int) (bx : Nat) (w : World) (h : TbAt w t) (hb : w.heap[bx]? = some (.cells #[.string t.name, .slice t.cs.a t.cs.len t.cs.cap, .slice t.ps.a t.ps.len t.ps.cap, .slice t.us.a t.us.len t.us.cap, .slice t.fs.a t.fs.len t.fs.cap, .slice t.ks.a t.ks.len t.ks.cap] 53)) (hs : SlAt w 1 s (intC f)) (hin : ∀ i, i < s.len → 0 ≤ f i ∧ f i < t.cs.len) :
    Calls Tryd.prog 131 #[.slice s.a s.len s.cap, .func (.func 132) #[] #[.pointer (some ⟨bx, 0, none⟩)]] w fun r w' => r = .returned (.bool (decide (0 ≤ idx (nulP t f) 0 s.len))) ∧ Cls w w' := by
  have C1 := Lib.hid (indexN_calls t s f bx w h hb hs hin)
  clear h hb hs hin
  generalize idx (nulP t f) 0 s.len = n at C1 ⊢
  go_enter Tryd.func131, Tryd.ntmps131
  go_wp2_with (go_at_call 150; ((with_reducible refine C1.out.mono ?_); rintro r _ ⟨rfl, y, rfl⟩))
  go_ret
  exact ⟨ret_bool (by simp), y, rfl⟩
def uqP (t : Tb) (i : Nat) : Bool := !keyB t.cs.len (t.uqn i) (t.uq i).len
def fkP (t : Tb) (i : Nat) : Bool := !keyB t.cs.len (t.fkn i) (t.fk i).len
/-- The first error of the keys. -/
def keyE (t : Tb) : Int :=
  if keyB t.cs.len t.prim t.ps.len = true then (if 0 ≤ idx (nulP t t.prim) 0 t.ps.len then 4 else if 0 ≤ idx (uqP t) 0 t.us.len then 6 else if 0 ≤ idx (fkP t) 0 t.fs.len then 6 else 0) else 6
set_option maxHeartbeats 8000000 in
set_option maxRecDepth 20000 in
theorem keyError_calls (t : Tb) (w : World) (h : TbAt w t) :
    Calls Tryd.prog 99 #[.agg #[.string t.name, .slice t.cs.a t.cs.len t.cs.cap, .slice t.ps.a t.ps.len t.ps.cap, .slice t.us.a t.us.len t.us.cap, .slice t.fs.a t.fs.len t.fs.cap, .slice t.ks.a t.ks.len t.ks.cap]] w fun r w' => r = .returned (.int .i64 (keyE t)) ∧ Cls w w' := by
  have hcm : t.cs.len ≤ maxLen := Nat.le_trans h.cols.1 h.cols.2.1
  have hul := h.uqs.1
  have hum := h.uqs.2.1
  have hfl := h.fks.1
  have hfm := h.fks.2.1
  unfold maxLen at hum hfm
  have HK : Hid (keyE t = if keyB t.cs.len t.prim t.ps.len = true then (if 0 ≤ idx (nulP t t.prim) 0 t.ps.len then 4 else if 0 ≤ idx (uqP t) 0 t.us.len then 6 else if 0 ≤ idx (fkP t) 0 t.fs.len then 6 else 0) else 6) := Lib.hid rfl
  have C1 : Hid (∀ W, Below w.heap.size w W → Calls Tryd.prog 130 #[.agg #[.string t.name, .slice t.cs.a t.cs.len t.cs.cap, .slice t.ps.a t.ps.len t.ps.cap, .slice t.us.a t.us.len t.us.cap, .slice t.fs.a t.fs.len t.fs.cap, .slice t.ks.a t.ks.len t.ks.cap], .slice t.ps.a t.ps.len t.ps.cap] W fun r w' => r = .returned (.bool (keyB t.cs.len t.prim t.ps.len)) ∧ Cls W w') := Lib.hid fun W hW => isKey_calls t t.ps t.prim W (h.prim.later hW) hcm
  have C2 : Hid (keyB t.cs.len t.prim t.ps.len = true → ∀ W, Below w.heap.size w W → W.heap[w.heap.size]? = some (.cells #[.string t.name, .slice t.cs.a t.cs.len t.cs.cap, .slice t.ps.a t.ps.len t.ps.cap, .slice t.us.a t.us.len t.us.cap, .slice t.fs.a t.fs.len t.fs.cap, .slice t.ks.a t.ks.len t.ks.cap] 53) → Calls Tryd.prog 131 #[.slice t.ps.a t.ps.len t.ps.cap, .func (.func 132) #[] #[.pointer (some ⟨w.heap.size, 0, none⟩)]] W fun r w' => r = .returned (.bool (decide (0 ≤ idx (nulP t t.prim) 0 t.ps.len))) ∧ Cls W w') := Lib.hid fun hk W hW hb => containsN_calls t t.ps t.prim w.heap.size W (h.later hW) hb (h.prim.later hW) (keyB_in hk)
  have CU : Hid (∀ i, i < t.us.len → ∀ W, Below w.heap.size w W → Calls Tryd.prog 130 #[.agg #[.string t.name, .slice t.cs.a t.cs.len t.cs.cap, .slice t.ps.a t.ps.len t.ps.cap, .slice t.us.a t.us.len t.us.cap, .slice t.fs.a t.fs.len t.fs.cap, .slice t.ks.a t.ks.len t.ks.cap], .slice (t.uq i).a (t.uq i).len (t.uq i).cap] W fun r w' => r = .returned (.bool (keyB t.cs.len (t.uqn i) (t.uq i).len)) ∧ Cls W w') := Lib.hid fun i hi W hW => isKey_calls t (t.uq i) (t.uqn i) W ((h.uqn i hi).later hW) hcm
  have CF : Hid (∀ i, i < t.fs.len → ∀ W, Below w.heap.size w W → Calls Tryd.prog 130 #[.agg #[.string t.name, .slice t.cs.a t.cs.len t.cs.cap, .slice t.ps.a t.ps.len t.ps.cap, .slice t.us.a t.us.len t.us.cap, .slice t.fs.a t.fs.len t.fs.cap, .slice t.ks.a t.ks.len t.ks.cap], .slice (t.fk i).a (t.fk i).len (t.fk i).cap] W fun r w' => r = .returned (.bool (keyB t.cs.len (t.fkn i) (t.fk i).len)) ∧ Cls W w') := Lib.hid fun i hi W hW => isKey_calls t (t.fk i) (t.fkn i) W ((h.fkn i hi).1.later hW) hcm
  have HU := Lib.hid h.uqs.2.2.2
  have HF := Lib.hid h.fks.2.2.2
  have HPU : Hid (∀ i, uqP t i = !keyB t.cs.len (t.uqn i) (t.uq i).len) := Lib.hid fun i => rfl
  have HPF : Hid (∀ i, fkP t i = !keyB t.cs.len (t.fkn i) (t.fk i).len) := Lib.hid fun i => rfl
  clear h hcm
  generalize keyE t = ke at HK ⊢
  generalize idx (nulP t t.prim) 0 t.ps.len = ni at HK C2
  generalize uqP t = up at HK HPU
  generalize fkP t = fp at HK HPF
  obtain ⟨tn, ⟨ca, cn, cc⟩, tf, ⟨pa, pn, pc⟩, tprim, ⟨ua, un, uc⟩, tuq, tuqn, ⟨fa, fn, fc⟩, tfk, tfkn, tfkt, tks, tch⟩ := t
  simp only at hul hum hfl hfm HK C1 C2 CU CF HU HF HPU HPF ⊢
  generalize keyB cn tprim pn = kb at HK C1 C2
  go_enter Tryd.func99, Tryd.ntmps99
  cases kb
  · go_wp2_with (go_at_call 130; ((with_reducible refine (C1.out _ (by repeat first | with_reducible exact Below.refl _ _ | with_reducible refine Below.setCell ?_ (by first | omega | (simp; done) | (simp; omega)) _ | with_reducible refine Below.alloc ?_ (by first | omega | (simp; done) | (simp; omega)) _ | with_reducible refine Below.drew ?_ | with_reducible refine Ext.on _ ?_ (by first | omega | (simp; done) | (simp; omega)))).mono ?_); rintro r _ ⟨rfl, y, rfl⟩))
    go_ret
    refine ⟨ret_int (by rw [HK.out]; rfl), Cls.of ?_⟩
    repeat first | with_reducible exact Below.refl _ _ | with_reducible refine Below.setCell ?_ (by first | omega | (simp; done) | (simp; omega)) _ | with_reducible refine Below.alloc ?_ (by first | omega | (simp; done) | (simp; omega)) _ | with_reducible refine Below.drew ?_ | with_reducible refine Ext.on _ ?_ (by first | omega | (simp; done) | (simp; omega))
  · have CP := Lib.hid (C2.out rfl)
    clear C2
    by_cases hni : 0 ≤ ni
    · have dn : decide (0 ≤ ni) = true := by simp; omega
      rw [dn] at CP
      have HNI := Lib.hid hni
      clear hni dn
      go_wp2_with (first | (go_at_call 130; ((with_reducible refine (C1.out _ (by repeat first | with_reducible exact Below.refl _ _ | with_reducible refine Below.setCell ?_ (by first | omega | (simp; done) | (simp; omega)) _ | with_reducible refine Below.alloc ?_ (by first | omega | (simp; done) | (simp; omega)) _ | with_reducible refine Below.drew ?_ | with_reducible refine Ext.on _ ?_ (by first | omega | (simp; done) | (simp; omega)))).mono ?_); rintro r _ ⟨rfl, y, rfl⟩; obtain ⟨b0, _, _, _, _, _, _, k0, k1, k2, k3, k4, k5⟩ := six_z ((y.below.block w.heap.size (by simp)).trans (heap_alloc_new w _)))) | (go_at_call 131; ((with_reducible refine (CP.out _ ?_ ?_).mono ?_); (· repeat first | with_reducible exact Below.refl _ _ | with_reducible refine Below.setCell ?_ (by first | omega | (simp; done) | (simp; omega)) _ | with_reducible refine Below.alloc ?_ (by first | omega | (simp; done) | (simp; omega)) _ | with_reducible refine Below.drew ?_ | with_reducible refine Ext.on _ ?_ (by first | omega | (simp; done) | (simp; omega))); (· exact (y.below.block w.heap.size (by simp)).trans (heap_alloc_new w _)); rintro r _ ⟨rfl, z, rfl⟩)))
      go_ret
      refine ⟨ret_int (by rw [HK.out, if_pos (by trivial), if_pos HNI.out]), Cls.of ?_⟩
      repeat first | with_reducible exact Below.refl _ _ | with_reducible refine Below.setCell ?_ (by first | omega | (simp; done) | (simp; omega)) _ | with_reducible refine Below.alloc ?_ (by first | omega | (simp; done) | (simp; omega)) _ | with_reducible refine Below.drew ?_ | with_reducible refine Ext.on _ ?_ (by first | omega | (simp; done) | (simp; omega))
    · have dn : decide (0 ≤ ni) = false := by simp; omega
      rw [dn] at CP
      have HNI := Lib.hid hni
      clear hni dn
      go_wp2_with (first | (go_at_call 130; ((with_reducible refine (C1.out _ (by repeat first | with_reducible exact Below.refl _ _ | with_reducible refine Below.setCell ?_ (by first | omega | (simp; done) | (simp; omega)) _ | with_reducible refine Below.alloc ?_ (by first | omega | (simp; done) | (simp; omega)) _ | with_reducible refine Below.drew ?_ | with_reducible refine Ext.on _ ?_ (by first | omega | (simp; done) | (simp; omega)))).mono ?_); rintro r _ ⟨rfl, y, rfl⟩; obtain ⟨b0, _, _, _, _, _, _, k0, k1, k2, k3, k4, k5⟩ := six_z ((y.below.block w.heap.size (by simp)).trans (heap_alloc_new w _)))) | (go_at_call 131; ((with_reducible refine (CP.out _ ?_ ?_).mono ?_); (· repeat first | with_reducible exact Below.refl _ _ | with_reducible refine Below.setCell ?_ (by first | omega | (simp; done) | (simp; omega)) _ | with_reducible refine Below.alloc ?_ (by first | omega | (simp; done) | (simp; omega)) _ | with_reducible refine Below.drew ?_ | with_reducible refine Ext.on _ ?_ (by first | omega | (simp; done) | (simp; omega))); (· exact (y.below.block w.heap.size (by simp)).trans (heap_alloc_new w _)); rintro r _ ⟨rfl, z, rfl⟩; obtain ⟨c0', _, _, _, _, _, _, m0, m1, m2, m3, m4, m5⟩ := six_z ((z.below.block w.heap.size (by have := y.size; simp at this; omega)).trans ((y.below.block w.heap.size (by simp)).trans (heap_alloc_new w _))))))
      have HBL := Lib.hid ((z.below.block w.heap.size (by have := y.size; simp at this; omega)).trans ((y.below.block w.heap.size (by simp)).trans (heap_alloc_new w (.cells #[.string tn, .slice ca cn cc, .slice pa pn pc, .slice ua un uc, .slice fa fn fc, .slice tks.a tks.len tks.cap] 53))))
      have HB0 : Hid (Below w.heap.size w z.val) := Lib.hid (by repeat first | with_reducible exact Below.refl _ _ | with_reducible refine Below.setCell ?_ (by first | omega | (simp; done) | (simp; omega)) _ | with_reducible refine Below.alloc ?_ (by first | omega | (simp; done) | (simp; omega)) _ | with_reducible refine Below.drew ?_ | with_reducible refine Ext.on _ ?_ (by first | omega | (simp; done) | (simp; omega)))
      have h0s := c0'
      clear c0' m0 m1 m2 m3 m4 m5 b0 k0 k1 k2 k3 k4 k5 CP C1
      generalize z.val = W0 at *
      skip
      go_loopw [19] (fun i wr => ∃ j : Nat, j ≤ un ∧ i = .int .i64 j ∧ idx up 0 un = idx up j (un - j) ∧ Cls W0 wr) (fun i _ => un - (intOf i).toNat)
      case atStart => exact ⟨0, Nat.zero_le _, rfl, rfl, Cls.of (Below.refl _ _)⟩
      case round =>
        obtain ⟨j, hj, rfl, he, x, rfl⟩ := hrel
        have HE := Lib.hid he
        clear he
        have xs := x.size
        have HBX : Hid (Below w.heap.size w x.val) := Lib.hid (HB0.out.trans (x.below.mono (by omega)))
        have HBLX := Lib.hid ((x.below.block _ (by omega)).trans HBL.out)
        obtain ⟨b0, _, _, _, _, _, _, k0, k1, k2, k3, k4, k5⟩ := six_z HBLX.out
        by_cases hltj : j < un
        · obtain ⟨b, off, ha, hb2, hc⟩ := HU.out j hltj
          subst ha
          have q0 := hc 0 (by omega)
          simp only [List.getElem?_cons_zero, Nat.add_zero, Nat.mul_one, Sl.v] at q0
          rw [← HBX.out.cell (p := ⟨b, _, none⟩) hb2] at q0
          have hb3 : b < x.val.heap.size := by omega
          have hS : Hid (un - j = (un - (j + 1)) + 1) := Lib.hid (by omega)
          have hP := Lib.hid (HPU.out j)
          have C3 := Lib.hid (CU.out j hltj)
          clear hc
          generalize keyB cn (tuqn j) (tuq j).len = kb at hP C3
          generalize tuq j = u at q0 C3
          obtain ⟨u1, u2, u3⟩ := u
          simp only at q0 C3
          cases kb
          all_goals
            go_wp2_with (go_at_call 130; ((with_reducible refine (C3.out _ HBX.out).mono ?_); rintro r _ ⟨rfl, y, rfl⟩))
          · go_ret
            refine ⟨ret_int (by rw [HK.out, if_pos (by trivial), if_neg (by have := HNI.out; omega), if_pos (by rw [HE.out, hS.out, idx_stop hP.out]; omega)]), Cls.of (HBX.out.trans (y.below.mono (by omega)))⟩
          · go_roundw
            case rel => exact ⟨j + 1, by omega, by go_num, by rw [HE.out, hS.out, idx_go hP.out], Cls.of (x.below.trans (y.below.mono (by omega)))⟩
            case measure => simp [intOf]; omega
        · have hz : Hid (un - j = 0) := Lib.hid (by omega)
          have HUN : Hid (¬ 0 ≤ idx up 0 un) := Lib.hid (by rw [HE.out, hz.out]; show ¬ ((0 : Int) ≤ -1); decide)
          clear HE hz CU HU HPU
          go_wp2_with fail
          clear k0 k1 k2 k3 k4 k5 b0
          have h1s : w.heap.size < x.val.heap.size := by omega
          generalize x.val = W1 at *
          clear xs x HBL HB0 h0s
          go_loopw [31] (fun i wr => ∃ j : Nat, j ≤ fn ∧ i = .int .i64 j ∧ idx fp 0 fn = idx fp j (fn - j) ∧ Cls W1 wr) (fun i _ => fn - (intOf i).toNat)
          case atStart => exact ⟨0, Nat.zero_le _, rfl, rfl, Cls.of (Below.refl _ _)⟩
          case round =>
            obtain ⟨j, hj, rfl, he, x, rfl⟩ := hrel
            have HE := Lib.hid he
            clear he
            have xs := x.size
            have HBY : Hid (Below w.heap.size w x.val) := Lib.hid (HBX.out.trans (x.below.mono (by omega)))
            obtain ⟨b0, _, _, _, _, _, _, k0, k1, k2, k3, k4, k5⟩ := six_z ((x.below.block _ (by omega)).trans HBLX.out)
            by_cases hltj : j < fn
            · obtain ⟨b, off, ha, hb2, hc⟩ := HF.out j hltj
              subst ha
              have q0 := hc 0 (by omega)
              have q1 := hc 1 (by omega)
              simp only [List.getElem?_cons_zero, List.getElem?_cons_succ, Nat.add_zero, Sl.v] at q0 q1
              rw [← HBY.out.cell (p := ⟨b, _, none⟩) hb2] at q0 q1
              have hb3 : b < x.val.heap.size := by omega
              have hS : Hid (fn - j = (fn - (j + 1)) + 1) := Lib.hid (by omega)
              have hP := Lib.hid (HPF.out j)
              have C3 := Lib.hid (CF.out j hltj)
              clear hc
              generalize keyB cn (tfkn j) (tfk j).len = kb at hP C3
              generalize tfk j = u at q0 C3
              generalize tfkt j = ut at q1
              obtain ⟨u1, u2, u3⟩ := u
              simp only at q0 C3
              cases kb
              all_goals
                go_wp2_with (go_at_call 130; ((with_reducible refine (C3.out _ (HBY.out.trans (((Below.refl _ _).alloc (Nat.le_refl _) _).mono HBY.out.size))).mono ?_); rintro r _ ⟨rfl, y, rfl⟩))
              · go_ret
                refine ⟨ret_int (by rw [HK.out, if_pos (by trivial), if_neg (by have := HNI.out; omega), if_neg (by have := HUN.out; omega), if_pos (by rw [HE.out, hS.out, idx_stop hP.out]; omega)]), Cls.of (HBY.out.trans (Below.mono (((Below.refl _ _).alloc (Nat.le_refl _) _).trans (y.below.mono (by simp))) HBY.out.size))⟩
              · go_roundw
                case rel => exact ⟨j + 1, by omega, by go_num, by rw [HE.out, hS.out, idx_go hP.out], Cls.of (x.below.trans (Below.mono (((Below.refl _ _).alloc (Nat.le_refl _) _).trans (y.below.mono (by simp))) x.size))⟩
                case measure => simp [intOf]; omega
            · have hz : Hid (fn - j = 0) := Lib.hid (by omega)
              go_wp2_with fail
              go_ret
              exact ⟨ret_int (by rw [HK.out, if_pos (by trivial), if_neg (by have := HNI.out; omega), if_neg (by have := HUN.out; omega), if_neg (by rw [HE.out, hz.out]; show ¬ ((0 : Int) ≤ -1); decide)]), Cls.of HBY.out⟩
end Go.Proofs.YtpddkljedhghkaaDoor
namespace Go.Proofs.YtpddkljedhghkaaDoor
open Go

/-- The truth of a value with this kind and number. -/
def truT (k n : Int) : Int := if k = 2 then if n = 1 then 1 else 0 else 2
/-- Kind and number of the truth value t, null for any other number. -/
def tvK (t : Int) : Int := if t = 0 then 2 else if t = 1 then 2 else 0
def tvN (t : Int) : Int := if t = 1 then 1 else 0
def andT (a b : Int) : Int := if a = 0 then 0 else if b = 0 then 0 else if a = 2 then 2 else if b = 2 then 2 else 1
def orT (a b : Int) : Int := if a = 1 then 1 else if b = 1 then 1 else if a = 2 then 2 else if b = 2 then 2 else 0
def notT (a : Int) : Int := if a = 0 then 1 else if a = 1 then 0 else 2

/-! ### The order of values -/
def cmpI (a b : Int) : Int := if a < b then -1 else if b < a then 1 else 0
def cmpS (s t : ByteArray) : Int := if Op.bytesLess s.toList t.toList = true then -1 else if s.toList = t.toList then 0 else 1
def cmpV (k n : Int) (s : ByteArray) (k' n' : Int) (s' : ByteArray) : Int := if k = k' then if n = n' then cmpS s s' else cmpI n n' else cmpI k k'

def b2i (b : Bool) : Int := if b = true then 1 else 0
/-- Are two values the same? -/
def sameB (k n : Int) (s : ByteArray) (k' n' : Int) (s' : ByteArray) : Bool := cmpV k n s k' n' s' == 0
def eqT (k n : Int) (s : ByteArray) (k' n' : Int) (s' : ByteArray) : Int := if k = 0 then 2 else if k' = 0 then 2 else b2i (sameB k n s k' n' s')
def lessT (k n : Int) (s : ByteArray) (k' n' : Int) (s' : ByteArray) : Int := if k = 0 then 2 else if k' = 0 then 2 else b2i (decide (cmpV k n s k' n' s' < 0))

end Go.Proofs.YtpddkljedhghkaaDoor
namespace Go.Proofs.YtpddkljedhghkaaDoor
open Go Go.RowKit

theorem rBool_calls (n : Int) (w : World) :
    Calls Tryd.prog 93 #[.int .i64 n] w fun e w' => e = .returned (.agg #[.int .i64 (tvK n), .int .i64 (tvN n), .string ⟨#[]⟩]) ∧ Cls w w' := by
  go_enter Tryd.func93, Tryd.ntmps93
  go_wp2
  all_goals
    refine ret_ex rfl ?_
    simp [results, Tryd.results93, go_sem]
    refine ⟨?_, Cls.of ((Below.refl _ _).alloc (Nat.le_refl _) _)⟩
  all_goals simp_all [tvK, tvN]
  all_goals omega
end Go.Proofs.YtpddkljedhghkaaDoor
