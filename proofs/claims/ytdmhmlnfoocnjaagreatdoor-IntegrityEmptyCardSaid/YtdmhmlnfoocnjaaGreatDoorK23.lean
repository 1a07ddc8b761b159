/-
  The first error of what the foreign keys name.
-/
import Derived.Test.YtdmhmlnfoocnjaaGreatDoorK15
import Derived.Test.YtdmhmlnfoocnjaaGreatDoorK09
import Derived.Test.YtdmhmlnfoocnjaaGreatDoorK14
import Derived.Test.YtdmhmlnfoocnjaaGreatDoorK12
import Derived.Maps.AppendAt
import Derived.OwnWalk
set_option linter.unusedVariables false
namespace Go.Proofs.YtdmhmlnfoocnjaaGreatDoor
open Go Go.RowKit Go.Deep
def fksP (t o : Tb) (f g : Nat → Int) (i : Nat) : Bool := !((t.col (f i).toNat).ty == (o.col (g i).toNat).ty)
def fksB (t o : Tb) (f g : Nat → Int) (n m : Nat) : Bool := decide (n = m) && decide (idx (fksP t o f g) 0 n < 0)
set_option maxHeartbeats 4000000 in
set_option maxRecDepth 20000 in
theorem fksFn_calls (t o : Tb) (c k : Int) (bx by_ : Nat) (w : World) (h : TbAt w t) (h' : TbAt w o) (hb : w.heap[bx]? = some (.cells #[.string t.name, .slice t.cs.a t.cs.len t.cs.cap, .slice t.ps.a t.ps.len t.ps.cap, .slice t.us.a t.us.len t.us.cap, .slice t.fs.a t.fs.len t.fs.cap, .slice t.ks.a t.ks.len t.ks.cap] 55)) (hb' : w.heap[by_]? = some (.cells #[.string o.name, .slice o.cs.a o.cs.len o.cs.cap, .slice o.ps.a o.ps.len o.ps.cap, .slice o.us.a o.us.len o.us.cap, .slice o.fs.a o.fs.len o.fs.cap, .slice o.ks.a o.ks.len o.ks.cap] 55)) (h0 : 0 ≤ c) (h1 : c < t.cs.len) (h2 : 0 ≤ k) (h3 : k < o.cs.len) :
    Calls Tryz.prog 112 #[.int .i64 c, .int .i64 k, .pointer (some ⟨bx, 0, none⟩), .pointer (some ⟨by_, 0, none⟩)] w fun r w' => r = .returned (.bool ((t.col c.toNat).ty == (o.col k.toNat).ty)) ∧ Cls w w' := by
  obtain ⟨n, rfl⟩ : ∃ n : Nat, c = n := ⟨c.toNat, by omega⟩
  obtain ⟨m, rfl⟩ : ∃ n : Nat, k = n := ⟨k.toNat, by omega⟩
  have hle := h.cols.1
  have hmax := h.cols.2.1
  have hle' := h'.cols.1
  have hmax' := h'.cols.2.1
  unfold maxLen at hmax hmax'
  obtain ⟨b, off, ha, hb2, hc⟩ := h.cols.2.2.2 n (by omega)
  obtain ⟨b', off', ha', hb2', hc'⟩ := h'.cols.2.2.2 m (by omega)
  have q0 := hc 0 (by omega)
  have q1 := hc 1 (by omega)
  have q2 := hc 2 (by omega)
  have r0 := hc' 0 (by omega)
  have r1 := hc' 1 (by omega)
  have r2 := hc' 2 (by omega)
  simp only [Cl.cells, List.getElem?_cons_zero, List.getElem?_cons_succ, Nat.add_zero] at q0 q1 q2 r0 r1 r2
  obtain ⟨b0, _, _, _, _, _, _, k0, k1, k2, k3, k4, k5⟩ := six_z hb
  obtain ⟨b1, _, _, _, _, _, _, m0, m1, m2, m3, m4, m5⟩ := six_z hb'
  simp only [Int.toNat_natCast]
  generalize t.col n = u at q0 q1 q2 ⊢
  generalize o.col m = v at r0 r1 r2 ⊢
  rw [ha] at k1
  rw [ha'] at m1
  clear hc hc' h h' hb hb' ha ha' k0 k2 k3 k4 k5 m0 m2 m3 m4 m5
  generalize t.cs.len = cn at *
  generalize o.cs.len = on at *
  go_enter Tryz.func112, Tryz.ntmps112
  go_wp2_with fail
  refine wp_region_ext (by kernel_rfl) (by kernel_rfl) ?_
  repeat (go_big_quiet_step (fail))
  refine wpQuiet_nil ?_
  rintro _ ⟨y, rfl⟩
  go_wp2_with fail
  go_ret
  exact ⟨ret_bool rfl, y, rfl⟩
set_option maxHeartbeats 4000000 in
set_option maxRecDepth 20000 in
theorem equalF_calls (t o : Tb) (s s' : Sl) (f g : Nat → Int) (bx by_ : Nat) (w : World) (h : TbAt w t) (h' : TbAt w o) (hb : w.heap[bx]? = some (.cells #[.string t.name, .slice t.cs.a t.cs.len t.cs.cap, .slice t.ps.a t.ps.len t.ps.cap, .slice t.us.a t.us.len t.us.cap, .slice t.fs.a t.fs.len t.fs.cap, .slice t.ks.a t.ks.len t.ks.cap] 55)) (hb' : w.heap[by_]? = some (.cells #[.string o.name, .slice o.cs.a o.cs.len o.cs.cap, .slice o.ps.a o.ps.len o.ps.cap, .slice o.us.a o.us.len o.us.cap, .slice o.fs.a o.fs.len o.fs.cap, .slice o.ks.a o.ks.len o.ks.cap] 55)) (hs : SlAt w 1 s (intC f)) (hs' : SlAt w 1 s' (intC g))
    (hin : ∀ i, i < s.len → 0 ≤ f i ∧ f i < t.cs.len) (hin' : ∀ i, i < s'.len → 0 ≤ g i ∧ g i < o.cs.len) :
    Calls Tryz.prog 111 #[.slice s.a s.len s.cap, .slice s'.a s'.len s'.cap, .func (.func 112) #[] #[.pointer (some ⟨bx, 0, none⟩), .pointer (some ⟨by_, 0, none⟩)]] w fun r w' => r = .returned (.bool (fksB t o f g s.len s'.len)) ∧ Cls w w' := by
  have hle := hs.1
  have hmax := hs.2.1
  have hle' := hs'.1
  have hmax' := hs'.2.1
  unfold maxLen at hmax hmax'
  have H := Lib.hid hs.2.2.2
  have H' := Lib.hid hs'.2.2.2
  have HT : Hid (∀ j, j < s.len → j < s'.len → ∀ W, Below w.heap.size w W → Calls Tryz.prog 112 #[.int .i64 (f j), .int .i64 (g j), .pointer (some ⟨bx, 0, none⟩), .pointer (some ⟨by_, 0, none⟩)] W fun r w' => r = .returned (.bool ((t.col (f j).toNat).ty == (o.col (g j).toNat).ty)) ∧ Cls W w') := Lib.hid fun j hj hj' W hW => fksFn_calls t o (f j) (g j) bx by_ W (h.later hW) (h'.later hW) ((hW.block _ (Array.getElem?_eq_some_iff.1 hb).1).trans hb) ((hW.block _ (Array.getElem?_eq_some_iff.1 hb').1).trans hb') (hin j hj).1 (hin j hj).2 (hin' j hj').1 (hin' j hj').2
  have HP : Hid (∀ j, fksP t o f g j = !((t.col (f j).toNat).ty == (o.col (g j).toNat).ty)) := Lib.hid fun j => rfl
  unfold fksB
  clear hs hs' h h' hb hb' hin hin'
  generalize fksP t o f g = fp at HP ⊢
  obtain ⟨sa, sn, sc⟩ := s
  obtain ⟨ta, tn, tc⟩ := s'
  simp only at hle hmax hle' hmax' H H' HT ⊢
  go_enter Tryz.func111, Tryz.ntmps111
  by_cases hnm : sn = tn
  · subst hnm
    have e0 : decide (sn = sn) = true := by simp
    rw [e0, Bool.true_and]
    clear e0
    go_wp2_with fail
    go_loopw [17] (fun i wr => ∃ j : Nat, j ≤ sn ∧ i = .int .i64 j ∧ idx fp 0 sn = idx fp j (sn - j) ∧ Cls w wr) (fun i _ => sn - (intOf i).toNat)
    case atStart => exact ⟨0, Nat.zero_le _, rfl, rfl, Cls.of (Below.refl _ _)⟩
    case round =>
      obtain ⟨j, hj, rfl, he, x, rfl⟩ := hrel
      have HE := Lib.hid he
      clear he
      have xs := x.size
      by_cases hltj : j < sn
      · obtain ⟨b, off, ha, hb2, hc⟩ := H.out j hltj
        obtain ⟨b', off', ha', hb2', hc'⟩ := H'.out j hltj
        subst ha ha'
        have q0 := hc 0 (by omega)
        have r0 := hc' 0 (by omega)
        simp only [intC, List.getElem?_cons_zero, Nat.add_zero, Nat.mul_one] at q0 r0
        have hS : Hid (sn - j = (sn - (j + 1)) + 1) := Lib.hid (by omega)
        have C1 := Lib.hid (HT.out j hltj hltj)
        have hP := Lib.hid (HP.out j)
        clear hc hc'
        generalize ((t.col (f j).toNat).ty == (o.col (g j).toNat).ty) = bb at C1 hP
        generalize f j = tj at q0 C1
        generalize g j = uj at r0 C1
        cases bb
        all_goals
          go_wp2_with (go_at_call 112; ((with_reducible refine (Cls.call (C1.out _ x.below)).mono ?_); rintro r _ ⟨rfl, y, rfl⟩))
        · go_ret
          exact ⟨ret_bool (by rw [HE.out, hS.out, idx_stop hP.out]; first | (simp; done) | (simp; omega)), y, rfl⟩
        · go_roundw
          case rel => exact ⟨j + 1, by omega, by go_num, by rw [HE.out, hS.out, idx_go hP.out], y, rfl⟩
          case measure => simp [intOf]; omega
      · have hz : Hid (sn - j = 0) := Lib.hid (by omega)
        go_wp2_with fail
        go_ret
        exact ⟨ret_bool (by rw [HE.out, hz.out]; rfl), x, rfl⟩
  · have e0 : decide (sn = tn) = false := by simp [hnm]
    rw [e0, Bool.false_and]
    have d1 : ((sn : Int) == (tn : Int)) = false := by simp; omega
    have d2 : ((sn : Int) != (tn : Int)) = true := by simp; omega
    clear e0
    go_wp2_with fail
    go_ret
    exact ⟨ret_bool rfl, Cls.of (Below.refl _ _)⟩
set_option maxHeartbeats 4000000 in
set_option maxRecDepth 20000 in
theorem fits_calls (t o : Tb) (s : Sl) (f : Nat → Int) (w : World) (h : TbAt w t) (h' : TbAt w o) (hs : SlAt w 1 s (intC f)) (hin : ∀ i, i < s.len → 0 ≤ f i ∧ f i < t.cs.len) (hin' : ∀ i, i < o.ps.len → 0 ≤ o.prim i ∧ o.prim i < o.cs.len) :
    Calls Tryz.prog 78 #[.agg #[.string t.name, .slice t.cs.a t.cs.len t.cs.cap, .slice t.ps.a t.ps.len t.ps.cap, .slice t.us.a t.us.len t.us.cap, .slice t.fs.a t.fs.len t.fs.cap, .slice t.ks.a t.ks.len t.ks.cap], .slice s.a s.len s.cap, .agg #[.string o.name, .slice o.cs.a o.cs.len o.cs.cap, .slice o.ps.a o.ps.len o.ps.cap, .slice o.us.a o.us.len o.us.cap, .slice o.fs.a o.fs.len o.fs.cap, .slice o.ks.a o.ks.len o.ks.cap]] w fun r w' => r = .returned (.bool (fksB t o f o.prim s.len o.ps.len)) ∧ Cls w w' := by
  have C1 : Hid (∀ W, Below w.heap.size w W → W.heap[w.heap.size]? = some (.cells #[.string t.name, .slice t.cs.a t.cs.len t.cs.cap, .slice t.ps.a t.ps.len t.ps.cap, .slice t.us.a t.us.len t.us.cap, .slice t.fs.a t.fs.len t.fs.cap, .slice t.ks.a t.ks.len t.ks.cap] 55) → W.heap[w.heap.size + 1]? = some (.cells #[.string o.name, .slice o.cs.a o.cs.len o.cs.cap, .slice o.ps.a o.ps.len o.ps.cap, .slice o.us.a o.us.len o.us.cap, .slice o.fs.a o.fs.len o.fs.cap, .slice o.ks.a o.ks.len o.ks.cap] 55) → Calls Tryz.prog 111 #[.slice s.a s.len s.cap, .slice o.ps.a o.ps.len o.ps.cap, .func (.func 112) #[] #[.pointer (some ⟨w.heap.size, 0, none⟩), .pointer (some ⟨w.heap.size + 1, 0, none⟩)]] W fun r w' => r = .returned (.bool (fksB t o f o.prim s.len o.ps.len)) ∧ Cls W w') := Lib.hid fun W hW hb hb' => equalF_calls t o s o.ps f o.prim _ _ W (h.later hW) (h'.later hW) hb hb' (hs.later hW) (h'.prim.later hW) hin hin'
  clear h h' hs hin hin'
  generalize fksB t o f o.prim s.len o.ps.len = bb at C1 ⊢
  go_enter Tryz.func78, Tryz.ntmps78
  go_wp2_with (go_at_call 111; ((with_reducible refine (C1.out _ ?_ ?_ ?_).mono ?_); (· repeat first|with_reducible exact Below.refl _ _|with_reducible refine Below.setCell ?_ (by first|omega|(simp;done)|(simp;omega)) _|with_reducible refine Below.alloc ?_ (by first|omega|(simp;done)|(simp;omega)) _|with_reducible refine Below.drew ?_|with_reducible refine Ext.on _ ?_ (by first|omega|(simp;done)|(simp;omega))); (· exact (Below.heap_alloc _ _ _ (by simp)).trans (heap_alloc_new w _)); (· exact heap_alloc_at _ _ (by simp)); rintro r _ ⟨rfl, y, rfl⟩))
  go_ret
  refine ⟨ret_bool rfl, Cls.of ?_⟩
  repeat first|with_reducible exact Below.refl _ _|with_reducible refine Below.setCell ?_ (by first|omega|(simp;done)|(simp;omega)) _|with_reducible refine Below.alloc ?_ (by first|omega|(simp;done)|(simp;omega)) _|with_reducible refine Below.drew ?_|with_reducible refine Ext.on _ ?_ (by first|omega|(simp;done)|(simp;omega))
end Go.Proofs.YtdmhmlnfoocnjaaGreatDoor
set_option linter.unusedVariables false
namespace Go.Proofs.YtdmhmlnfoocnjaaGreatDoor
open Go Go.RowKit Go.Deep
set_option maxHeartbeats 4000000 in
set_option maxRecDepth 20000 in
theorem waits_calls (j b B c m : Nat) (f : Nat → Option Value) (w : World) (hm : MapIs w B c m f) (hb : w.cell? ⟨b, 0, none⟩ = some (.map (some B))) (hj : j < 1000) :
    Calls Tryz.prog 113 #[.int .i64 (j : Nat), .pointer (some ⟨b, 0, none⟩)] w fun r w' => r = .returned (.bool (f j).isSome) ∧ Cls w w' := by
  have hl := hm.look_ok hj
  go_enter Tryz.func113, Tryz.ntmps113
  go_wp2_with fail
  go_ret
  refine ⟨ret_bool rfl, Cls.of ?_⟩
  repeat first|with_reducible exact Below.refl _ _|with_reducible refine Below.setCell ?_ (by first|omega|(simp;done)|(simp;omega)) _|with_reducible refine Below.alloc ?_ (by first|omega|(simp;done)|(simp;omega)) _|with_reducible refine Below.drew ?_|with_reducible refine Ext.on _ ?_ (by first|omega|(simp;done)|(simp;omega))
set_option maxHeartbeats 4000000 in
set_option maxRecDepth 20000 in
theorem indexW_calls (s : Sl) (tl : Nat → Nat) (bx B c m : Nat) (f : Nat → Option Value) (w : World) (hm : MapIs w B c m f) (hb : w.cell? ⟨bx, 0, none⟩ = some (.map (some B))) (hlt : bx < w.heap.size) (hs : SlAt w 1 s (intC fun i => ((tl i : Nat) : Int))) (ht : ∀ i, i < s.len → tl i < 1000) :
    Calls Tryz.prog 132 #[.slice s.a s.len s.cap, .func (.func 113) #[] #[.pointer (some ⟨bx, 0, none⟩)]] w fun r w' => r = .returned (.int .i64 (idx (fun i => (f (tl i)).isSome) 0 s.len)) ∧ Cls w w' := by
  have hle := hs.1
  have hmax := hs.2.1
  unfold maxLen at hmax
  have H := Lib.hid hs.2.2.2
  have HT := Lib.hid ht
  have HM := Lib.hid hm
  clear hs ht hm
  obtain ⟨sa, sn, sc⟩ := s
  simp only at hle hmax H HT
  go_enter Tryz.func132, Tryz.ntmps132
  go_wp2_with fail
  go_loopw [8] (fun i wr => ∃ j : Nat, j ≤ sn ∧ i = .int .i64 j ∧ idx (fun i => (f (tl i)).isSome) 0 sn = idx (fun i => (f (tl i)).isSome) j (sn - j) ∧ Cls w wr) (fun i _ => sn - (intOf i).toNat)
  case atStart => exact ⟨0, Nat.zero_le _, rfl, rfl, Cls.of (Below.refl _ _)⟩
  case round =>
    obtain ⟨j, hj, rfl, he, x, rfl⟩ := hrel
    have HE := Lib.hid he
    clear he
    have xs := x.size
    by_cases hltj : j < sn
    · obtain ⟨b, off, ha, hb2, hc⟩ := H.out j hltj
      subst ha
      have q0 := hc 0 (by omega)
      simp only [intC, List.getElem?_cons_zero, Nat.add_zero, Nat.mul_one] at q0
      have hS : Hid (sn - j = (sn - (j + 1)) + 1) := Lib.hid (by omega)
      have C1 : Hid (∀ W, Below w.heap.size w W → Calls Tryz.prog 113 #[.int .i64 (tl j : Nat), .pointer (some ⟨bx, 0, none⟩)] W fun r w' => r = .returned (.bool (f (tl j)).isSome) ∧ Cls W w') := Lib.hid (fun W hW => waits_calls (tl j) bx B c m f W (HM.out.later hW) (by rw [hW.cell (p := ⟨bx, 0, none⟩) hlt]; exact hb) (HT.out j hltj))
      clear hc
      cases hbb : (f (tl j)).isSome
      all_goals
        have HB := Lib.hid hbb
        rw [hbb] at C1
        clear hbb
        generalize tl j = tj at q0 C1
        go_wp2_with (go_at_call 113; ((with_reducible refine (Cls.call (C1.out _ x.below)).mono ?_); rintro r _ ⟨rfl, y, rfl⟩))
      · go_roundw
        case rel => exact ⟨j + 1, by omega, by go_num, by rw [HE.out, hS.out, idx_go HB.out], y, rfl⟩
        case measure => simp [intOf]; omega
      · go_ret
        exact ⟨ret_int (by rw [HE.out, hS.out, idx_stop HB.out]), y, rfl⟩
    · have hz : Hid (sn - j = 0) := Lib.hid (by omega)
      go_wp2_with fail
      go_ret
      exact ⟨ret_int (by rw [HE.out, hz.out]; rfl), x, rfl⟩
set_option maxHeartbeats 4000000 in
set_option maxRecDepth 20000 in
theorem containsW_calls (s : Sl) (tl : Nat → Nat) (bx B c m : Nat) (f : Nat → Option Value) (w : World) (hm : MapIs w B c m f) (hb : w.cell? ⟨bx, 0, none⟩ = some (.map (some B))) (hlt : bx < w.heap.size) (hs : SlAt w 1 s (intC fun i => ((tl i : Nat) : Int))) (ht : ∀ i, i < s.len → tl i < 1000) :
    Calls Tryz.prog 107 #[.slice s.a s.len s.cap, .func (.func 113) #[] #[.pointer (some ⟨bx, 0, none⟩)]] w fun r w' => r = .returned (.bool (decide (0 ≤ idx (fun i => (f (tl i)).isSome) 0 s.len))) ∧ Cls w w' := by
  have C1 := Lib.hid (indexW_calls s tl bx B c m f w hm hb hlt hs ht)
  clear hm hs ht
  generalize idx (fun i => (f (tl i)).isSome) 0 s.len = n at C1 ⊢
  go_enter Tryz.func107, Tryz.ntmps107
  go_wp2_with (go_at_call 132; ((with_reducible refine C1.out.mono ?_); rintro r _ ⟨rfl, y, rfl⟩))
  go_ret
  exact ⟨ret_bool (by simp), y, rfl⟩
end Go.Proofs.YtdmhmlnfoocnjaaGreatDoor
set_option linter.unusedVariables false
namespace Go.Proofs.YtdmhmlnfoocnjaaGreatDoor
open Go Go.RowKit Go.Deep
def goodF (sl : Sl) (tb : Nat → Tb) (f : Nat → Option Value) (i : Nat) : Bool := (f i).isSome && !decide (0 ≤ idx (fun k => (f (tgN sl tb i k)).isSome) 0 (tb i).fs.len)
def RowsAt (sl : Sl) (tb : Nat → Tb) (f : Nat → Option Value) (s : Nat → Sl) (w : World) : Prop := ∀ j, j < sl.len → f j = none ∨ (f j = some (s j).v ∧ (s j).len = (tb j).fs.len ∧ SlAt w 1 (s j) (intC fun i => ((tgN sl tb j i : Nat) : Int)))
theorem RowsAt.later {sl : Sl} {tb : Nat → Tb} {f : Nat → Option Value} {s : Nat → Sl} {w w' : World} (h : RowsAt sl tb f s w) (hb : Below w.heap.size w w') : RowsAt sl tb f s w' := fun j hj => (h j hj).imp id fun ⟨h1, h2, h3⟩ => ⟨h1, h2, h3.later hb⟩
set_option maxHeartbeats 8000000 in
set_option maxRecDepth 20000 in
theorem ready_calls (sl : Sl) (tb : Nat → Tb) (s : Nat → Sl) (B c m : Nat) (f : Nat → Option Value) (w : World) (hm : MapIs w B c m f) (hr : RowsAt sl tb f s w) (hall : allT sl tb) (hn : sl.len ≤ 10) :
    Calls Tryz.prog 80 #[.int .i64 (sl.len : Nat), .map (some B)] w fun r w' => r = .returned (.tuple #[.int .i64 (at0 (idx (goodF sl tb f) 0 sl.len)), .bool (decide (0 ≤ idx (goodF sl tb f) 0 sl.len))]) ∧ Cls w w' := by
  have HM := Lib.hid hm
  have HR := Lib.hid hr
  have HA := Lib.hid hall
  have HL : Hid (∀ i k, i < sl.len → k < (tb i).fs.len → tgN sl tb i k < 1000) := Lib.hid (fun i k hi hk => by have := tg_lt (hall i hi k hk); omega)
  clear hm hr hall
  generalize hsn : sl.len = sn at hn
  go_enter Tryz.func80, Tryz.ntmps80
  go_wp2_with fail
  go_loopw [10] (fun i wr => ∃ j : Nat, j ≤ sn ∧ i = .int .i64 (j : Nat) ∧ idx (goodF sl tb f) 0 sn = idx (goodF sl tb f) j (sn - j) ∧ Cls (w.alloc (.cells #[.map (some B)] 124)) wr) (fun i _ => sn - (intOf i).toNat)
  case atStart => exact ⟨0, Nat.zero_le _, rfl, rfl, Cls.of (Below.refl _ _)⟩
  case round =>
    obtain ⟨j, hj, rfl, he, x, rfl⟩ := hrel
    have HE := Lib.hid he
    clear he
    have xs := x.size
    have xs2 : w.heap.size + 1 ≤ x.val.heap.size := by simpa using xs
    by_cases hltj : j < sn
    · have hS : Hid (sn - j = (sn - (j + 1)) + 1) := Lib.hid (by omega)
      have hG : Hid (goodF sl tb f j = ((f j).isSome && !decide (0 ≤ idx (fun k => (f (tgN sl tb j k)).isSome) 0 (tb j).fs.len))) := Lib.hid rfl
      have hbx : (w.alloc (.cells #[.map (some B)] 124)).cell? ⟨w.heap.size, 0, none⟩ = some (.map (some B)) := by rw [cell_of_row _ _ _ _ _ (0, 0) (heap_alloc_new w _)]; rfl
      have hb0 : Below w.heap.size w (w.alloc (.cells #[.map (some B)] 124)) := (Below.refl _ _).alloc (Nat.le_refl _) _
      have C1 : Hid (∀ W, Below (w.alloc (.cells #[.map (some B)] 124)).heap.size (w.alloc (.cells #[.map (some B)] 124)) W → Calls Tryz.prog 113 #[.int .i64 (j : Nat), .pointer (some ⟨w.heap.size, 0, none⟩)] W fun r w' => r = .returned (.bool (f j).isSome) ∧ Cls W w') :=
        Lib.hid (fun W hW => waits_calls j w.heap.size B c m f W ((HM.out.later hb0).later hW) (by rw [hW.cell (p := ⟨w.heap.size, 0, none⟩) (by simp)]; exact hbx) (by omega))
      rcases HR.out j (by omega) with hf | ⟨hf, hsl, hsat⟩
      · have hG2 : Hid (goodF sl tb f j = false) := Lib.hid (by rw [hG.out, hf]; rfl)
        rw [hf] at C1
        clear hbx hb0 hG hf
        go_wp2_with (go_at_call 113; ((with_reducible refine (Cls.call (C1.out _ x.below)).mono ?_); rintro r _ ⟨rfl, y, rfl⟩))
        go_roundw
        case rel => exact ⟨j + 1, by omega, by go_num, by rw [HE.out, hS.out, idx_go hG2.out], y, rfl⟩
        case measure => simp [intOf]; omega
      · have hsB : ∀ W, Below (w.alloc (.cells #[.map (some B)] 124)).heap.size (w.alloc (.cells #[.map (some B)] 124)) W → Calls Tryz.prog 107 #[.slice (s j).a (s j).len (s j).cap, .func (.func 113) #[] #[.pointer (some ⟨w.heap.size, 0, none⟩)]] W fun r w' => r = .returned (.bool (decide (0 ≤ idx (fun k => (f (tgN sl tb j k)).isSome) 0 (tb j).fs.len))) ∧ Cls W w' := fun W hW => by
          have := containsW_calls (s j) (tgN sl tb j) w.heap.size B c m f W ((HM.out.later hb0).later hW) (by rw [hW.cell (p := ⟨w.heap.size, 0, none⟩) (by simp)]; exact hbx) (Nat.lt_of_lt_of_le (by simp) hW.size) ((hsat.later hb0).later hW) (fun i hi => HL.out j i (by omega) (by omega))
          rw [hsl] at this
          rw [hsl]
          exact this
        have C2 := Lib.hid hsB
        have hG2 : Hid (goodF sl tb f j = !decide (0 ≤ idx (fun k => (f (tgN sl tb j k)).isSome) 0 (tb j).fs.len)) := Lib.hid (by rw [hG.out, hf]; rfl)
        have HK : Hid (∀ W, Below w.heap.size w W → (Instr.lookup 124 (.map (some B)) (.int .i64 (j : Nat)) false).run Tryz.prog W = .ok (.slice (s j).a (s j).len (s j).cap) W) := Lib.hid (fun W hW => by
          have := (HM.out.later hW).look (j := j) (by omega)
          rw [hf] at this
          exact this)
        rw [hf] at C1
        clear hbx hb0 hG hf hsl hsat hsB
        generalize s j = sj at C2 HK
        obtain ⟨ja, jn, jc⟩ := sj
        cases hbb : decide (0 ≤ idx (fun k => (f (tgN sl tb j k)).isSome) 0 (tb j).fs.len)
        all_goals
          rw [hbb] at C2 hG2
          clear hbb
          go_wp2_with (first | (go_at_call 113; ((with_reducible refine (Cls.call (C1.out _ x.below)).mono ?_); rintro r _ ⟨rfl, y, rfl⟩; have hk := HK.out y.val (by repeat first|with_reducible exact Below.refl _ _|with_reducible refine Below.setCell ?_ (by first|omega|(simp;done)|(simp;omega)) _|with_reducible refine Below.alloc ?_ (by first|omega|(simp;done)|(simp;omega)) _|with_reducible refine Below.drew ?_|with_reducible refine Ext.on _ ?_ (by first|omega|(simp;done)|(simp;omega))))) | (go_at_call 107; ((with_reducible refine (Cls.call (C2.out _ y.below)).mono ?_); rintro r _ ⟨rfl, z, rfl⟩)))
        · go_ret2
          have e : idx (goodF sl tb f) 0 sn = (j : Nat) := by rw [HE.out, hS.out, idx_stop hG2.out]
          have e2 : at0 (j : Nat) = ((j : Nat) : Int) := if_neg (by omega)
          have e3 : decide ((0 : Int) ≤ (j : Nat)) = true := by simp
          rw [e, e2, e3]
          refine ⟨rfl, Cls.of ?_⟩
          repeat first|with_reducible exact Below.refl _ _|with_reducible refine Below.setCell ?_ (by first|omega|(simp;done)|(simp;omega)) _|with_reducible refine Below.alloc ?_ (by first|omega|(simp;done)|(simp;omega)) _|with_reducible refine Below.drew ?_|with_reducible refine Ext.on _ ?_ (by first|omega|(simp;done)|(simp;omega))
        · go_roundw
          case rel => exact ⟨j + 1, by omega, by go_num, by rw [HE.out, hS.out, idx_go hG2.out], z, rfl⟩
          case measure => simp [intOf]; omega
    · have hz : Hid (sn - j = 0) := Lib.hid (by omega)
      go_wp2_with fail
      go_ret2
      have e : idx (goodF sl tb f) 0 sn = -1 := by rw [HE.out, hz.out]; rfl
      rw [e]
      refine ⟨rfl, Cls.of ?_⟩
      repeat first|with_reducible exact Below.refl _ _|with_reducible refine Below.setCell ?_ (by first|omega|(simp;done)|(simp;omega)) _|with_reducible refine Below.alloc ?_ (by first|omega|(simp;done)|(simp;omega)) _|with_reducible refine Below.drew ?_|with_reducible refine Ext.on _ ?_ (by first|omega|(simp;done)|(simp;omega))
end Go.Proofs.YtdmhmlnfoocnjaaGreatDoor
set_option linter.unusedVariables false
namespace Go.Proofs.YtdmhmlnfoocnjaaGreatDoor
open Go Go.RowKit Go.Deep
theorem SlAt.tp {T k : Nat} {w w' : World} {s : Sl} {c : Nat → List Value} (h : SlAt w k s c) (hb : Tp T w w') (hT : ∀ b off, s.a = some ⟨b, off, none⟩ → b ≠ T) : SlAt w' k s c := by
  refine ⟨h.1, h.2.1, h.2.2.1, fun i hi => ?_⟩
  obtain ⟨b, off, ha, hlt, hc⟩ := h.2.2.2 i hi
  exact ⟨b, off, ha, Nat.lt_of_lt_of_le hlt hb.size, fun j hj => by rw [hb.cell _ hlt (hT b off ha)]; exact hc j hj⟩
theorem Tp.turn {T : Nat} {a w w' : World} (h : Tp T a w) (hg : w.grownBy w' (some T)) : Tp T a w' :=
  ⟨hg.os.trans h.os, hg.tape.trans h.tape, hg.output.trans h.output, Nat.le_trans h.size hg.size, fun k hk hT => (hg.block k (Nat.lt_of_lt_of_le hk h.size) (fun e => hT (Option.some.inj e))).trans (h.block k hk hT)⟩
theorem own_turn {T : Nat} {w w' : World} {base size n : Nat} {e : TypeId} {v : Value} {xs : List Value} (h : w.ownsRow base e size v n xs) (hg : w.grownBy w' (some T)) (hT : ∀ k, v.ownBlock = some k → k ≠ T) : w'.ownsRow base e size v n xs := by
  refine ⟨h.1, h.2.imp id ?_⟩
  rintro ⟨g, cap, cur, hv, hg', hh, rest⟩
  exact ⟨g, cap, cur, hv, hg', (hg.block g (Array.getElem?_eq_some_iff.1 hh).1 (fun e => hT g (by rw [hv]; rfl) (Option.some.inj e))).trans hh, rest⟩
theorem own_not_map {w : World} {base size n B c m : Nat} {e : TypeId} {v : Value} {xs : List Value} {f : Nat → Option Value} (h : w.ownsRow base e size v n xs) (hm : MapIs w B c m f) : ∀ k, v.ownBlock = some k → k ≠ B := by
  rintro k hk rfl
  obtain ⟨D, ⟨es, clock, hb, _⟩, _⟩ := hm
  rcases h.2 with ⟨rfl, _⟩ | ⟨g, cap, cur, rfl, _, hh, _⟩
  · simp [Value.ownBlock] at hk
  · simp [Value.ownBlock] at hk
    subst hk
    rw [hb] at hh
    cases hh
theorem sl_not_map {w : World} {B c m : Nat} {s : Sl} {g : Nat → Int} {f : Nat → Option Value} (h : SlAt w 1 s (intC g)) (hl : 0 < s.len) (hm : MapIs w B c m f) : ∀ b off, s.a = some ⟨b, off, none⟩ → b ≠ B := by
  rintro b off ha rfl
  obtain ⟨D, ⟨es, clock, hb, _⟩, _⟩ := hm
  obtain ⟨b', o', ha', _, hc⟩ := h.2.2.2 0 hl
  rw [ha] at ha'
  simp only [Option.some.injEq, Addr.mk.injEq, and_true] at ha'
  obtain ⟨rfl, rfl⟩ := ha'
  have := hc 0 (by omega)
  simp [World.cell?, hb, intC] at this
theorem SlAt.turn {w w' : World} {B c m : Nat} {s : Sl} {g : Nat → Int} {f : Nat → Option Value} (h : SlAt w 1 s (intC g)) (hm : MapIs w B c m f) (ht : Tp B w w') : SlAt w' 1 s (intC g) := by
  by_cases hl : 0 < s.len
  · exact h.tp ht (sl_not_map h hl hm)
  · exact ⟨h.1, h.2.1, h.2.2.1, fun i hi => absurd hi (by omega)⟩
theorem RowsAt.turn {sl : Sl} {tb : Nat → Tb} {f f' : Nat → Option Value} {s : Nat → Sl} {w w' : World} {B c m : Nat} (h : RowsAt sl tb f s w) (hm : MapIs w B c m f) (ht : Tp B w w') (hf : ∀ j, j < sl.len → f' j = f j ∨ f' j = none) : RowsAt sl tb f' s w' := fun j hj => by
  rcases hf j hj with e | e
  · rw [e]
    exact (h j hj).imp id fun ⟨h1, h2, h3⟩ => ⟨h1, h2, h3.turn hm ht⟩
  · exact .inl e
end Go.Proofs.YtdmhmlnfoocnjaaGreatDoor
set_option linter.unusedVariables false
namespace Go.Proofs.YtdmhmlnfoocnjaaGreatDoor
open Go Go.RowKit Go.Deep
theorem infoI_z : (Tryz.prog.info? 3).map (fun i => (i.zero, i.size, i.bytes)) = some (some (.int .i64 0), 1, 8) := by kernel_rfl
theorem int_one_z (n : Int) : ∀ u ∈ [Value.int .i64 n], u.oneCell' = true := by
  intro u h
  simp only [List.mem_cons, List.not_mem_nil, or_false] at h
  rcases h with rfl; rfl
theorem cells_new_z {b : Nat} (w : World) (l : List Value) (t : TypeId) (hb : b = w.heap.size) : ∀ j u, l[j]? = some u → (w.alloc (.cells l.toArray t)).cell? ((⟨b, 0, none⟩ : Addr).add j) = some u := by
  subst hb
  intro j u h
  have hadd : (⟨w.heap.size, 0, none⟩ : Addr).add j = ⟨w.heap.size, j, none⟩ := by unfold Addr.add; split <;> simp_all
  rw [hadd, cell_of_row _ _ _ l.toArray t (0, 0) (heap_alloc_new w _)]
  simpa using h
theorem own_later_z {w w' : World} {base size n : Nat} {e : TypeId} {v : Value} {xs : List Value} (h : w.ownsRow base e size v n xs) (hb : Below w.heap.size w w') : w'.ownsRow base e size v n xs := by
  refine ⟨h.1, h.2.imp id ?_⟩
  rintro ⟨g, cap, cur, hv, hg, hh, rest⟩
  exact ⟨g, cap, cur, hv, hg, (hb.block g (Array.getElem?_eq_some_iff.1 hh).1).trans hh, rest⟩
def flatN (l : List Nat) : List Value := l.map fun n => .int .i64 (n : Nat)
theorem flatN_go (l : List Nat) (n : Nat) : flatN (l ++ [n]) = flatN l ++ [.int .i64 (n : Nat)] := by simp [flatN]
theorem sl_ofN {w : World} {base n : Nat} {v : Value} {l : List Nat} (h : w.ownsRow base 3 1 v n (flatN l)) (hl : l.length = n) : ∃ s : Sl, v = s.v ∧ s.len = n ∧ SlAt w 1 s (intC fun i => ((l.getD i 0 : Nat) : Int)) := by
  subst hl
  rcases h.2 with ⟨rfl, h0⟩ | ⟨g, cap, cur, rfl, hb, hh, hn, hc, hr, ht⟩
  · exact ⟨Sl.z, rfl, h0.symm, ⟨Nat.le_refl _, Nat.zero_le _, fun _ => ⟨rfl, rfl⟩, fun i hi => absurd hi (by simp [Sl.z])⟩⟩
  · refine ⟨⟨some ⟨g, 0, none⟩, l.length, cap⟩, rfl, rfl, ⟨hn, hc, (fun h => by cases h), fun i hi => ⟨g, 0, rfl, (Array.getElem?_eq_some_iff.1 hh).1, fun j hj => ?_⟩⟩⟩
    have hcell := World.ownsRow.cells h (g := g) rfl
    have hadd : ∀ j, (⟨g, 0, none⟩ : Addr).add j = ⟨g, 0 + j, none⟩ := fun j => by unfold Addr.add; split <;> simp_all
    have c0 := hcell i (.int .i64 ((l.getD i 0 : Nat) : Int)) (by
      have hi' : i < l.length := hi
      simp [flatN, List.getD, hi'])
    rw [hadd] at c0
    obtain rfl : j = 0 := by omega
    rw [Nat.mul_one, Nat.add_zero, c0]; rfl
theorem SlAt.congr_z {w : World} {s : Sl} {g g' : Nat → Int} (h : SlAt w 1 s (intC g)) (hg : ∀ i, i < s.len → g i = g' i) : SlAt w 1 s (intC g') := by
  refine ⟨h.1, h.2.1, h.2.2.1, fun i hi => ?_⟩
  obtain ⟨b, off, ha, hlt, hc⟩ := h.2.2.2 i hi
  exact ⟨b, off, ha, hlt, fun j hj => by rw [hc j hj]; simp only [intC, hg i hi]⟩
end Go.Proofs.YtdmhmlnfoocnjaaGreatDoor
