/-
  The reference's sums and products of fractions of any size: their digits lie in new blocks.
-/
import Derived.Test.YthbdkhmgopahbaaJ15
import Derived.Test.YthbdkhmgopahbaaJ21
set_option linter.unusedVariables false
namespace Go.Proofs.Ythbdkhmgopahbaa
open Go Go.RowKit Go.Deep
/-- A fraction of any size, in new blocks. -/
def RBigF (w : World) (N : Int) (D : Nat) (e : Ending) (w' : World) : Prop := ∃ s t : Sl, e = .returned (.agg #[.bool (decide (frI N D < 0)), .slice s.a s.len s.cap, .slice t.a t.len t.cap]) ∧ NumAt w' s (frI N D).natAbs ∧ NumAt w' t (frd N D) ∧ Fr w s ∧ Fr w t ∧ Cls w w'
set_option maxHeartbeats 16000000 in
set_option maxRecDepth 20000 in
theorem rPlus_sameF (b1 b2 : Bool) (a1 : Option Addr) (n1 c1 : Nat) (a2 : Option Addr) (n2 c2 : Nat) (a3 : Option Addr) (n3 c3 : Nat) (a4 : Option Addr) (n4 c4 : Nat) (m1 d1 m2 d2 : Nat) (N : Int) (D : Nat) (w : World) (h1 : NumAt w ⟨a1, n1, c1⟩ m1) (h2 : NumAt w ⟨a2, n2, c2⟩ d1) (h3 : NumAt w ⟨a3, n3, c3⟩ m2) (h4 : NumAt w ⟨a4, n4, c4⟩ d2)
    (k1 : m1 < 1000000000 ^ 100) (k2 : d1 < 1000000000 ^ 100) (k3 : m2 < 1000000000 ^ 100) (k4 : d2 < 1000000000 ^ 100) (hD : d1 * d2 = D) (hD0 : 0 < D)
    (hb : b1 = b2) (e1 : sg b1 (m1 * d2 + m2 * d1) = N) :
    Calls Try.prog 41 #[.agg #[.bool b1, .slice a1 n1 c1, .slice a2 n2 c2], .agg #[.bool b2, .slice a3 n3 c3, .slice a4 n4 c4]] w fun e w' => ∃ s t : Sl, e = .returned (.agg #[.bool (decide (frI N D < 0)), .slice s.a s.len s.cap, .slice t.a t.len t.cap]) ∧ NumAt w' s (frI N D).natAbs ∧ NumAt w' t (frd N D) ∧ Fr w s ∧ Fr w t ∧ Cls w w' := by
  have l1 : n1 ≤ 500 := lt_len h1 k1 (by omega)
  have l2 : n2 ≤ 500 := lt_len h2 k2 (by omega)
  have l3 : n3 ≤ 500 := lt_len h3 k3 (by omega)
  have l4 : n4 ≤ 500 := lt_len h4 k4 (by omega)
  have X1 := mul_lt_pow k1 k4
  have X2 := mul_lt_pow k3 k2
  have X3 := mul_lt_pow k2 k4
  rw [hD] at X3
  have C1 := Lib.hid (fun (W : World) (hb : Below w.heap.size w W) => mul_calls a1 n1 c1 a4 n4 c4 m1 d2 W (h1.later hb) (h4.later hb) l1 l4)
  have C2 := Lib.hid (fun (W : World) (hb : Below w.heap.size w W) => mul_calls a3 n3 c3 a2 n2 c2 m2 d1 W (h3.later hb) (h2.later hb) l3 l2)
  have C3 := Lib.hid (fun (W : World) (hb : Below w.heap.size w W) => mul_calls a2 n2 c2 a4 n4 c4 d1 d2 W (h2.later hb) (h4.later hb) l2 l4)
  rw [hD] at C3
  have EE := Lib.hid e1
  have HD0 := Lib.hid hD0
  clear e1 h1 h2 h3 h4 k1 k2 k3 k4 l1 l2 l3 l4 hD hD0
  generalize m1 * d2 = x at *
  generalize m2 * d1 = y at *
  have LX : Hid (∀ (s : Sl) (W : World), NumAt W s x → s.len ≤ 500) := Lib.hid fun s W h => lt_len h X1 (by omega)
  have LY : Hid (∀ (s : Sl) (W : World), NumAt W s y → s.len ≤ 500) := Lib.hid fun s W h => lt_len h X2 (by omega)
  have LD : Hid (∀ (s : Sl) (W : World), NumAt W s D → s.len ≤ 500) := Lib.hid fun s W h => lt_len h X3 (by omega)
  have XX1 := Lib.hid X1
  have XX2 := Lib.hid X2
  clear X1 X2 X3
  have LS : Hid (∀ (s : Sl) (W : World), NumAt W s (x + y) → s.len ≤ 500) := Lib.hid fun s W h => lt_len h (add_lt_pow XX1.out XX2.out) (by omega)
  have LX1 : Hid (∀ (s : Sl) (W : World), NumAt W s x → s.len ≤ 1000) := Lib.hid fun s W h => by have := LX.out s W h; omega
  have LY1 : Hid (∀ (s : Sl) (W : World), NumAt W s y → s.len ≤ 1000) := Lib.hid fun s W h => by have := LY.out s W h; omega
  have hbb : (b1 == b2) = true := by rw [hb]; cases b2 <;> rfl
  clear XX1 XX2 hb
  go_enter Try.func41, Try.ntmps41
  go_wp2_with fail
  go_region_held3 (fun w' => w'.cell? ⟨w.heap.size, 0, none⟩ = some (.bool b1) ∧ w'.cell? ⟨w.heap.size, 1, none⟩ = some (.slice a1 n1 c1) ∧ w'.cell? ⟨w.heap.size, 2, none⟩ = some (.slice a2 n2 c2) ∧ w'.cell? ⟨w.heap.size + 1, 0, none⟩ = some (.bool b2) ∧ w'.cell? ⟨w.heap.size + 1, 1, none⟩ = some (.slice a3 n3 c3) ∧ w'.cell? ⟨w.heap.size + 1, 2, none⟩ = some (.slice a4 n4 c4))
    (first | go_keep | (refine ⟨?_, ?_, ?_, ?_, ?_, ?_⟩ <;> (rw [Ext.cell _ _ (by first | (simp; done) | (simp; omega) | omega)]; simp [*]; done)))
    (first
      | (go_at_call 69; (with_reducible refine Calls.mono (C1.out _ ?_) ?_); (focus (repeat first | with_reducible exact Below.refl _ _ | with_reducible refine Below.setCell ?_ (by first | omega | (simp; done) | (simp; omega)) _ | with_reducible refine Below.alloc ?_ (by first | omega | (simp; done) | (simp; omega)) _ | with_reducible refine Below.drew ?_ | with_reducible refine Ext.on _ ?_ (by first | omega | (simp; done) | (simp; omega)))); rintro e _ ⟨sx, rfl, hx, ⟨yx, rfl⟩⟩; have yxs := yx.size; (try simp at yxs); have yxa : w.heap.size < yx.val.heap.size := (by omega); have yxb : w.heap.size + 1 < yx.val.heap.size := (by omega); have yxc : w.heap.size + 1 + 1 < yx.val.heap.size := (by omega))
      | (go_at_call 69; (with_reducible refine Calls.mono (C2.out _ ?_) ?_); (focus (repeat first | with_reducible exact Below.refl _ _ | with_reducible refine Below.setCell ?_ (by first | omega | (simp; done) | (simp; omega)) _ | with_reducible refine Below.alloc ?_ (by first | omega | (simp; done) | (simp; omega)) _ | with_reducible refine Below.drew ?_ | with_reducible refine Ext.on _ ?_ (by first | omega | (simp; done) | (simp; omega)))); rintro e _ ⟨sy, rfl, hy, ⟨yy, rfl⟩⟩; have yys := yy.size; (try simp at yys); have yya : w.heap.size < yy.val.heap.size := (by omega); have yyb : w.heap.size + 1 < yy.val.heap.size := (by omega); have yyc : w.heap.size + 1 + 1 < yy.val.heap.size := (by omega)))
  go_wp2_with (go_at_call 69; (with_reducible refine Calls.mono (C3.out _ ?_) ?_); (focus (repeat first | with_reducible exact Below.refl _ _ | with_reducible refine Below.setCell ?_ (by first | omega | (simp; done) | (simp; omega)) _ | with_reducible refine Below.alloc ?_ (by first | omega | (simp; done) | (simp; omega)) _ | with_reducible refine Below.drew ?_ | with_reducible refine Ext.on _ ?_ (by first | omega | (simp; done) | (simp; omega)))); rintro e _ ⟨sd, rfl, hd, ⟨yd, rfl⟩⟩; have yds := yd.size; (try simp at yds); have yda : w.heap.size < yd.val.heap.size := (by omega); have ydb : w.heap.size + 1 < yd.val.heap.size := (by omega); have ydc : w.heap.size + 1 + 1 < yd.val.heap.size := (by omega))
  have hz : yd.val.cell? ⟨w.heap.size, 0, none⟩ = some (.bool b1) := by
    iterate 1 (rw [Ext.cell _ _ (by first | (simp; done) | (simp; omega) | omega)])
    simp [*]
  go_region_held3 (fun w' => w'.cell? ⟨w.heap.size, 0, none⟩ = some (.bool b1))
    (first | go_keep | (simp [hz]; done) | (refine (cell_after3 _ _ _ _ _ _ ?_).trans ?_; (focus (dsimp only; omega)); (simp [*]; done)) | (rw [Ext.cell _ _ (by first | (simp; done) | (simp; omega) | omega)]; simp [*]; done))
    (first
      | (go_at_call 70; have G := Lib.hid (fun W hb1 hb2 => plus_calls sx.a sx.len sx.cap sy.a sy.len sy.cap _ _ W (hx.later hb1) (hy.later hb2) (LX1.out _ _ hx) (LY1.out _ _ hy)); (with_reducible refine Calls.mono (G.out _ ?_ ?_) ?_); (focus (repeat first | with_reducible exact Below.refl _ _ | with_reducible refine Below.setCell ?_ (by first | omega | (simp; done) | (simp; omega)) _ | with_reducible refine Below.alloc ?_ (by first | omega | (simp; done) | (simp; omega)) _ | with_reducible refine Below.drew ?_ | with_reducible refine Ext.on _ ?_ (by first | omega | (simp; done) | (simp; omega)))); (focus (repeat first | with_reducible exact Below.refl _ _ | with_reducible refine Below.setCell ?_ (by first | omega | (simp; done) | (simp; omega)) _ | with_reducible refine Below.alloc ?_ (by first | omega | (simp; done) | (simp; omega)) _ | with_reducible refine Below.drew ?_ | with_reducible refine Ext.on _ ?_ (by first | omega | (simp; done) | (simp; omega)))); rintro e _ ⟨sp, rfl, hp, _, ⟨yp, rfl⟩⟩; have yps := yp.size; (try simp at yps); have ypa : w.heap.size < yp.val.heap.size := (by omega); have ypb : w.heap.size + 1 < yp.val.heap.size := (by omega); have ypc : w.heap.size + 1 + 1 < yp.val.heap.size := (by omega); clear G)
      | (go_at_call 68; have G := Lib.hid (fun W hb1 hb2 => lowest_fresh b1 sp.a sp.len sp.cap sd.a sd.len sd.cap _ _ W (hp.later hb1) (hd.later hb2) (LS.out _ _ hp) (LD.out _ _ hd) HD0.out); rw [EE.out] at G; (with_reducible refine Calls.mono (G.out _ ?_ ?_) ?_); (focus (repeat first | with_reducible exact Below.refl _ _ | with_reducible refine Below.setCell ?_ (by first | omega | (simp; done) | (simp; omega)) _ | with_reducible refine Below.alloc ?_ (by first | omega | (simp; done) | (simp; omega)) _ | with_reducible refine Below.drew ?_ | with_reducible refine Ext.on _ ?_ (by first | omega | (simp; done) | (simp; omega)))); (focus (repeat first | with_reducible exact Below.refl _ _ | with_reducible refine Below.setCell ?_ (by first | omega | (simp; done) | (simp; omega)) _ | with_reducible refine Below.alloc ?_ (by first | omega | (simp; done) | (simp; omega)) _ | with_reducible refine Below.drew ?_ | with_reducible refine Ext.on _ ?_ (by first | omega | (simp; done) | (simp; omega)))); rintro e _ ⟨sn, st, rfl, hn, ht, hfn, hft, ⟨yl, rfl⟩⟩; have FN : Hid (Fr w sn) := Lib.hid (fun b off h => by have := hfn b off h; (try simp at this); omega); have FT : Hid (Fr w st) := Lib.hid (fun b off h => by have := hft b off h; (try simp at this); omega); clear hfn hft; have yls := yl.size; (try simp at yls); have yla : w.heap.size < yl.val.heap.size := (by omega); have ylb : w.heap.size + 1 < yl.val.heap.size := (by omega); have ylc : w.heap.size + 1 + 1 < yl.val.heap.size := (by omega); have T0 : yx.val.heap[w.heap.size + 1 + 1]? = some (Obj.cells #[.bool false, .slice none 0 0, .slice none 0 0] 67) := (yx.below.block (w.heap.size + 1 + 1) (by simp)).trans (new_at2d w _ _ _ _); have T1 : yy.val.heap[w.heap.size + 1 + 1]? = some (Obj.cells #[.bool false, .slice none 0 0, .slice none 0 0] 67) := (yy.below.block (w.heap.size + 1 + 1) (by first | omega | (simp; omega))).trans T0; have T2 : yd.val.heap[w.heap.size + 1 + 1]? = some (Obj.cells #[.bool false, .slice none 0 0, .slice none 0 0] 67) := (yd.below.block (w.heap.size + 1 + 1) (by first | omega | (simp; omega))).trans T1; have T3 : yp.val.heap[w.heap.size + 1 + 1]? = some (Obj.cells #[.bool false, .slice none 0 0, .slice none 0 0] 67) := (yp.below.block (w.heap.size + 1 + 1) (by first | omega | (simp; omega))).trans T2; have T4 : yl.val.heap[w.heap.size + 1 + 1]? = some (Obj.cells #[.bool false, .slice none 0 0, .slice none 0 0] 67) := (yl.below.block (w.heap.size + 1 + 1) (by first | omega | (simp; omega))).trans T3; have HT := Lib.hid T4; obtain ⟨k0, k1, k2, k3, k4, k5, k6⟩ := three_b HT.out; clear G))
  have HB : Below w.heap.size w yl.val := by repeat first | with_reducible exact Below.refl _ _ | with_reducible refine Below.setCell ?_ (by first | omega | (simp; done) | (simp; omega)) _ | with_reducible refine Below.alloc ?_ (by first | omega | (simp; done) | (simp; omega)) _ | with_reducible refine Below.drew ?_ | with_reducible refine Ext.on _ ?_ (by first | omega | (simp; done) | (simp; omega))
  go_wp2
  refine ret_ex rfl ?_
  simp [results, Try.results41, go_sem, k4, k5, k6]
  refine ⟨sn, st, by simp, NumAt.store3 hn HT.out _ _ _, NumAt.store3 ht HT.out _ _ _, FN.out, FT.out, Cls.of (below3 HB (by omega) _ _ _)⟩
set_option maxHeartbeats 16000000 in
set_option maxRecDepth 20000 in
theorem rPlus_moreF (b1 b2 : Bool) (a1 : Option Addr) (n1 c1 : Nat) (a2 : Option Addr) (n2 c2 : Nat) (a3 : Option Addr) (n3 c3 : Nat) (a4 : Option Addr) (n4 c4 : Nat) (m1 d1 m2 d2 : Nat) (N : Int) (D : Nat) (w : World) (h1 : NumAt w ⟨a1, n1, c1⟩ m1) (h2 : NumAt w ⟨a2, n2, c2⟩ d1) (h3 : NumAt w ⟨a3, n3, c3⟩ m2) (h4 : NumAt w ⟨a4, n4, c4⟩ d2)
    (k1 : m1 < 1000000000 ^ 100) (k2 : d1 < 1000000000 ^ 100) (k3 : m2 < 1000000000 ^ 100) (k4 : d2 < 1000000000 ^ 100) (hD : d1 * d2 = D) (hD0 : 0 < D)
    (hb : b1 ≠ b2) (hxy : m2 * d1 ≤ m1 * d2) (e1 : sg b1 (m1 * d2 - m2 * d1) = N) :
    Calls Try.prog 41 #[.agg #[.bool b1, .slice a1 n1 c1, .slice a2 n2 c2], .agg #[.bool b2, .slice a3 n3 c3, .slice a4 n4 c4]] w fun e w' => ∃ s t : Sl, e = .returned (.agg #[.bool (decide (frI N D < 0)), .slice s.a s.len s.cap, .slice t.a t.len t.cap]) ∧ NumAt w' s (frI N D).natAbs ∧ NumAt w' t (frd N D) ∧ Fr w s ∧ Fr w t ∧ Cls w w' := by
  have l1 : n1 ≤ 500 := lt_len h1 k1 (by omega)
  have l2 : n2 ≤ 500 := lt_len h2 k2 (by omega)
  have l3 : n3 ≤ 500 := lt_len h3 k3 (by omega)
  have l4 : n4 ≤ 500 := lt_len h4 k4 (by omega)
  have X1 := mul_lt_pow k1 k4
  have X2 := mul_lt_pow k3 k2
  have X3 := mul_lt_pow k2 k4
  rw [hD] at X3
  have C1 := Lib.hid (fun (W : World) (hb : Below w.heap.size w W) => mul_calls a1 n1 c1 a4 n4 c4 m1 d2 W (h1.later hb) (h4.later hb) l1 l4)
  have C2 := Lib.hid (fun (W : World) (hb : Below w.heap.size w W) => mul_calls a3 n3 c3 a2 n2 c2 m2 d1 W (h3.later hb) (h2.later hb) l3 l2)
  have C3 := Lib.hid (fun (W : World) (hb : Below w.heap.size w W) => mul_calls a2 n2 c2 a4 n4 c4 d1 d2 W (h2.later hb) (h4.later hb) l2 l4)
  rw [hD] at C3
  have EE := Lib.hid e1
  have HD0 := Lib.hid hD0
  clear e1 h1 h2 h3 h4 k1 k2 k3 k4 l1 l2 l3 l4 hD hD0
  generalize m1 * d2 = x at *
  generalize m2 * d1 = y at *
  have LX : Hid (∀ (s : Sl) (W : World), NumAt W s x → s.len ≤ 500) := Lib.hid fun s W h => lt_len h X1 (by omega)
  have LY : Hid (∀ (s : Sl) (W : World), NumAt W s y → s.len ≤ 500) := Lib.hid fun s W h => lt_len h X2 (by omega)
  have LD : Hid (∀ (s : Sl) (W : World), NumAt W s D → s.len ≤ 500) := Lib.hid fun s W h => lt_len h X3 (by omega)
  have XX1 := Lib.hid X1
  have XX2 := Lib.hid X2
  clear X1 X2 X3
  have LS : Hid (∀ (s : Sl) (W : World), NumAt W s (x - y) → s.len ≤ 500) := Lib.hid fun s W h => lt_len h (sub_lt_pow XX1.out) (by omega)
  have LX1 : Hid (∀ (s : Sl) (W : World), NumAt W s x → s.len ≤ 1000) := Lib.hid fun s W h => by have := LX.out s W h; omega
  have LY1 : Hid (∀ (s : Sl) (W : World), NumAt W s y → s.len ≤ 1000) := Lib.hid fun s W h => by have := LY.out s W h; omega
  have hbb : (b1 == b2) = false := by cases b1 <;> cases b2 <;> first | rfl | exact absurd rfl hb
  have hcm : decide (0 ≤ cmpN x y) = true := decide_eq_true (by have := cmpN_le y x; unfold cmpN at *; split <;> (try split) <;> omega)
  have HXY := Lib.hid hxy
  clear XX1 XX2 hb hxy
  go_enter Try.func41, Try.ntmps41
  go_wp2_with fail
  go_region_held3 (fun w' => w'.cell? ⟨w.heap.size, 0, none⟩ = some (.bool b1) ∧ w'.cell? ⟨w.heap.size, 1, none⟩ = some (.slice a1 n1 c1) ∧ w'.cell? ⟨w.heap.size, 2, none⟩ = some (.slice a2 n2 c2) ∧ w'.cell? ⟨w.heap.size + 1, 0, none⟩ = some (.bool b2) ∧ w'.cell? ⟨w.heap.size + 1, 1, none⟩ = some (.slice a3 n3 c3) ∧ w'.cell? ⟨w.heap.size + 1, 2, none⟩ = some (.slice a4 n4 c4))
    (first | go_keep | (refine ⟨?_, ?_, ?_, ?_, ?_, ?_⟩ <;> (rw [Ext.cell _ _ (by first | (simp; done) | (simp; omega) | omega)]; simp [*]; done)))
    (first
      | (go_at_call 69; (with_reducible refine Calls.mono (C1.out _ ?_) ?_); (focus (repeat first | with_reducible exact Below.refl _ _ | with_reducible refine Below.setCell ?_ (by first | omega | (simp; done) | (simp; omega)) _ | with_reducible refine Below.alloc ?_ (by first | omega | (simp; done) | (simp; omega)) _ | with_reducible refine Below.drew ?_ | with_reducible refine Ext.on _ ?_ (by first | omega | (simp; done) | (simp; omega)))); rintro e _ ⟨sx, rfl, hx, ⟨yx, rfl⟩⟩; have yxs := yx.size; (try simp at yxs); have yxa : w.heap.size < yx.val.heap.size := (by omega); have yxb : w.heap.size + 1 < yx.val.heap.size := (by omega); have yxc : w.heap.size + 1 + 1 < yx.val.heap.size := (by omega))
      | (go_at_call 69; (with_reducible refine Calls.mono (C2.out _ ?_) ?_); (focus (repeat first | with_reducible exact Below.refl _ _ | with_reducible refine Below.setCell ?_ (by first | omega | (simp; done) | (simp; omega)) _ | with_reducible refine Below.alloc ?_ (by first | omega | (simp; done) | (simp; omega)) _ | with_reducible refine Below.drew ?_ | with_reducible refine Ext.on _ ?_ (by first | omega | (simp; done) | (simp; omega)))); rintro e _ ⟨sy, rfl, hy, ⟨yy, rfl⟩⟩; have yys := yy.size; (try simp at yys); have yya : w.heap.size < yy.val.heap.size := (by omega); have yyb : w.heap.size + 1 < yy.val.heap.size := (by omega); have yyc : w.heap.size + 1 + 1 < yy.val.heap.size := (by omega)))
  go_wp2_with (first | (go_at_call 69; (with_reducible refine Calls.mono (C3.out _ ?_) ?_); (focus (repeat first | with_reducible exact Below.refl _ _ | with_reducible refine Below.setCell ?_ (by first | omega | (simp; done) | (simp; omega)) _ | with_reducible refine Below.alloc ?_ (by first | omega | (simp; done) | (simp; omega)) _ | with_reducible refine Below.drew ?_ | with_reducible refine Ext.on _ ?_ (by first | omega | (simp; done) | (simp; omega)))); rintro e _ ⟨sd, rfl, hd, ⟨yd, rfl⟩⟩; have yds := yd.size; (try simp at yds); have yda : w.heap.size < yd.val.heap.size := (by omega); have ydb : w.heap.size + 1 < yd.val.heap.size := (by omega); have ydc : w.heap.size + 1 + 1 < yd.val.heap.size := (by omega)) | (go_at_call 71; have G := Lib.hid (fun W hb1 hb2 => compare_calls sx.a sx.len sx.cap sy.a sy.len sy.cap x y W (hx.later hb1) (hy.later hb2)); (with_reducible refine Calls.mono (G.out _ ?_ ?_) ?_); (focus (repeat first | with_reducible exact Below.refl _ _ | with_reducible refine Below.setCell ?_ (by first | omega | (simp; done) | (simp; omega)) _ | with_reducible refine Below.alloc ?_ (by first | omega | (simp; done) | (simp; omega)) _ | with_reducible refine Below.drew ?_ | with_reducible refine Ext.on _ ?_ (by first | omega | (simp; done) | (simp; omega)))); (focus (repeat first | with_reducible exact Below.refl _ _ | with_reducible refine Below.setCell ?_ (by first | omega | (simp; done) | (simp; omega)) _ | with_reducible refine Below.alloc ?_ (by first | omega | (simp; done) | (simp; omega)) _ | with_reducible refine Below.drew ?_ | with_reducible refine Ext.on _ ?_ (by first | omega | (simp; done) | (simp; omega)))); rintro e _ ⟨rfl, ⟨yc, rfl⟩⟩; have ycs := yc.size; (try simp at ycs); have yca : w.heap.size < yc.val.heap.size := (by omega); have ycb : w.heap.size + 1 < yc.val.heap.size := (by omega); have ycc : w.heap.size + 1 + 1 < yc.val.heap.size := (by omega); clear G))
  have hz : yc.val.cell? ⟨w.heap.size, 0, none⟩ = some (.bool b1) := by
    iterate 2 (rw [Ext.cell _ _ (by first | (simp; done) | (simp; omega) | omega)])
    simp [*]
  go_region_held3 (fun w' => w'.cell? ⟨w.heap.size, 0, none⟩ = some (.bool b1))
    (first | go_keep | (simp [hz]; done) | (refine (cell_after3 _ _ _ _ _ _ ?_).trans ?_; (focus (dsimp only; omega)); (simp [*]; done)) | (rw [Ext.cell _ _ (by first | (simp; done) | (simp; omega) | omega)]; simp [*]; done))
    (first
      | (go_at_call 72; have G := Lib.hid (fun W hb1 hb2 => minus_calls sx.a sx.len sx.cap sy.a sy.len sy.cap _ _ W (hx.later hb1) (hy.later hb2) (LX1.out _ _ hx) HXY.out); (with_reducible refine Calls.mono (G.out _ ?_ ?_) ?_); (focus (repeat first | with_reducible exact Below.refl _ _ | with_reducible refine Below.setCell ?_ (by first | omega | (simp; done) | (simp; omega)) _ | with_reducible refine Below.alloc ?_ (by first | omega | (simp; done) | (simp; omega)) _ | with_reducible refine Below.drew ?_ | with_reducible refine Ext.on _ ?_ (by first | omega | (simp; done) | (simp; omega)))); (focus (repeat first | with_reducible exact Below.refl _ _ | with_reducible refine Below.setCell ?_ (by first | omega | (simp; done) | (simp; omega)) _ | with_reducible refine Below.alloc ?_ (by first | omega | (simp; done) | (simp; omega)) _ | with_reducible refine Below.drew ?_ | with_reducible refine Ext.on _ ?_ (by first | omega | (simp; done) | (simp; omega)))); rintro e _ ⟨sp, rfl, hp, ⟨yp, rfl⟩⟩; have yps := yp.size; (try simp at yps); have ypa : w.heap.size < yp.val.heap.size := (by omega); have ypb : w.heap.size + 1 < yp.val.heap.size := (by omega); have ypc : w.heap.size + 1 + 1 < yp.val.heap.size := (by omega); clear G)
      | (go_at_call 68; have G := Lib.hid (fun W hb1 hb2 => lowest_fresh b1 sp.a sp.len sp.cap sd.a sd.len sd.cap _ _ W (hp.later hb1) (hd.later hb2) (LS.out _ _ hp) (LD.out _ _ hd) HD0.out); rw [EE.out] at G; (with_reducible refine Calls.mono (G.out _ ?_ ?_) ?_); (focus (repeat first | with_reducible exact Below.refl _ _ | with_reducible refine Below.setCell ?_ (by first | omega | (simp; done) | (simp; omega)) _ | with_reducible refine Below.alloc ?_ (by first | omega | (simp; done) | (simp; omega)) _ | with_reducible refine Below.drew ?_ | with_reducible refine Ext.on _ ?_ (by first | omega | (simp; done) | (simp; omega)))); (focus (repeat first | with_reducible exact Below.refl _ _ | with_reducible refine Below.setCell ?_ (by first | omega | (simp; done) | (simp; omega)) _ | with_reducible refine Below.alloc ?_ (by first | omega | (simp; done) | (simp; omega)) _ | with_reducible refine Below.drew ?_ | with_reducible refine Ext.on _ ?_ (by first | omega | (simp; done) | (simp; omega)))); rintro e _ ⟨sn, st, rfl, hn, ht, hfn, hft, ⟨yl, rfl⟩⟩; have FN : Hid (Fr w sn) := Lib.hid (fun b off h => by have := hfn b off h; (try simp at this); omega); have FT : Hid (Fr w st) := Lib.hid (fun b off h => by have := hft b off h; (try simp at this); omega); clear hfn hft; have yls := yl.size; (try simp at yls); have yla : w.heap.size < yl.val.heap.size := (by omega); have ylb : w.heap.size + 1 < yl.val.heap.size := (by omega); have ylc : w.heap.size + 1 + 1 < yl.val.heap.size := (by omega); have T0 : yx.val.heap[w.heap.size + 1 + 1]? = some (Obj.cells #[.bool false, .slice none 0 0, .slice none 0 0] 67) := (yx.below.block (w.heap.size + 1 + 1) (by simp)).trans (new_at2d w _ _ _ _); have T1 : yy.val.heap[w.heap.size + 1 + 1]? = some (Obj.cells #[.bool false, .slice none 0 0, .slice none 0 0] 67) := (yy.below.block (w.heap.size + 1 + 1) (by first | omega | (simp; omega))).trans T0; have T2 : yd.val.heap[w.heap.size + 1 + 1]? = some (Obj.cells #[.bool false, .slice none 0 0, .slice none 0 0] 67) := (yd.below.block (w.heap.size + 1 + 1) (by first | omega | (simp; omega))).trans T1; have T3 : yc.val.heap[w.heap.size + 1 + 1]? = some (Obj.cells #[.bool false, .slice none 0 0, .slice none 0 0] 67) := (yc.below.block (w.heap.size + 1 + 1) (by first | omega | (simp; omega))).trans T2; have T4 : yp.val.heap[w.heap.size + 1 + 1]? = some (Obj.cells #[.bool false, .slice none 0 0, .slice none 0 0] 67) := (yp.below.block (w.heap.size + 1 + 1) (by first | omega | (simp; omega))).trans T3; have T5 : yl.val.heap[w.heap.size + 1 + 1]? = some (Obj.cells #[.bool false, .slice none 0 0, .slice none 0 0] 67) := (yl.below.block (w.heap.size + 1 + 1) (by first | omega | (simp; omega))).trans T4; have HT := Lib.hid T5; obtain ⟨k0, k1, k2, k3, k4, k5, k6⟩ := three_b HT.out; clear G))
  have HB : Below w.heap.size w yl.val := by repeat first | with_reducible exact Below.refl _ _ | with_reducible refine Below.setCell ?_ (by first | omega | (simp; done) | (simp; omega)) _ | with_reducible refine Below.alloc ?_ (by first | omega | (simp; done) | (simp; omega)) _ | with_reducible refine Below.drew ?_ | with_reducible refine Ext.on _ ?_ (by first | omega | (simp; done) | (simp; omega))
  go_wp2
  refine ret_ex rfl ?_
  simp [results, Try.results41, go_sem, k4, k5, k6]
  refine ⟨sn, st, by simp, NumAt.store3 hn HT.out _ _ _, NumAt.store3 ht HT.out _ _ _, FN.out, FT.out, Cls.of (below3 HB (by omega) _ _ _)⟩
set_option maxHeartbeats 16000000 in
set_option maxRecDepth 20000 in
theorem rPlus_lessF (b1 b2 : Bool) (a1 : Option Addr) (n1 c1 : Nat) (a2 : Option Addr) (n2 c2 : Nat) (a3 : Option Addr) (n3 c3 : Nat) (a4 : Option Addr) (n4 c4 : Nat) (m1 d1 m2 d2 : Nat) (N : Int) (D : Nat) (w : World) (h1 : NumAt w ⟨a1, n1, c1⟩ m1) (h2 : NumAt w ⟨a2, n2, c2⟩ d1) (h3 : NumAt w ⟨a3, n3, c3⟩ m2) (h4 : NumAt w ⟨a4, n4, c4⟩ d2)
    (k1 : m1 < 1000000000 ^ 100) (k2 : d1 < 1000000000 ^ 100) (k3 : m2 < 1000000000 ^ 100) (k4 : d2 < 1000000000 ^ 100) (hD : d1 * d2 = D) (hD0 : 0 < D)
    (hb : b1 ≠ b2) (hxy : m1 * d2 < m2 * d1) (e1 : sg b2 (m2 * d1 - m1 * d2) = N) :
    Calls Try.prog 41 #[.agg #[.bool b1, .slice a1 n1 c1, .slice a2 n2 c2], .agg #[.bool b2, .slice a3 n3 c3, .slice a4 n4 c4]] w fun e w' => ∃ s t : Sl, e = .returned (.agg #[.bool (decide (frI N D < 0)), .slice s.a s.len s.cap, .slice t.a t.len t.cap]) ∧ NumAt w' s (frI N D).natAbs ∧ NumAt w' t (frd N D) ∧ Fr w s ∧ Fr w t ∧ Cls w w' := by
  have l1 : n1 ≤ 500 := lt_len h1 k1 (by omega)
  have l2 : n2 ≤ 500 := lt_len h2 k2 (by omega)
  have l3 : n3 ≤ 500 := lt_len h3 k3 (by omega)
  have l4 : n4 ≤ 500 := lt_len h4 k4 (by omega)
  have X1 := mul_lt_pow k1 k4
  have X2 := mul_lt_pow k3 k2
  have X3 := mul_lt_pow k2 k4
  rw [hD] at X3
  have C1 := Lib.hid (fun (W : World) (hb : Below w.heap.size w W) => mul_calls a1 n1 c1 a4 n4 c4 m1 d2 W (h1.later hb) (h4.later hb) l1 l4)
  have C2 := Lib.hid (fun (W : World) (hb : Below w.heap.size w W) => mul_calls a3 n3 c3 a2 n2 c2 m2 d1 W (h3.later hb) (h2.later hb) l3 l2)
  have C3 := Lib.hid (fun (W : World) (hb : Below w.heap.size w W) => mul_calls a2 n2 c2 a4 n4 c4 d1 d2 W (h2.later hb) (h4.later hb) l2 l4)
  rw [hD] at C3
  have EE := Lib.hid e1
  have HD0 := Lib.hid hD0
  clear e1 h1 h2 h3 h4 k1 k2 k3 k4 l1 l2 l3 l4 hD hD0
  generalize m1 * d2 = x at *
  generalize m2 * d1 = y at *
  have LX : Hid (∀ (s : Sl) (W : World), NumAt W s x → s.len ≤ 500) := Lib.hid fun s W h => lt_len h X1 (by omega)
  have LY : Hid (∀ (s : Sl) (W : World), NumAt W s y → s.len ≤ 500) := Lib.hid fun s W h => lt_len h X2 (by omega)
  have LD : Hid (∀ (s : Sl) (W : World), NumAt W s D → s.len ≤ 500) := Lib.hid fun s W h => lt_len h X3 (by omega)
  have XX1 := Lib.hid X1
  have XX2 := Lib.hid X2
  clear X1 X2 X3
  have LS : Hid (∀ (s : Sl) (W : World), NumAt W s (y - x) → s.len ≤ 500) := Lib.hid fun s W h => lt_len h (sub_lt_pow XX2.out) (by omega)
  have LX1 : Hid (∀ (s : Sl) (W : World), NumAt W s x → s.len ≤ 1000) := Lib.hid fun s W h => by have := LX.out s W h; omega
  have LY1 : Hid (∀ (s : Sl) (W : World), NumAt W s y → s.len ≤ 1000) := Lib.hid fun s W h => by have := LY.out s W h; omega
  have hbb : (b1 == b2) = false := by cases b1 <;> cases b2 <;> first | rfl | exact absurd rfl hb
  have hcm : decide (0 ≤ cmpN x y) = false := decide_eq_false (by unfold cmpN; rw [if_pos hxy]; omega)
  have HXY := Lib.hid (Nat.le_of_lt hxy)
  clear XX1 XX2 hb hxy
  go_enter Try.func41, Try.ntmps41
  go_wp2_with fail
  go_region_held3 (fun w' => w'.cell? ⟨w.heap.size, 0, none⟩ = some (.bool b1) ∧ w'.cell? ⟨w.heap.size, 1, none⟩ = some (.slice a1 n1 c1) ∧ w'.cell? ⟨w.heap.size, 2, none⟩ = some (.slice a2 n2 c2) ∧ w'.cell? ⟨w.heap.size + 1, 0, none⟩ = some (.bool b2) ∧ w'.cell? ⟨w.heap.size + 1, 1, none⟩ = some (.slice a3 n3 c3) ∧ w'.cell? ⟨w.heap.size + 1, 2, none⟩ = some (.slice a4 n4 c4))
    (first | go_keep | (refine ⟨?_, ?_, ?_, ?_, ?_, ?_⟩ <;> (rw [Ext.cell _ _ (by first | (simp; done) | (simp; omega) | omega)]; simp [*]; done)))
    (first
      | (go_at_call 69; (with_reducible refine Calls.mono (C1.out _ ?_) ?_); (focus (repeat first | with_reducible exact Below.refl _ _ | with_reducible refine Below.setCell ?_ (by first | omega | (simp; done) | (simp; omega)) _ | with_reducible refine Below.alloc ?_ (by first | omega | (simp; done) | (simp; omega)) _ | with_reducible refine Below.drew ?_ | with_reducible refine Ext.on _ ?_ (by first | omega | (simp; done) | (simp; omega)))); rintro e _ ⟨sx, rfl, hx, ⟨yx, rfl⟩⟩; have yxs := yx.size; (try simp at yxs); have yxa : w.heap.size < yx.val.heap.size := (by omega); have yxb : w.heap.size + 1 < yx.val.heap.size := (by omega); have yxc : w.heap.size + 1 + 1 < yx.val.heap.size := (by omega))
      | (go_at_call 69; (with_reducible refine Calls.mono (C2.out _ ?_) ?_); (focus (repeat first | with_reducible exact Below.refl _ _ | with_reducible refine Below.setCell ?_ (by first | omega | (simp; done) | (simp; omega)) _ | with_reducible refine Below.alloc ?_ (by first | omega | (simp; done) | (simp; omega)) _ | with_reducible refine Below.drew ?_ | with_reducible refine Ext.on _ ?_ (by first | omega | (simp; done) | (simp; omega)))); rintro e _ ⟨sy, rfl, hy, ⟨yy, rfl⟩⟩; have yys := yy.size; (try simp at yys); have yya : w.heap.size < yy.val.heap.size := (by omega); have yyb : w.heap.size + 1 < yy.val.heap.size := (by omega); have yyc : w.heap.size + 1 + 1 < yy.val.heap.size := (by omega)))
  go_wp2_with (first | (go_at_call 69; (with_reducible refine Calls.mono (C3.out _ ?_) ?_); (focus (repeat first | with_reducible exact Below.refl _ _ | with_reducible refine Below.setCell ?_ (by first | omega | (simp; done) | (simp; omega)) _ | with_reducible refine Below.alloc ?_ (by first | omega | (simp; done) | (simp; omega)) _ | with_reducible refine Below.drew ?_ | with_reducible refine Ext.on _ ?_ (by first | omega | (simp; done) | (simp; omega)))); rintro e _ ⟨sd, rfl, hd, ⟨yd, rfl⟩⟩; have yds := yd.size; (try simp at yds); have yda : w.heap.size < yd.val.heap.size := (by omega); have ydb : w.heap.size + 1 < yd.val.heap.size := (by omega); have ydc : w.heap.size + 1 + 1 < yd.val.heap.size := (by omega)) | (go_at_call 71; have G := Lib.hid (fun W hb1 hb2 => compare_calls sx.a sx.len sx.cap sy.a sy.len sy.cap x y W (hx.later hb1) (hy.later hb2)); (with_reducible refine Calls.mono (G.out _ ?_ ?_) ?_); (focus (repeat first | with_reducible exact Below.refl _ _ | with_reducible refine Below.setCell ?_ (by first | omega | (simp; done) | (simp; omega)) _ | with_reducible refine Below.alloc ?_ (by first | omega | (simp; done) | (simp; omega)) _ | with_reducible refine Below.drew ?_ | with_reducible refine Ext.on _ ?_ (by first | omega | (simp; done) | (simp; omega)))); (focus (repeat first | with_reducible exact Below.refl _ _ | with_reducible refine Below.setCell ?_ (by first | omega | (simp; done) | (simp; omega)) _ | with_reducible refine Below.alloc ?_ (by first | omega | (simp; done) | (simp; omega)) _ | with_reducible refine Below.drew ?_ | with_reducible refine Ext.on _ ?_ (by first | omega | (simp; done) | (simp; omega)))); rintro e _ ⟨rfl, ⟨yc, rfl⟩⟩; have ycs := yc.size; (try simp at ycs); have yca : w.heap.size < yc.val.heap.size := (by omega); have ycb : w.heap.size + 1 < yc.val.heap.size := (by omega); have ycc : w.heap.size + 1 + 1 < yc.val.heap.size := (by omega); clear G))
  have hz : yc.val.cell? ⟨w.heap.size + 1, 0, none⟩ = some (.bool b2) := by
    iterate 2 (rw [Ext.cell _ _ (by first | (simp; done) | (simp; omega) | omega)])
    simp [*]
  go_region_held3 (fun w' => w'.cell? ⟨w.heap.size + 1, 0, none⟩ = some (.bool b2))
    (first | go_keep | (simp [hz]; done) | (refine (cell_after3 _ _ _ _ _ _ ?_).trans ?_; (focus (dsimp only; omega)); (simp [*]; done)) | (rw [Ext.cell _ _ (by first | (simp; done) | (simp; omega) | omega)]; simp [*]; done))
    (first
      | (go_at_call 72; have G := Lib.hid (fun W hb1 hb2 => minus_calls sy.a sy.len sy.cap sx.a sx.len sx.cap _ _ W (hy.later hb1) (hx.later hb2) (LY1.out _ _ hy) HXY.out); (with_reducible refine Calls.mono (G.out _ ?_ ?_) ?_); (focus (repeat first | with_reducible exact Below.refl _ _ | with_reducible refine Below.setCell ?_ (by first | omega | (simp; done) | (simp; omega)) _ | with_reducible refine Below.alloc ?_ (by first | omega | (simp; done) | (simp; omega)) _ | with_reducible refine Below.drew ?_ | with_reducible refine Ext.on _ ?_ (by first | omega | (simp; done) | (simp; omega)))); (focus (repeat first | with_reducible exact Below.refl _ _ | with_reducible refine Below.setCell ?_ (by first | omega | (simp; done) | (simp; omega)) _ | with_reducible refine Below.alloc ?_ (by first | omega | (simp; done) | (simp; omega)) _ | with_reducible refine Below.drew ?_ | with_reducible refine Ext.on _ ?_ (by first | omega | (simp; done) | (simp; omega)))); rintro e _ ⟨sp, rfl, hp, ⟨yp, rfl⟩⟩; have yps := yp.size; (try simp at yps); have ypa : w.heap.size < yp.val.heap.size := (by omega); have ypb : w.heap.size + 1 < yp.val.heap.size := (by omega); have ypc : w.heap.size + 1 + 1 < yp.val.heap.size := (by omega); clear G)
      | (go_at_call 68; have G := Lib.hid (fun W hb1 hb2 => lowest_fresh b2 sp.a sp.len sp.cap sd.a sd.len sd.cap _ _ W (hp.later hb1) (hd.later hb2) (LS.out _ _ hp) (LD.out _ _ hd) HD0.out); rw [EE.out] at G; (with_reducible refine Calls.mono (G.out _ ?_ ?_) ?_); (focus (repeat first | with_reducible exact Below.refl _ _ | with_reducible refine Below.setCell ?_ (by first | omega | (simp; done) | (simp; omega)) _ | with_reducible refine Below.alloc ?_ (by first | omega | (simp; done) | (simp; omega)) _ | with_reducible refine Below.drew ?_ | with_reducible refine Ext.on _ ?_ (by first | omega | (simp; done) | (simp; omega)))); (focus (repeat first | with_reducible exact Below.refl _ _ | with_reducible refine Below.setCell ?_ (by first | omega | (simp; done) | (simp; omega)) _ | with_reducible refine Below.alloc ?_ (by first | omega | (simp; done) | (simp; omega)) _ | with_reducible refine Below.drew ?_ | with_reducible refine Ext.on _ ?_ (by first | omega | (simp; done) | (simp; omega)))); rintro e _ ⟨sn, st, rfl, hn, ht, hfn, hft, ⟨yl, rfl⟩⟩; have FN : Hid (Fr w sn) := Lib.hid (fun b off h => by have := hfn b off h; (try simp at this); omega); have FT : Hid (Fr w st) := Lib.hid (fun b off h => by have := hft b off h; (try simp at this); omega); clear hfn hft; have yls := yl.size; (try simp at yls); have yla : w.heap.size < yl.val.heap.size := (by omega); have ylb : w.heap.size + 1 < yl.val.heap.size := (by omega); have ylc : w.heap.size + 1 + 1 < yl.val.heap.size := (by omega); have T0 : yx.val.heap[w.heap.size + 1 + 1]? = some (Obj.cells #[.bool false, .slice none 0 0, .slice none 0 0] 67) := (yx.below.block (w.heap.size + 1 + 1) (by simp)).trans (new_at2d w _ _ _ _); have T1 : yy.val.heap[w.heap.size + 1 + 1]? = some (Obj.cells #[.bool false, .slice none 0 0, .slice none 0 0] 67) := (yy.below.block (w.heap.size + 1 + 1) (by first | omega | (simp; omega))).trans T0; have T2 : yd.val.heap[w.heap.size + 1 + 1]? = some (Obj.cells #[.bool false, .slice none 0 0, .slice none 0 0] 67) := (yd.below.block (w.heap.size + 1 + 1) (by first | omega | (simp; omega))).trans T1; have T3 : yc.val.heap[w.heap.size + 1 + 1]? = some (Obj.cells #[.bool false, .slice none 0 0, .slice none 0 0] 67) := (yc.below.block (w.heap.size + 1 + 1) (by first | omega | (simp; omega))).trans T2; have T4 : yp.val.heap[w.heap.size + 1 + 1]? = some (Obj.cells #[.bool false, .slice none 0 0, .slice none 0 0] 67) := (yp.below.block (w.heap.size + 1 + 1) (by first | omega | (simp; omega))).trans T3; have T5 : yl.val.heap[w.heap.size + 1 + 1]? = some (Obj.cells #[.bool false, .slice none 0 0, .slice none 0 0] 67) := (yl.below.block (w.heap.size + 1 + 1) (by first | omega | (simp; omega))).trans T4; have HT := Lib.hid T5; obtain ⟨k0, k1, k2, k3, k4, k5, k6⟩ := three_b HT.out; clear G))
  have HB : Below w.heap.size w yl.val := by repeat first | with_reducible exact Below.refl _ _ | with_reducible refine Below.setCell ?_ (by first | omega | (simp; done) | (simp; omega)) _ | with_reducible refine Below.alloc ?_ (by first | omega | (simp; done) | (simp; omega)) _ | with_reducible refine Below.drew ?_ | with_reducible refine Ext.on _ ?_ (by first | omega | (simp; done) | (simp; omega))
  go_wp2
  refine ret_ex rfl ?_
  simp [results, Try.results41, go_sem, k4, k5, k6]
  refine ⟨sn, st, by simp, NumAt.store3 hn HT.out _ _ _, NumAt.store3 ht HT.out _ _ _, FN.out, FT.out, Cls.of (below3 HB (by omega) _ _ _)⟩
theorem Plus_fresh (N1 N2 : Int) (D1 D2 : Nat) (a1 : Option Addr) (n1 c1 : Nat) (a2 : Option Addr) (n2 c2 : Nat) (a3 : Option Addr) (n3 c3 : Nat) (a4 : Option Addr) (n4 c4 : Nat) (w : World) (h1 : NumAt w ⟨a1, n1, c1⟩ N1.natAbs) (h2 : NumAt w ⟨a2, n2, c2⟩ D1) (h3 : NumAt w ⟨a3, n3, c3⟩ N2.natAbs) (h4 : NumAt w ⟨a4, n4, c4⟩ D2)
    (k1 : N1.natAbs < 1000000000 ^ 100) (k2 : D1 < 1000000000 ^ 100) (k3 : N2.natAbs < 1000000000 ^ 100) (k4 : D2 < 1000000000 ^ 100) (hD0 : 0 < D1 * D2) :
    Calls Try.prog 41 #[.agg #[.bool (decide (N1 < 0)), .slice a1 n1 c1, .slice a2 n2 c2], .agg #[.bool (decide (N2 < 0)), .slice a3 n3 c3, .slice a4 n4 c4]] w (RBigF w (N1 * D2 + N2 * D1) (D1 * D2)) := by
  obtain ⟨p1, p2, p3⟩ := plus_ways N1 N2 D1 D2
  by_cases hb : decide (N1 < 0) = decide (N2 < 0)
  · exact rPlus_sameF _ _ a1 n1 c1 a2 n2 c2 a3 n3 c3 a4 n4 c4 N1.natAbs D1 N2.natAbs D2 _ _ w h1 h2 h3 h4 k1 k2 k3 k4 rfl hD0 hb (p1 hb)
  · by_cases hx : N2.natAbs * D1 ≤ N1.natAbs * D2
    · exact rPlus_moreF _ _ a1 n1 c1 a2 n2 c2 a3 n3 c3 a4 n4 c4 N1.natAbs D1 N2.natAbs D2 _ _ w h1 h2 h3 h4 k1 k2 k3 k4 rfl hD0 hb hx (p2 hb hx)
    · exact rPlus_lessF _ _ a1 n1 c1 a2 n2 c2 a3 n3 c3 a4 n4 c4 N1.natAbs D1 N2.natAbs D2 _ _ w h1 h2 h3 h4 k1 k2 k3 k4 rfl hD0 hb (by omega) (p3 hb (by omega))
set_option maxHeartbeats 16000000 in
set_option maxRecDepth 20000 in
theorem rTimes_wayF (b1 b2 : Bool) (a1 : Option Addr) (n1 c1 : Nat) (a2 : Option Addr) (n2 c2 : Nat) (a3 : Option Addr) (n3 c3 : Nat) (a4 : Option Addr) (n4 c4 : Nat) (m1 d1 m2 d2 : Nat) (N : Int) (D : Nat) (w : World) (h1 : NumAt w ⟨a1, n1, c1⟩ m1) (h2 : NumAt w ⟨a2, n2, c2⟩ d1) (h3 : NumAt w ⟨a3, n3, c3⟩ m2) (h4 : NumAt w ⟨a4, n4, c4⟩ d2)
    (k1 : m1 < 1000000000 ^ 100) (k2 : d1 < 1000000000 ^ 100) (k3 : m2 < 1000000000 ^ 100) (k4 : d2 < 1000000000 ^ 100) (hD : d1 * d2 = D) (hD0 : 0 < D) (ee : sg (!(b1 == b2)) (m1 * m2) = N) :
    Calls Try.prog 39 #[.agg #[.bool b1, .slice a1 n1 c1, .slice a2 n2 c2], .agg #[.bool b2, .slice a3 n3 c3, .slice a4 n4 c4]] w fun e w' => ∃ s t : Sl, e = .returned (.agg #[.bool (decide (frI N D < 0)), .slice s.a s.len s.cap, .slice t.a t.len t.cap]) ∧ NumAt w' s (frI N D).natAbs ∧ NumAt w' t (frd N D) ∧ Fr w s ∧ Fr w t ∧ Cls w w' := by
  have l1 : n1 ≤ 500 := lt_len h1 k1 (by omega)
  have l2 : n2 ≤ 500 := lt_len h2 k2 (by omega)
  have l3 : n3 ≤ 500 := lt_len h3 k3 (by omega)
  have l4 : n4 ≤ 500 := lt_len h4 k4 (by omega)
  have X1 := mul_lt_pow k1 k3
  have X3 := mul_lt_pow k2 k4
  rw [hD] at X3
  have C1 := Lib.hid (fun (W : World) (hb : Below w.heap.size w W) => mul_calls a1 n1 c1 a3 n3 c3 m1 m2 W (h1.later hb) (h3.later hb) l1 l3)
  have C2 := Lib.hid (fun (W : World) (hb : Below w.heap.size w W) => mul_calls a2 n2 c2 a4 n4 c4 d1 d2 W (h2.later hb) (h4.later hb) l2 l4)
  rw [hD] at C2
  have EE := Lib.hid ee
  have HD0 := Lib.hid hD0
  clear ee h1 h2 h3 h4 k1 k2 k3 k4 l1 l2 l3 l4 hD hD0
  generalize m1 * m2 = x at *
  have LX : Hid (∀ (s : Sl) (W : World), NumAt W s x → s.len ≤ 500) := Lib.hid fun s W h => lt_len h X1 (by omega)
  have LD : Hid (∀ (s : Sl) (W : World), NumAt W s D → s.len ≤ 500) := Lib.hid fun s W h => lt_len h X3 (by omega)
  clear X1 X3
  go_enter Try.func39, Try.ntmps39
  go_wp2_with fail
  go_region_held3 (fun w' => w'.cell? ⟨w.heap.size, 0, none⟩ = some (.bool b1) ∧ w'.cell? ⟨w.heap.size, 1, none⟩ = some (.slice a1 n1 c1) ∧ w'.cell? ⟨w.heap.size, 2, none⟩ = some (.slice a2 n2 c2) ∧ w'.cell? ⟨w.heap.size + 1, 0, none⟩ = some (.bool b2) ∧ w'.cell? ⟨w.heap.size + 1, 1, none⟩ = some (.slice a3 n3 c3) ∧ w'.cell? ⟨w.heap.size + 1, 2, none⟩ = some (.slice a4 n4 c4))
    (first | (simp only [cell_a30, cell_a31]; assumption) | (go_keep; done) | (refine ⟨?_, ?_, ?_, ?_, ?_, ?_⟩ <;> (rw [Ext.cell _ _ (by first | (simp; done) | (simp; omega) | omega)]; simp [*]; done)))
    (first
      | (go_at_call 69; (with_reducible refine Calls.mono (C1.out _ ?_) ?_); (focus (repeat first | with_reducible exact Below.refl _ _ | with_reducible refine Below.setCell ?_ (by first | omega | (simp; done) | (simp; omega)) _ | with_reducible refine Below.alloc ?_ (by first | omega | (simp; done) | (simp; omega)) _ | with_reducible refine Below.drew ?_ | with_reducible refine Ext.on _ ?_ (by first | omega | (simp; done) | (simp; omega)))); rintro e _ ⟨sx, rfl, hx, ⟨yx, rfl⟩⟩; have yxs := yx.size; (try simp at yxs); have yxa : w.heap.size < yx.val.heap.size := (by omega); have yxb : w.heap.size + 1 < yx.val.heap.size := (by omega); have yxc : w.heap.size + 1 + 1 < yx.val.heap.size := (by omega))
      | (go_at_call 69; (with_reducible refine Calls.mono (C2.out _ ?_) ?_); (focus (repeat first | with_reducible exact Below.refl _ _ | with_reducible refine Below.setCell ?_ (by first | omega | (simp; done) | (simp; omega)) _ | with_reducible refine Below.alloc ?_ (by first | omega | (simp; done) | (simp; omega)) _ | with_reducible refine Below.drew ?_ | with_reducible refine Ext.on _ ?_ (by first | omega | (simp; done) | (simp; omega)))); rintro e _ ⟨sy, rfl, hy, ⟨yy, rfl⟩⟩; have yys := yy.size; (try simp at yys); have yya : w.heap.size < yy.val.heap.size := (by omega); have yyb : w.heap.size + 1 < yy.val.heap.size := (by omega); have yyc : w.heap.size + 1 + 1 < yy.val.heap.size := (by omega))
      | (go_at_call 68; have G := Lib.hid (fun W hb1 hb2 => lowest_fresh (!(b1 == b2)) sx.a sx.len sx.cap sy.a sy.len sy.cap _ _ W (hx.later hb1) (hy.later hb2) (LX.out _ _ hx) (LD.out _ _ hy) HD0.out); rw [EE.out] at G; (with_reducible refine Calls.mono (G.out _ ?_ ?_) ?_); (focus (repeat first | with_reducible exact Below.refl _ _ | with_reducible refine Below.setCell ?_ (by first | omega | (simp; done) | (simp; omega)) _ | with_reducible refine Below.alloc ?_ (by first | omega | (simp; done) | (simp; omega)) _ | with_reducible refine Below.drew ?_ | with_reducible refine Ext.on _ ?_ (by first | omega | (simp; done) | (simp; omega)))); (focus (repeat first | with_reducible exact Below.refl _ _ | with_reducible refine Below.setCell ?_ (by first | omega | (simp; done) | (simp; omega)) _ | with_reducible refine Below.alloc ?_ (by first | omega | (simp; done) | (simp; omega)) _ | with_reducible refine Below.drew ?_ | with_reducible refine Ext.on _ ?_ (by first | omega | (simp; done) | (simp; omega)))); rintro e _ ⟨sn, st, rfl, hn, ht, hfn, hft, ⟨yl, rfl⟩⟩; have FN : Hid (Fr w sn) := Lib.hid (fun b off h => by have := hfn b off h; (try simp at this); omega); have FT : Hid (Fr w st) := Lib.hid (fun b off h => by have := hft b off h; (try simp at this); omega); clear hfn hft; have yls := yl.size; (try simp at yls); have yla : w.heap.size < yl.val.heap.size := (by omega); have ylb : w.heap.size + 1 < yl.val.heap.size := (by omega); have ylc : w.heap.size + 1 + 1 < yl.val.heap.size := (by omega); have T0 : yx.val.heap[w.heap.size + 1 + 1]? = some (Obj.cells #[.bool false, .slice none 0 0, .slice none 0 0] 67) := (yx.below.block (w.heap.size + 1 + 1) (by simp)).trans (new_at2d w _ _ _ _); have T1 : yy.val.heap[w.heap.size + 1 + 1]? = some (Obj.cells #[.bool false, .slice none 0 0, .slice none 0 0] 67) := (yy.below.block (w.heap.size + 1 + 1) (by first | omega | (simp; omega))).trans T0; have T2 : yl.val.heap[w.heap.size + 1 + 1]? = some (Obj.cells #[.bool false, .slice none 0 0, .slice none 0 0] 67) := (yl.below.block (w.heap.size + 1 + 1) (by first | omega | (simp; omega))).trans T1; have HT := Lib.hid T2; obtain ⟨k0, k1, k2, k3, k4, k5, k6⟩ := three_b HT.out; clear G))
  have HB : Below w.heap.size w yl.val := by repeat first | with_reducible exact Below.refl _ _ | with_reducible refine Below.setCell ?_ (by first | omega | (simp; done) | (simp; omega)) _ | with_reducible refine Below.alloc ?_ (by first | omega | (simp; done) | (simp; omega)) _ | with_reducible refine Below.drew ?_ | with_reducible refine Ext.on _ ?_ (by first | omega | (simp; done) | (simp; omega))
  go_wp2
  refine ret_ex rfl ?_
  simp [results, Try.results39, go_sem, k4, k5, k6]
  refine ⟨sn, st, by simp, NumAt.store3 hn HT.out _ _ _, NumAt.store3 ht HT.out _ _ _, FN.out, FT.out, Cls.of (below3 HB (by omega) _ _ _)⟩
theorem Times_fresh (N1 N2 : Int) (D1 D2 : Nat) (a1 : Option Addr) (n1 c1 : Nat) (a2 : Option Addr) (n2 c2 : Nat) (a3 : Option Addr) (n3 c3 : Nat) (a4 : Option Addr) (n4 c4 : Nat) (w : World) (h1 : NumAt w ⟨a1, n1, c1⟩ N1.natAbs) (h2 : NumAt w ⟨a2, n2, c2⟩ D1) (h3 : NumAt w ⟨a3, n3, c3⟩ N2.natAbs) (h4 : NumAt w ⟨a4, n4, c4⟩ D2)
    (k1 : N1.natAbs < 1000000000 ^ 100) (k2 : D1 < 1000000000 ^ 100) (k3 : N2.natAbs < 1000000000 ^ 100) (k4 : D2 < 1000000000 ^ 100) (hD0 : 0 < D1 * D2) :
    Calls Try.prog 39 #[.agg #[.bool (decide (N1 < 0)), .slice a1 n1 c1, .slice a2 n2 c2], .agg #[.bool (decide (N2 < 0)), .slice a3 n3 c3, .slice a4 n4 c4]] w (RBigF w (N1 * N2) (D1 * D2)) :=
  rTimes_wayF _ _ a1 n1 c1 a2 n2 c2 a3 n3 c3 a4 n4 c4 N1.natAbs D1 N2.natAbs D2 _ _ w h1 h2 h3 h4 k1 k2 k3 k4 rfl hD0 (sg_mul N1 N2)
end Go.Proofs.Ythbdkhmgopahbaa
