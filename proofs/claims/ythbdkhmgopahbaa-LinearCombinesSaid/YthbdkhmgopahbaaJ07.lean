/-
  The reference's fractions of any size: sums and products.
-/
import Derived.Test.YthbdkhmgopahbaaJ06
set_option linter.unusedVariables false
namespace Go.Proofs.Ythbdkhmgopahbaa
open Go Go.RowKit Go.Deep
theorem new_at2d (w : World) (o o' : Obj) (cs : Array Value) (t : TypeId) : ((((w.alloc o).alloc o').alloc (.cells cs t)).drew).heap[w.heap.size + 1 + 1]? = some (.cells cs t) := by
  have := heap_alloc_new ((w.alloc o).alloc o') (.cells cs t)
  have e : (((w.alloc o).alloc o').alloc (.cells cs t)).heap[w.heap.size + 1 + 1]? = some (.cells cs t) := by simpa using this
  exact e
theorem cell_after3 (W : World) (T : Nat) (c : Addr) (v0 v1 v2 : Value) (h : c.block ≠ T) : (((W.setCell ⟨T, 0, none⟩ v0).setCell ⟨T, 1, none⟩ v1).setCell ⟨T, 2, none⟩ v2).cell? c = W.cell? c := by
  refine World.cell?_of_block ?_
  rw [heap_setCell_other _ _ _ _ h, heap_setCell_other _ _ _ _ h, heap_setCell_other _ _ _ _ h]
theorem lt_len {s : Sl} {W : World} {m k : Nat} (h : NumAt W s m) (hm : m < 1000000000 ^ k) (hk : k ≤ 500) : s.len ≤ 500 := by
  have := h.1
  have := digs_len_le hm
  omega
theorem mul_lt_pow {x y : Nat} (hx : x < 1000000000 ^ 100) (hy : y < 1000000000 ^ 100) : x * y < 1000000000 ^ 200 := by
  rw [show (200 : Nat) = 100 + 100 from rfl, Nat.pow_add]
  exact Nat.mul_lt_mul_of_lt_of_lt hx hy
theorem add_lt_pow {x y : Nat} (hx : x < 1000000000 ^ 200) (hy : y < 1000000000 ^ 200) : x + y < 1000000000 ^ 201 := by
  rw [Nat.pow_succ]; generalize 1000000000 ^ 200 = p at *; omega
theorem sub_lt_pow {x y : Nat} (hx : x < 1000000000 ^ 200) : x - y < 1000000000 ^ 201 := by
  rw [Nat.pow_succ]; generalize 1000000000 ^ 200 = p at *; omega
theorem sg_of {N : Int} : sg (decide (N < 0)) N.natAbs = N := by
  unfold sg
  by_cases h : N < 0
  · rw [decide_eq_true h, if_pos rfl]; omega
  · rw [decide_eq_false h, if_neg Bool.false_ne_true]; omega
/-- The three ways of a sum. -/
theorem plus_ways (N1 N2 : Int) (D1 D2 : Nat) :
    (decide (N1 < 0) = decide (N2 < 0) → sg (decide (N1 < 0)) (N1.natAbs * D2 + N2.natAbs * D1) = N1 * D2 + N2 * D1) ∧
    (decide (N1 < 0) ≠ decide (N2 < 0) → N2.natAbs * D1 ≤ N1.natAbs * D2 → sg (decide (N1 < 0)) (N1.natAbs * D2 - N2.natAbs * D1) = N1 * D2 + N2 * D1) ∧
    (decide (N1 < 0) ≠ decide (N2 < 0) → N1.natAbs * D2 < N2.natAbs * D1 → sg (decide (N2 < 0)) (N2.natAbs * D1 - N1.natAbs * D2) = N1 * D2 + N2 * D1) := by
  have x1 : ∀ (N : Int) (D : Nat), N < 0 → N * D = -((N.natAbs * D : Nat) : Int) := fun N D h => by
    rw [Int.natCast_mul, show ((N.natAbs : Nat) : Int) = -N by omega, Int.neg_mul, Int.neg_neg]
  have x2 : ∀ (N : Int) (D : Nat), ¬ N < 0 → N * D = ((N.natAbs * D : Nat) : Int) := fun N D h => by
    rw [Int.natCast_mul, show ((N.natAbs : Nat) : Int) = N by omega]
  by_cases h1 : N1 < 0 <;> by_cases h2 : N2 < 0
  · rw [x1 N1 D2 h1, x1 N2 D1 h2, decide_eq_true h1, decide_eq_true h2]
    simp only [sg, if_true]
    refine ⟨fun _ => by omega, fun h => absurd rfl h, fun h => absurd rfl h⟩
  · rw [x1 N1 D2 h1, x2 N2 D1 h2, decide_eq_true h1, decide_eq_false h2]
    simp only [sg, if_true, Bool.false_eq_true, if_false]
    refine ⟨fun h => (by cases h), fun _ _ => by omega, fun _ _ => by omega⟩
  · rw [x2 N1 D2 h1, x1 N2 D1 h2, decide_eq_false h1, decide_eq_true h2]
    simp only [sg, if_true, Bool.false_eq_true, if_false]
    refine ⟨fun h => (by cases h), fun _ _ => by omega, fun _ _ => by omega⟩
  · rw [x2 N1 D2 h1, x2 N2 D1 h2, decide_eq_false h1, decide_eq_false h2]
    simp only [sg, Bool.false_eq_true, if_false]
    refine ⟨fun _ => by omega, fun h => absurd rfl h, fun h => absurd rfl h⟩
set_option maxHeartbeats 16000000 in
set_option maxRecDepth 20000 in
theorem rPlus_same (b1 b2 : Bool) (a1 : Option Addr) (n1 c1 : Nat) (a2 : Option Addr) (n2 c2 : Nat) (a3 : Option Addr) (n3 c3 : Nat) (a4 : Option Addr) (n4 c4 : Nat) (m1 d1 m2 d2 : Nat) (N : Int) (D : Nat) (w : World) (h1 : NumAt w ⟨a1, n1, c1⟩ m1) (h2 : NumAt w ⟨a2, n2, c2⟩ d1) (h3 : NumAt w ⟨a3, n3, c3⟩ m2) (h4 : NumAt w ⟨a4, n4, c4⟩ d2)
    (k1 : m1 < 1000000000 ^ 100) (k2 : d1 < 1000000000 ^ 100) (k3 : m2 < 1000000000 ^ 100) (k4 : d2 < 1000000000 ^ 100) (hD : d1 * d2 = D) (hD0 : 0 < D)
    (hb : b1 = b2) (e1 : sg b1 (m1 * d2 + m2 * d1) = N) :
    Calls Try.prog 41 #[.agg #[.bool b1, .slice a1 n1 c1, .slice a2 n2 c2], .agg #[.bool b2, .slice a3 n3 c3, .slice a4 n4 c4]] w fun e w' => ∃ s t : Sl, e = .returned (.agg #[.bool (decide (frI N D < 0)), .slice s.a s.len s.cap, .slice t.a t.len t.cap]) ∧ NumAt w' s (frI N D).natAbs ∧ NumAt w' t (frd N D) ∧ Cls w w' := by
  have l1 : n1 ≤ 500 := lt_len h1 k1 (by omega)
  have l2 : n2 ≤ 500 := lt_len h2 k2 (by omega)
  have l3 : n3 ≤ 500 := lt_len h3 k3 (by omega)
  have l4 : n4 ≤ 500 := lt_len h4 k4 (by omega)
  have X1 := mul_lt_pow k1 k4
  have X2 := mul_lt_pow k3 k2
  have X3 := mul_lt_pow k2 k4
  rw [hD] at X3
  have C1 := Lib.hid (fun (W : World) (hb : Below w.heap.size w W) => mul_calls a1 n1 c1 a4 n4 c4 m1 d2 W (h1.later hb) (h4.later hb) l1 l4)
  have C2 := Lib.hid (fun (W : World) (hb : Below w.heap.size w W) => mul_calls a3 n3 c3 a2 n2 c2 m2 d1 W (h3.later hb) (h2.later hb) l3 l2)
  have C3 := Lib.hid (fun (W : World) (hb : Below w.heap.size w W) => mul_calls a2 n2 c2 a4 n4 c4 d1 d2 W (h2.later hb) (h4.later hb) l2 l4)
  rw [hD] at C3
  have EE := Lib.hid e1
  have HD0 := Lib.hid hD0
  clear e1 h1 h2 h3 h4 k1 k2 k3 k4 l1 l2 l3 l4 hD hD0
  generalize m1 * d2 = x at *
  generalize m2 * d1 = y at *
  have LX : Hid (∀ (s : Sl) (W : World), NumAt W s x → s.len ≤ 500) := Lib.hid fun s W h => lt_len h X1 (by omega)
  have LY : Hid (∀ (s : Sl) (W : World), NumAt W s y → s.len ≤ 500) := Lib.hid fun s W h => lt_len h X2 (by omega)
  have LD : Hid (∀ (s : Sl) (W : World), NumAt W s D → s.len ≤ 500) := Lib.hid fun s W h => lt_len h X3 (by omega)
  have XX1 := Lib.hid X1
  have XX2 := Lib.hid X2
  clear X1 X2 X3
  have LS : Hid (∀ (s : Sl) (W : World), NumAt W s (x + y) → s.len ≤ 500) := Lib.hid fun s W h => lt_len h (add_lt_pow XX1.out XX2.out) (by omega)
  have LX1 : Hid (∀ (s : Sl) (W : World), NumAt W s x → s.len ≤ 1000) := Lib.hid fun s W h => by have := LX.out s W h; omega
  have LY1 : Hid (∀ (s : Sl) (W : World), NumAt W s y → s.len ≤ 1000) := Lib.hid fun s W h => by have := LY.out s W h; omega
  have hbb : (b1 == b2) = true := by rw [hb]; cases b2 <;> rfl
  clear XX1 XX2 hb
  go_enter Try.func41, Try.ntmps41
  go_wp2_with fail
  go_region_held3 (fun w' => w'.cell? ⟨w.heap.size, 0, none⟩ = some (.bool b1) ∧ w'.cell? ⟨w.heap.size, 1, none⟩ = some (.slice a1 n1 c1) ∧ w'.cell? ⟨w.heap.size, 2, none⟩ = some (.slice a2 n2 c2) ∧ w'.cell? ⟨w.heap.size + 1, 0, none⟩ = some (.bool b2) ∧ w'.cell? ⟨w.heap.size + 1, 1, none⟩ = some (.slice a3 n3 c3) ∧ w'.cell? ⟨w.heap.size + 1, 2, none⟩ = some (.slice a4 n4 c4))
    (first | go_keep | (refine ⟨?_, ?_, ?_, ?_, ?_, ?_⟩ <;> (rw [Ext.cell _ _ (by first | (simp; done) | (simp; omega) | omega)]; simp [*]; done)))
    (first
      | (go_at_call 69; (with_reducible refine Calls.mono (C1.out _ ?_) ?_); (focus (repeat first | with_reducible exact Below.refl _ _ | with_reducible refine Below.setCell ?_ (by first | omega | (simp; done) | (simp; omega)) _ | with_reducible refine Below.alloc ?_ (by first | omega | (simp; done) | (simp; omega)) _ | with_reducible refine Below.drew ?_ | with_reducible refine Ext.on _ ?_ (by first | omega | (simp; done) | (simp; omega)))); rintro e _ ⟨sx, rfl, hx, ⟨yx, rfl⟩⟩; have yxs := yx.size; (try simp at yxs); have yxa : w.heap.size < yx.val.heap.size := (by omega); have yxb : w.heap.size + 1 < yx.val.heap.size := (by omega); have yxc : w.heap.size + 1 + 1 < yx.val.heap.size := (by omega))
      | (go_at_call 69; (with_reducible refine Calls.mono (C2.out _ ?_) ?_); (focus (repeat first | with_reducible exact Below.refl _ _ | with_reducible refine Below.setCell ?_ (by first | omega | (simp; done) | (simp; omega)) _ | with_reducible refine Below.alloc ?_ (by first | omega | (simp; done) | (simp; omega)) _ | with_reducible refine Below.drew ?_ | with_reducible refine Ext.on _ ?_ (by first | omega | (simp; done) | (simp; omega)))); rintro e _ ⟨sy, rfl, hy, ⟨yy, rfl⟩⟩; have yys := yy.size; (try simp at yys); have yya : w.heap.size < yy.val.heap.size := (by omega); have yyb : w.heap.size + 1 < yy.val.heap.size := (by omega); have yyc : w.heap.size + 1 + 1 < yy.val.heap.size := (by omega)))
  go_wp2_with (go_at_call 69; (with_reducible refine Calls.mono (C3.out _ ?_) ?_); (focus (repeat first | with_reducible exact Below.refl _ _ | with_reducible refine Below.setCell ?_ (by first | omega | (simp; done) | (simp; omega)) _ | with_reducible refine Below.alloc ?_ (by first | omega | (simp; done) | (simp; omega)) _ | with_reducible refine Below.drew ?_ | with_reducible refine Ext.on _ ?_ (by first | omega | (simp; done) | (simp; omega)))); rintro e _ ⟨sd, rfl, hd, ⟨yd, rfl⟩⟩; have yds := yd.size; (try simp at yds); have yda : w.heap.size < yd.val.heap.size := (by omega); have ydb : w.heap.size + 1 < yd.val.heap.size := (by omega); have ydc : w.heap.size + 1 + 1 < yd.val.heap.size := (by omega))
  have hz : yd.val.cell? ⟨w.heap.size, 0, none⟩ = some (.bool b1) := by
    iterate 1 (rw [Ext.cell _ _ (by first | (simp; done) | (simp; omega) | omega)])
    simp [*]
  go_region_held3 (fun w' => w'.cell? ⟨w.heap.size, 0, none⟩ = some (.bool b1))
    (first | go_keep | (simp [hz]; done) | (refine (cell_after3 _ _ _ _ _ _ ?_).trans ?_; (focus (dsimp only; omega)); (simp [*]; done)) | (rw [Ext.cell _ _ (by first | (simp; done) | (simp; omega) | omega)]; simp [*]; done))
    (first
      | (go_at_call 70; have G := Lib.hid (fun W hb1 hb2 => plus_calls sx.a sx.len sx.cap sy.a sy.len sy.cap _ _ W (hx.later hb1) (hy.later hb2) (LX1.out _ _ hx) (LY1.out _ _ hy)); (with_reducible refine Calls.mono (G.out _ ?_ ?_) ?_); (focus (repeat first | with_reducible exact Below.refl _ _ | with_reducible refine Below.setCell ?_ (by first | omega | (simp; done) | (simp; omega)) _ | with_reducible refine Below.alloc ?_ (by first | omega | (simp; done) | (simp; omega)) _ | with_reducible refine Below.drew ?_ | with_reducible refine Ext.on _ ?_ (by first | omega | (simp; done) | (simp; omega)))); (focus (repeat first | with_reducible exact Below.refl _ _ | with_reducible refine Below.setCell ?_ (by first | omega | (simp; done) | (simp; omega)) _ | with_reducible refine Below.alloc ?_ (by first | omega | (simp; done) | (simp; omega)) _ | with_reducible refine Below.drew ?_ | with_reducible refine Ext.on _ ?_ (by first | omega | (simp; done) | (simp; omega)))); rintro e _ ⟨sp, rfl, hp, _, ⟨yp, rfl⟩⟩; have yps := yp.size; (try simp at yps); have ypa : w.heap.size < yp.val.heap.size := (by omega); have ypb : w.heap.size + 1 < yp.val.heap.size := (by omega); have ypc : w.heap.size + 1 + 1 < yp.val.heap.size := (by omega); clear G)
      | (go_at_call 68; have G := Lib.hid (fun W hb1 hb2 => lowest_calls b1 sp.a sp.len sp.cap sd.a sd.len sd.cap _ _ W (hp.later hb1) (hd.later hb2) (LS.out _ _ hp) (LD.out _ _ hd) HD0.out); rw [EE.out] at G; (with_reducible refine Calls.mono (G.out _ ?_ ?_) ?_); (focus (repeat first | with_reducible exact Below.refl _ _ | with_reducible refine Below.setCell ?_ (by first | omega | (simp; done) | (simp; omega)) _ | with_reducible refine Below.alloc ?_ (by first | omega | (simp; done) | (simp; omega)) _ | with_reducible refine Below.drew ?_ | with_reducible refine Ext.on _ ?_ (by first | omega | (simp; done) | (simp; omega)))); (focus (repeat first | with_reducible exact Below.refl _ _ | with_reducible refine Below.setCell ?_ (by first | omega | (simp; done) | (simp; omega)) _ | with_reducible refine Below.alloc ?_ (by first | omega | (simp; done) | (simp; omega)) _ | with_reducible refine Below.drew ?_ | with_reducible refine Ext.on _ ?_ (by first | omega | (simp; done) | (simp; omega)))); rintro e _ ⟨sn, st, rfl, hn, ht, ⟨yl, rfl⟩⟩; have yls := yl.size; (try simp at yls); have yla : w.heap.size < yl.val.heap.size := (by omega); have ylb : w.heap.size + 1 < yl.val.heap.size := (by omega); have ylc : w.heap.size + 1 + 1 < yl.val.heap.size := (by omega); have T0 : yx.val.heap[w.heap.size + 1 + 1]? = some (Obj.cells #[.bool false, .slice none 0 0, .slice none 0 0] 67) := (yx.below.block (w.heap.size + 1 + 1) (by simp)).trans (new_at2d w _ _ _ _); have T1 : yy.val.heap[w.heap.size + 1 + 1]? = some (Obj.cells #[.bool false, .slice none 0 0, .slice none 0 0] 67) := (yy.below.block (w.heap.size + 1 + 1) (by first | omega | (simp; omega))).trans T0; have T2 : yd.val.heap[w.heap.size + 1 + 1]? = some (Obj.cells #[.bool false, .slice none 0 0, .slice none 0 0] 67) := (yd.below.block (w.heap.size + 1 + 1) (by first | omega | (simp; omega))).trans T1; have T3 : yp.val.heap[w.heap.size + 1 + 1]? = some (Obj.cells #[.bool false, .slice none 0 0, .slice none 0 0] 67) := (yp.below.block (w.heap.size + 1 + 1) (by first | omega | (simp; omega))).trans T2; have T4 : yl.val.heap[w.heap.size + 1 + 1]? = some (Obj.cells #[.bool false, .slice none 0 0, .slice none 0 0] 67) := (yl.below.block (w.heap.size + 1 + 1) (by first | omega | (simp; omega))).trans T3; have HT := Lib.hid T4; obtain ⟨k0, k1, k2, k3, k4, k5, k6⟩ := three_b HT.out; clear G))
  have HB : Below w.heap.size w yl.val := by repeat first | with_reducible exact Below.refl _ _ | with_reducible refine Below.setCell ?_ (by first | omega | (simp; done) | (simp; omega)) _ | with_reducible refine Below.alloc ?_ (by first | omega | (simp; done) | (simp; omega)) _ | with_reducible refine Below.drew ?_ | with_reducible refine Ext.on _ ?_ (by first | omega | (simp; done) | (simp; omega))
  go_wp2
  refine ret_ex rfl ?_
  simp [results, Try.results41, go_sem, k4, k5, k6]
  refine ⟨sn, st, by simp, NumAt.store3 hn HT.out _ _ _, NumAt.store3 ht HT.out _ _ _, Cls.of (below3 HB (by omega) _ _ _)⟩
set_option maxHeartbeats 16000000 in
set_option maxRecDepth 20000 in
theorem rPlus_more (b1 b2 : Bool) (a1 : Option Addr) (n1 c1 : Nat) (a2 : Option Addr) (n2 c2 : Nat) (a3 : Option Addr) (n3 c3 : Nat) (a4 : Option Addr) (n4 c4 : Nat) (m1 d1 m2 d2 : Nat) (N : Int) (D : Nat) (w : World) (h1 : NumAt w ⟨a1, n1, c1⟩ m1) (h2 : NumAt w ⟨a2, n2, c2⟩ d1) (h3 : NumAt w ⟨a3, n3, c3⟩ m2) (h4 : NumAt w ⟨a4, n4, c4⟩ d2)
    (k1 : m1 < 1000000000 ^ 100) (k2 : d1 < 1000000000 ^ 100) (k3 : m2 < 1000000000 ^ 100) (k4 : d2 < 1000000000 ^ 100) (hD : d1 * d2 = D) (hD0 : 0 < D)
    (hb : b1 ≠ b2) (hxy : m2 * d1 ≤ m1 * d2) (e1 : sg b1 (m1 * d2 - m2 * d1) = N) :
    Calls Try.prog 41 #[.agg #[.bool b1, .slice a1 n1 c1, .slice a2 n2 c2], .agg #[.bool b2, .slice a3 n3 c3, .slice a4 n4 c4]] w fun e w' => ∃ s t : Sl, e = .returned (.agg #[.bool (decide (frI N D < 0)), .slice s.a s.len s.cap, .slice t.a t.len t.cap]) ∧ NumAt w' s (frI N D).natAbs ∧ NumAt w' t (frd N D) ∧ Cls w w' := by
  have l1 : n1 ≤ 500 := lt_len h1 k1 (by omega)
  have l2 : n2 ≤ 500 := lt_len h2 k2 (by omega)
  have l3 : n3 ≤ 500 := lt_len h3 k3 (by omega)
  have l4 : n4 ≤ 500 := lt_len h4 k4 (by omega)
  have X1 := mul_lt_pow k1 k4
  have X2 := mul_lt_pow k3 k2
  have X3 := mul_lt_pow k2 k4
  rw [hD] at X3
  have C1 := Lib.hid (fun (W : World) (hb : Below w.heap.size w W) => mul_calls a1 n1 c1 a4 n4 c4 m1 d2 W (h1.later hb) (h4.later hb) l1 l4)
  have C2 := Lib.hid (fun (W : World) (hb : Below w.heap.size w W) => mul_calls a3 n3 c3 a2 n2 c2 m2 d1 W (h3.later hb) (h2.later hb) l3 l2)
  have C3 := Lib.hid (fun (W : World) (hb : Below w.heap.size w W) => mul_calls a2 n2 c2 a4 n4 c4 d1 d2 W (h2.later hb) (h4.later hb) l2 l4)
  rw [hD] at C3
  have EE := Lib.hid e1
  have HD0 := Lib.hid hD0
  clear e1 h1 h2 h3 h4 k1 k2 k3 k4 l1 l2 l3 l4 hD hD0
  generalize m1 * d2 = x at *
  generalize m2 * d1 = y at *
  have LX : Hid (∀ (s : Sl) (W : World), NumAt W s x → s.len ≤ 500) := Lib.hid fun s W h => lt_len h X1 (by omega)
  have LY : Hid (∀ (s : Sl) (W : World), NumAt W s y → s.len ≤ 500) := Lib.hid fun s W h => lt_len h X2 (by omega)
  have LD : Hid (∀ (s : Sl) (W : World), NumAt W s D → s.len ≤ 500) := Lib.hid fun s W h => lt_len h X3 (by omega)
  have XX1 := Lib.hid X1
  have XX2 := Lib.hid X2
  clear X1 X2 X3
  have LS : Hid (∀ (s : Sl) (W : World), NumAt W s (x - y) → s.len ≤ 500) := Lib.hid fun s W h => lt_len h (sub_lt_pow XX1.out) (by omega)
  have LX1 : Hid (∀ (s : Sl) (W : World), NumAt W s x → s.len ≤ 1000) := Lib.hid fun s W h => by have := LX.out s W h; omega
  have LY1 : Hid (∀ (s : Sl) (W : World), NumAt W s y → s.len ≤ 1000) := Lib.hid fun s W h => by have := LY.out s W h; omega
  have hbb : (b1 == b2) = false := by cases b1 <;> cases b2 <;> first | rfl | exact absurd rfl hb
  have hcm : decide (0 ≤ cmpN x y) = true := decide_eq_true (by have := cmpN_le y x; unfold cmpN at *; split <;> (try split) <;> omega)
  have HXY := Lib.hid hxy
  clear XX1 XX2 hb hxy
  go_enter Try.func41, Try.ntmps41
  go_wp2_with fail
  go_region_held3 (fun w' => w'.cell? ⟨w.heap.size, 0, none⟩ = some (.bool b1) ∧ w'.cell? ⟨w.heap.size, 1, none⟩ = some (.slice a1 n1 c1) ∧ w'.cell? ⟨w.heap.size, 2, none⟩ = some (.slice a2 n2 c2) ∧ w'.cell? ⟨w.heap.size + 1, 0, none⟩ = some (.bool b2) ∧ w'.cell? ⟨w.heap.size + 1, 1, none⟩ = some (.slice a3 n3 c3) ∧ w'.cell? ⟨w.heap.size + 1, 2, none⟩ = some (.slice a4 n4 c4))
    (first | go_keep | (refine ⟨?_, ?_, ?_, ?_, ?_, ?_⟩ <;> (rw [Ext.cell _ _ (by first | (simp; done) | (simp; omega) | omega)]; simp [*]; done)))
    (first
      | (go_at_call 69; (with_reducible refine Calls.mono (C1.out _ ?_) ?_); (focus (repeat first | with_reducible exact Below.refl _ _ | with_reducible refine Below.setCell ?_ (by first | omega | (simp; done) | (simp; omega)) _ | with_reducible refine Below.alloc ?_ (by first | omega | (simp; done) | (simp; omega)) _ | with_reducible refine Below.drew ?_ | with_reducible refine Ext.on _ ?_ (by first | omega | (simp; done) | (simp; omega)))); rintro e _ ⟨sx, rfl, hx, ⟨yx, rfl⟩⟩; have yxs := yx.size; (try simp at yxs); have yxa : w.heap.size < yx.val.heap.size := (by omega); have yxb : w.heap.size + 1 < yx.val.heap.size := (by omega); have yxc : w.heap.size + 1 + 1 < yx.val.heap.size := (by omega))
      | (go_at_call 69; (with_reducible refine Calls.mono (C2.out _ ?_) ?_); (focus (repeat first | with_reducible exact Below.refl _ _ | with_reducible refine Below.setCell ?_ (by first | omega | (simp; done) | (simp; omega)) _ | with_reducible refine Below.alloc ?_ (by first | omega | (simp; done) | (simp; omega)) _ | with_reducible refine Below.drew ?_ | with_reducible refine Ext.on _ ?_ (by first | omega | (simp; done) | (simp; omega)))); rintro e _ ⟨sy, rfl, hy, ⟨yy, rfl⟩⟩; have yys := yy.size; (try simp at yys); have yya : w.heap.size < yy.val.heap.size := (by omega); have yyb : w.heap.size + 1 < yy.val.heap.size := (by omega); have yyc : w.heap.size + 1 + 1 < yy.val.heap.size := (by omega)))
  go_wp2_with (first | (go_at_call 69; (with_reducible refine Calls.mono (C3.out _ ?_) ?_); (focus (repeat first | with_reducible exact Below.refl _ _ | with_reducible refine Below.setCell ?_ (by first | omega | (simp; done) | (simp; omega)) _ | with_reducible refine Below.alloc ?_ (by first | omega | (simp; done) | (simp; omega)) _ | with_reducible refine Below.drew ?_ | with_reducible refine Ext.on _ ?_ (by first | omega | (simp; done) | (simp; omega)))); rintro e _ ⟨sd, rfl, hd, ⟨yd, rfl⟩⟩; have yds := yd.size; (try simp at yds); have yda : w.heap.size < yd.val.heap.size := (by omega); have ydb : w.heap.size + 1 < yd.val.heap.size := (by omega); have ydc : w.heap.size + 1 + 1 < yd.val.heap.size := (by omega)) | (go_at_call 71; have G := Lib.hid (fun W hb1 hb2 => compare_calls sx.a sx.len sx.cap sy.a sy.len sy.cap x y W (hx.later hb1) (hy.later hb2)); (with_reducible refine Calls.mono (G.out _ ?_ ?_) ?_); (focus (repeat first | with_reducible exact Below.refl _ _ | with_reducible refine Below.setCell ?_ (by first | omega | (simp; done) | (simp; omega)) _ | with_reducible refine Below.alloc ?_ (by first | omega | (simp; done) | (simp; omega)) _ | with_reducible refine Below.drew ?_ | with_reducible refine Ext.on _ ?_ (by first | omega | (simp; done) | (simp; omega)))); (focus (repeat first | with_reducible exact Below.refl _ _ | with_reducible refine Below.setCell ?_ (by first | omega | (simp; done) | (simp; omega)) _ | with_reducible refine Below.alloc ?_ (by first | omega | (simp; done) | (simp; omega)) _ | with_reducible refine Below.drew ?_ | with_reducible refine Ext.on _ ?_ (by first | omega | (simp; done) | (simp; omega)))); rintro e _ ⟨rfl, ⟨yc, rfl⟩⟩; have ycs := yc.size; (try simp at ycs); have yca : w.heap.size < yc.val.heap.size := (by omega); have ycb : w.heap.size + 1 < yc.val.heap.size := (by omega); have ycc : w.heap.size + 1 + 1 < yc.val.heap.size := (by omega); clear G))
  have hz : yc.val.cell? ⟨w.heap.size, 0, none⟩ = some (.bool b1) := by
    iterate 2 (rw [Ext.cell _ _ (by first | (simp; done) | (simp; omega) | omega)])
    simp [*]
  go_region_held3 (fun w' => w'.cell? ⟨w.heap.size, 0, none⟩ = some (.bool b1))
    (first | go_keep | (simp [hz]; done) | (refine (cell_after3 _ _ _ _ _ _ ?_).trans ?_; (focus (dsimp only; omega)); (simp [*]; done)) | (rw [Ext.cell _ _ (by first | (simp; done) | (simp; omega) | omega)]; simp [*]; done))
    (first
      | (go_at_call 72; have G := Lib.hid (fun W hb1 hb2 => minus_calls sx.a sx.len sx.cap sy.a sy.len sy.cap _ _ W (hx.later hb1) (hy.later hb2) (LX1.out _ _ hx) HXY.out); (with_reducible refine Calls.mono (G.out _ ?_ ?_) ?_); (focus (repeat first | with_reducible exact Below.refl _ _ | with_reducible refine Below.setCell ?_ (by first | omega | (simp; done) | (simp; omega)) _ | with_reducible refine Below.alloc ?_ (by first | omega | (simp; done) | (simp; omega)) _ | with_reducible refine Below.drew ?_ | with_reducible refine Ext.on _ ?_ (by first | omega | (simp; done) | (simp; omega)))); (focus (repeat first | with_reducible exact Below.refl _ _ | with_reducible refine Below.setCell ?_ (by first | omega | (simp; done) | (simp; omega)) _ | with_reducible refine Below.alloc ?_ (by first | omega | (simp; done) | (simp; omega)) _ | with_reducible refine Below.drew ?_ | with_reducible refine Ext.on _ ?_ (by first | omega | (simp; done) | (simp; omega)))); rintro e _ ⟨sp, rfl, hp, ⟨yp, rfl⟩⟩; have yps := yp.size; (try simp at yps); have ypa : w.heap.size < yp.val.heap.size := (by omega); have ypb : w.heap.size + 1 < yp.val.heap.size := (by omega); have ypc : w.heap.size + 1 + 1 < yp.val.heap.size := (by omega); clear G)
      | (go_at_call 68; have G := Lib.hid (fun W hb1 hb2 => lowest_calls b1 sp.a sp.len sp.cap sd.a sd.len sd.cap _ _ W (hp.later hb1) (hd.later hb2) (LS.out _ _ hp) (LD.out _ _ hd) HD0.out); rw [EE.out] at G; (with_reducible refine Calls.mono (G.out _ ?_ ?_) ?_); (focus (repeat first | with_reducible exact Below.refl _ _ | with_reducible refine Below.setCell ?_ (by first | omega | (simp; done) | (simp; omega)) _ | with_reducible refine Below.alloc ?_ (by first | omega | (simp; done) | (simp; omega)) _ | with_reducible refine Below.drew ?_ | with_reducible refine Ext.on _ ?_ (by first | omega | (simp; done) | (simp; omega)))); (focus (repeat first | with_reducible exact Below.refl _ _ | with_reducible refine Below.setCell ?_ (by first | omega | (simp; done) | (simp; omega)) _ | with_reducible refine Below.alloc ?_ (by first | omega | (simp; done) | (simp; omega)) _ | with_reducible refine Below.drew ?_ | with_reducible refine Ext.on _ ?_ (by first | omega | (simp; done) | (simp; omega)))); rintro e _ ⟨sn, st, rfl, hn, ht, ⟨yl, rfl⟩⟩; have yls := yl.size; (try simp at yls); have yla : w.heap.size < yl.val.heap.size := (by omega); have ylb : w.heap.size + 1 < yl.val.heap.size := (by omega); have ylc : w.heap.size + 1 + 1 < yl.val.heap.size := (by omega); have T0 : yx.val.heap[w.heap.size + 1 + 1]? = some (Obj.cells #[.bool false, .slice none 0 0, .slice none 0 0] 67) := (yx.below.block (w.heap.size + 1 + 1) (by simp)).trans (new_at2d w _ _ _ _); have T1 : yy.val.heap[w.heap.size + 1 + 1]? = some (Obj.cells #[.bool false, .slice none 0 0, .slice none 0 0] 67) := (yy.below.block (w.heap.size + 1 + 1) (by first | omega | (simp; omega))).trans T0; have T2 : yd.val.heap[w.heap.size + 1 + 1]? = some (Obj.cells #[.bool false, .slice none 0 0, .slice none 0 0] 67) := (yd.below.block (w.heap.size + 1 + 1) (by first | omega | (simp; omega))).trans T1; have T3 : yc.val.heap[w.heap.size + 1 + 1]? = some (Obj.cells #[.bool false, .slice none 0 0, .slice none 0 0] 67) := (yc.below.block (w.heap.size + 1 + 1) (by first | omega | (simp; omega))).trans T2; have T4 : yp.val.heap[w.heap.size + 1 + 1]? = some (Obj.cells #[.bool false, .slice none 0 0, .slice none 0 0] 67) := (yp.below.block (w.heap.size + 1 + 1) (by first | omega | (simp; omega))).trans T3; have T5 : yl.val.heap[w.heap.size + 1 + 1]? = some (Obj.cells #[.bool false, .slice none 0 0, .slice none 0 0] 67) := (yl.below.block (w.heap.size + 1 + 1) (by first | omega | (simp; omega))).trans T4; have HT := Lib.hid T5; obtain ⟨k0, k1, k2, k3, k4, k5, k6⟩ := three_b HT.out; clear G))
  have HB : Below w.heap.size w yl.val := by repeat first | with_reducible exact Below.refl _ _ | with_reducible refine Below.setCell ?_ (by first | omega | (simp; done) | (simp; omega)) _ | with_reducible refine Below.alloc ?_ (by first | omega | (simp; done) | (simp; omega)) _ | with_reducible refine Below.drew ?_ | with_reducible refine Ext.on _ ?_ (by first | omega | (simp; done) | (simp; omega))
  go_wp2
  refine ret_ex rfl ?_
  simp [results, Try.results41, go_sem, k4, k5, k6]
  refine ⟨sn, st, by simp, NumAt.store3 hn HT.out _ _ _, NumAt.store3 ht HT.out _ _ _, Cls.of (below3 HB (by omega) _ _ _)⟩
set_option maxHeartbeats 16000000 in
set_option maxRecDepth 20000 in
theorem rPlus_less (b1 b2 : Bool) (a1 : Option Addr) (n1 c1 : Nat) (a2 : Option Addr) (n2 c2 : Nat) (a3 : Option Addr) (n3 c3 : Nat) (a4 : Option Addr) (n4 c4 : Nat) (m1 d1 m2 d2 : Nat) (N : Int) (D : Nat) (w : World) (h1 : NumAt w ⟨a1, n1, c1⟩ m1) (h2 : NumAt w ⟨a2, n2, c2⟩ d1) (h3 : NumAt w ⟨a3, n3, c3⟩ m2) (h4 : NumAt w ⟨a4, n4, c4⟩ d2)
    (k1 : m1 < 1000000000 ^ 100) (k2 : d1 < 1000000000 ^ 100) (k3 : m2 < 1000000000 ^ 100) (k4 : d2 < 1000000000 ^ 100) (hD : d1 * d2 = D) (hD0 : 0 < D)
    (hb : b1 ≠ b2) (hxy : m1 * d2 < m2 * d1) (e1 : sg b2 (m2 * d1 - m1 * d2) = N) :
    Calls Try.prog 41 #[.agg #[.bool b1, .slice a1 n1 c1, .slice a2 n2 c2], .agg #[.bool b2, .slice a3 n3 c3, .slice a4 n4 c4]] w fun e w' => ∃ s t : Sl, e = .returned (.agg #[.bool (decide (frI N D < 0)), .slice s.a s.len s.cap, .slice t.a t.len t.cap]) ∧ NumAt w' s (frI N D).natAbs ∧ NumAt w' t (frd N D) ∧ Cls w w' := by
  have l1 : n1 ≤ 500 := lt_len h1 k1 (by omega)
  have l2 : n2 ≤ 500 := lt_len h2 k2 (by omega)
  have l3 : n3 ≤ 500 := lt_len h3 k3 (by omega)
  have l4 : n4 ≤ 500 := lt_len h4 k4 (by omega)
  have X1 := mul_lt_pow k1 k4
  have X2 := mul_lt_pow k3 k2
  have X3 := mul_lt_pow k2 k4
  rw [hD] at X3
  have C1 := Lib.hid (fun (W : World) (hb : Below w.heap.size w W) => mul_calls a1 n1 c1 a4 n4 c4 m1 d2 W (h1.later hb) (h4.later hb) l1 l4)
  have C2 := Lib.hid (fun (W : World) (hb : Below w.heap.size w W) => mul_calls a3 n3 c3 a2 n2 c2 m2 d1 W (h3.later hb) (h2.later hb) l3 l2)
  have C3 := Lib.hid (fun (W : World) (hb : Below w.heap.size w W) => mul_calls a2 n2 c2 a4 n4 c4 d1 d2 W (h2.later hb) (h4.later hb) l2 l4)
  rw [hD] at C3
  have EE := Lib.hid e1
  have HD0 := Lib.hid hD0
  clear e1 h1 h2 h3 h4 k1 k2 k3 k4 l1 l2 l3 l4 hD hD0
  generalize m1 * d2 = x at *
  generalize m2 * d1 = y at *
  have LX : Hid (∀ (s : Sl) (W : World), NumAt W s x → s.len ≤ 500) := Lib.hid fun s W h => lt_len h X1 (by omega)
  have LY : Hid (∀ (s : Sl) (W : World), NumAt W s y → s.len ≤ 500) := Lib.hid fun s W h => lt_len h X2 (by omega)
  have LD : Hid (∀ (s : Sl) (W : World), NumAt W s D → s.len ≤ 500) := Lib.hid fun s W h => lt_len h X3 (by omega)
  have XX1 := Lib.hid X1
  have XX2 := Lib.hid X2
  clear X1 X2 X3
  have LS : Hid (∀ (s : Sl) (W : World), NumAt W s (y - x) → s.len ≤ 500) := Lib.hid fun s W h => lt_len h (sub_lt_pow XX2.out) (by omega)
  have LX1 : Hid (∀ (s : Sl) (W : World), NumAt W s x → s.len ≤ 1000) := Lib.hid fun s W h => by have := LX.out s W h; omega
  have LY1 : Hid (∀ (s : Sl) (W : World), NumAt W s y → s.len ≤ 1000) := Lib.hid fun s W h => by have := LY.out s W h; omega
  have hbb : (b1 == b2) = false := by cases b1 <;> cases b2 <;> first | rfl | exact absurd rfl hb
  have hcm : decide (0 ≤ cmpN x y) = false := decide_eq_false (by unfold cmpN; rw [if_pos hxy]; omega)
  have HXY := Lib.hid (Nat.le_of_lt hxy)
  clear XX1 XX2 hb hxy
  go_enter Try.func41, Try.ntmps41
  go_wp2_with fail
  go_region_held3 (fun w' => w'.cell? ⟨w.heap.size, 0, none⟩ = some (.bool b1) ∧ w'.cell? ⟨w.heap.size, 1, none⟩ = some (.slice a1 n1 c1) ∧ w'.cell? ⟨w.heap.size, 2, none⟩ = some (.slice a2 n2 c2) ∧ w'.cell? ⟨w.heap.size + 1, 0, none⟩ = some (.bool b2) ∧ w'.cell? ⟨w.heap.size + 1, 1, none⟩ = some (.slice a3 n3 c3) ∧ w'.cell? ⟨w.heap.size + 1, 2, none⟩ = some (.slice a4 n4 c4))
    (first | go_keep | (refine ⟨?_, ?_, ?_, ?_, ?_, ?_⟩ <;> (rw [Ext.cell _ _ (by first | (simp; done) | (simp; omega) | omega)]; simp [*]; done)))
    (first
      | (go_at_call 69; (with_reducible refine Calls.mono (C1.out _ ?_) ?_); (focus (repeat first | with_reducible exact Below.refl _ _ | with_reducible refine Below.setCell ?_ (by first | omega | (simp; done) | (simp; omega)) _ | with_reducible refine Below.alloc ?_ (by first | omega | (simp; done) | (simp; omega)) _ | with_reducible refine Below.drew ?_ | with_reducible refine Ext.on _ ?_ (by first | omega | (simp; done) | (simp; omega)))); rintro e _ ⟨sx, rfl, hx, ⟨yx, rfl⟩⟩; have yxs := yx.size; (try simp at yxs); have yxa : w.heap.size < yx.val.heap.size := (by omega); have yxb : w.heap.size + 1 < yx.val.heap.size := (by omega); have yxc : w.heap.size + 1 + 1 < yx.val.heap.size := (by omega))
      | (go_at_call 69; (with_reducible refine Calls.mono (C2.out _ ?_) ?_); (focus (repeat first | with_reducible exact Below.refl _ _ | with_reducible refine Below.setCell ?_ (by first | omega | (simp; done) | (simp; omega)) _ | with_reducible refine Below.alloc ?_ (by first | omega | (simp; done) | (simp; omega)) _ | with_reducible refine Below.drew ?_ | with_reducible refine Ext.on _ ?_ (by first | omega | (simp; done) | (simp; omega)))); rintro e _ ⟨sy, rfl, hy, ⟨yy, rfl⟩⟩; have yys := yy.size; (try simp at yys); have yya : w.heap.size < yy.val.heap.size := (by omega); have yyb : w.heap.size + 1 < yy.val.heap.size := (by omega); have yyc : w.heap.size + 1 + 1 < yy.val.heap.size := (by omega)))
  go_wp2_with (first | (go_at_call 69; (with_reducible refine Calls.mono (C3.out _ ?_) ?_); (focus (repeat first | with_reducible exact Below.refl _ _ | with_reducible refine Below.setCell ?_ (by first | omega | (simp; done) | (simp; omega)) _ | with_reducible refine Below.alloc ?_ (by first | omega | (simp; done) | (simp; omega)) _ | with_reducible refine Below.drew ?_ | with_reducible refine Ext.on _ ?_ (by first | omega | (simp; done) | (simp; omega)))); rintro e _ ⟨sd, rfl, hd, ⟨yd, rfl⟩⟩; have yds := yd.size; (try simp at yds); have yda : w.heap.size < yd.val.heap.size := (by omega); have ydb : w.heap.size + 1 < yd.val.heap.size := (by omega); have ydc : w.heap.size + 1 + 1 < yd.val.heap.size := (by omega)) | (go_at_call 71; have G := Lib.hid (fun W hb1 hb2 => compare_calls sx.a sx.len sx.cap sy.a sy.len sy.cap x y W (hx.later hb1) (hy.later hb2)); (with_reducible refine Calls.mono (G.out _ ?_ ?_) ?_); (focus (repeat first | with_reducible exact Below.refl _ _ | with_reducible refine Below.setCell ?_ (by first | omega | (simp; done) | (simp; omega)) _ | with_reducible refine Below.alloc ?_ (by first | omega | (simp; done) | (simp; omega)) _ | with_reducible refine Below.drew ?_ | with_reducible refine Ext.on _ ?_ (by first | omega | (simp; done) | (simp; omega)))); (focus (repeat first | with_reducible exact Below.refl _ _ | with_reducible refine Below.setCell ?_ (by first | omega | (simp; done) | (simp; omega)) _ | with_reducible refine Below.alloc ?_ (by first | omega | (simp; done) | (simp; omega)) _ | with_reducible refine Below.drew ?_ | with_reducible refine Ext.on _ ?_ (by first | omega | (simp; done) | (simp; omega)))); rintro e _ ⟨rfl, ⟨yc, rfl⟩⟩; have ycs := yc.size; (try simp at ycs); have yca : w.heap.size < yc.val.heap.size := (by omega); have ycb : w.heap.size + 1 < yc.val.heap.size := (by omega); have ycc : w.heap.size + 1 + 1 < yc.val.heap.size := (by omega); clear G))
  have hz : yc.val.cell? ⟨w.heap.size + 1, 0, none⟩ = some (.bool b2) := by
    iterate 2 (rw [Ext.cell _ _ (by first | (simp; done) | (simp; omega) | omega)])
    simp [*]
  go_region_held3 (fun w' => w'.cell? ⟨w.heap.size + 1, 0, none⟩ = some (.bool b2))
    (first | go_keep | (simp [hz]; done) | (refine (cell_after3 _ _ _ _ _ _ ?_).trans ?_; (focus (dsimp only; omega)); (simp [*]; done)) | (rw [Ext.cell _ _ (by first | (simp; done) | (simp; omega) | omega)]; simp [*]; done))
    (first
      | (go_at_call 72; have G := Lib.hid (fun W hb1 hb2 => minus_calls sy.a sy.len sy.cap sx.a sx.len sx.cap _ _ W (hy.later hb1) (hx.later hb2) (LY1.out _ _ hy) HXY.out); (with_reducible refine Calls.mono (G.out _ ?_ ?_) ?_); (focus (repeat first | with_reducible exact Below.refl _ _ | with_reducible refine Below.setCell ?_ (by first | omega | (simp; done) | (simp; omega)) _ | with_reducible refine Below.alloc ?_ (by first | omega | (simp; done) | (simp; omega)) _ | with_reducible refine Below.drew ?_ | with_reducible refine Ext.on _ ?_ (by first | omega | (simp; done) | (simp; omega)))); (focus (repeat first | with_reducible exact Below.refl _ _ | with_reducible refine Below.setCell ?_ (by first | omega | (simp; done) | (simp; omega)) _ | with_reducible refine Below.alloc ?_ (by first | omega | (simp; done) | (simp; omega)) _ | with_reducible refine Below.drew ?_ | with_reducible refine Ext.on _ ?_ (by first | omega | (simp; done) | (simp; omega)))); rintro e _ ⟨sp, rfl, hp, ⟨yp, rfl⟩⟩; have yps := yp.size; (try simp at yps); have ypa : w.heap.size < yp.val.heap.size := (by omega); have ypb : w.heap.size + 1 < yp.val.heap.size := (by omega); have ypc : w.heap.size + 1 + 1 < yp.val.heap.size := (by omega); clear G)
      | (go_at_call 68; have G := Lib.hid (fun W hb1 hb2 => lowest_calls b2 sp.a sp.len sp.cap sd.a sd.len sd.cap _ _ W (hp.later hb1) (hd.later hb2) (LS.out _ _ hp) (LD.out _ _ hd) HD0.out); rw [EE.out] at G; (with_reducible refine Calls.mono (G.out _ ?_ ?_) ?_); (focus (repeat first | with_reducible exact Below.refl _ _ | with_reducible refine Below.setCell ?_ (by first | omega | (simp; done) | (simp; omega)) _ | with_reducible refine Below.alloc ?_ (by first | omega | (simp; done) | (simp; omega)) _ | with_reducible refine Below.drew ?_ | with_reducible refine Ext.on _ ?_ (by first | omega | (simp; done) | (simp; omega)))); (focus (repeat first | with_reducible exact Below.refl _ _ | with_reducible refine Below.setCell ?_ (by first | omega | (simp; done) | (simp; omega)) _ | with_reducible refine Below.alloc ?_ (by first | omega | (simp; done) | (simp; omega)) _ | with_reducible refine Below.drew ?_ | with_reducible refine Ext.on _ ?_ (by first | omega | (simp; done) | (simp; omega)))); rintro e _ ⟨sn, st, rfl, hn, ht, ⟨yl, rfl⟩⟩; have yls := yl.size; (try simp at yls); have yla : w.heap.size < yl.val.heap.size := (by omega); have ylb : w.heap.size + 1 < yl.val.heap.size := (by omega); have ylc : w.heap.size + 1 + 1 < yl.val.heap.size := (by omega); have T0 : yx.val.heap[w.heap.size + 1 + 1]? = some (Obj.cells #[.bool false, .slice none 0 0, .slice none 0 0] 67) := (yx.below.block (w.heap.size + 1 + 1) (by simp)).trans (new_at2d w _ _ _ _); have T1 : yy.val.heap[w.heap.size + 1 + 1]? = some (Obj.cells #[.bool false, .slice none 0 0, .slice none 0 0] 67) := (yy.below.block (w.heap.size + 1 + 1) (by first | omega | (simp; omega))).trans T0; have T2 : yd.val.heap[w.heap.size + 1 + 1]? = some (Obj.cells #[.bool false, .slice none 0 0, .slice none 0 0] 67) := (yd.below.block (w.heap.size + 1 + 1) (by first | omega | (simp; omega))).trans T1; have T3 : yc.val.heap[w.heap.size + 1 + 1]? = some (Obj.cells #[.bool false, .slice none 0 0, .slice none 0 0] 67) := (yc.below.block (w.heap.size + 1 + 1) (by first | omega | (simp; omega))).trans T2; have T4 : yp.val.heap[w.heap.size + 1 + 1]? = some (Obj.cells #[.bool false, .slice none 0 0, .slice none 0 0] 67) := (yp.below.block (w.heap.size + 1 + 1) (by first | omega | (simp; omega))).trans T3; have T5 : yl.val.heap[w.heap.size + 1 + 1]? = some (Obj.cells #[.bool false, .slice none 0 0, .slice none 0 0] 67) := (yl.below.block (w.heap.size + 1 + 1) (by first | omega | (simp; omega))).trans T4; have HT := Lib.hid T5; obtain ⟨k0, k1, k2, k3, k4, k5, k6⟩ := three_b HT.out; clear G))
  have HB : Below w.heap.size w yl.val := by repeat first | with_reducible exact Below.refl _ _ | with_reducible refine Below.setCell ?_ (by first | omega | (simp; done) | (simp; omega)) _ | with_reducible refine Below.alloc ?_ (by first | omega | (simp; done) | (simp; omega)) _ | with_reducible refine Below.drew ?_ | with_reducible refine Ext.on _ ?_ (by first | omega | (simp; done) | (simp; omega))
  go_wp2
  refine ret_ex rfl ?_
  simp [results, Try.results41, go_sem, k4, k5, k6]
  refine ⟨sn, st, by simp, NumAt.store3 hn HT.out _ _ _, NumAt.store3 ht HT.out _ _ _, Cls.of (below3 HB (by omega) _ _ _)⟩
end Go.Proofs.Ythbdkhmgopahbaa
