/-
  The reference's fractions of any size: products.
-/
import Derived.Test.YtogjollefllajaaFBig5
set_option linter.unusedVariables false
namespace Go.Proofs.Ytogjollefllajaa
open Go Go.RowKit Go.Deep
set_option maxHeartbeats 16000000 in
set_option maxRecDepth 20000 in
theorem rTimes_way (b1 b2 : Bool) (a1 : Option Addr) (n1 c1 : Nat) (a2 : Option Addr) (n2 c2 : Nat) (a3 : Option Addr) (n3 c3 : Nat) (a4 : Option Addr) (n4 c4 : Nat) (m1 d1 m2 d2 : Nat) (N : Int) (D : Nat) (w : World) (h1 : NumAt w ⟨a1, n1, c1⟩ m1) (h2 : NumAt w ⟨a2, n2, c2⟩ d1) (h3 : NumAt w ⟨a3, n3, c3⟩ m2) (h4 : NumAt w ⟨a4, n4, c4⟩ d2)
    (k1 : m1 < 1000000000 ^ 100) (k2 : d1 < 1000000000 ^ 100) (k3 : m2 < 1000000000 ^ 100) (k4 : d2 < 1000000000 ^ 100) (hD : d1 * d2 = D) (hD0 : 0 < D) (ee : sg (!(b1 == b2)) (m1 * m2) = N) :
    Calls Try.prog 33 #[.agg #[.bool b1, .slice a1 n1 c1, .slice a2 n2 c2], .agg #[.bool b2, .slice a3 n3 c3, .slice a4 n4 c4]] w fun e w' => ∃ s t : Sl, e = .returned (.agg #[.bool (decide (frI N D < 0)), .slice s.a s.len s.cap, .slice t.a t.len t.cap]) ∧ NumAt w' s (frI N D).natAbs ∧ NumAt w' t (frd N D) ∧ Cls w w' := by
  have l1 : n1 ≤ 500 := lt_len h1 k1 (by omega)
  have l2 : n2 ≤ 500 := lt_len h2 k2 (by omega)
  have l3 : n3 ≤ 500 := lt_len h3 k3 (by omega)
  have l4 : n4 ≤ 500 := lt_len h4 k4 (by omega)
  have X1 := mul_lt_pow k1 k3
  have X3 := mul_lt_pow k2 k4
  rw [hD] at X3
  have C1 := Lib.hid (fun (W : World) (hb : Below w.heap.size w W) => mul_calls a1 n1 c1 a3 n3 c3 m1 m2 W (h1.later hb) (h3.later hb) l1 l3)
  have C2 := Lib.hid (fun (W : World) (hb : Below w.heap.size w W) => mul_calls a2 n2 c2 a4 n4 c4 d1 d2 W (h2.later hb) (h4.later hb) l2 l4)
  rw [hD] at C2
  have EE := Lib.hid ee
  have HD0 := Lib.hid hD0
  clear ee h1 h2 h3 h4 k1 k2 k3 k4 l1 l2 l3 l4 hD hD0
  generalize m1 * m2 = x at *
  have LX : Hid (∀ (s : Sl) (W : World), NumAt W s x → s.len ≤ 500) := Lib.hid fun s W h => lt_len h X1 (by omega)
  have LD : Hid (∀ (s : Sl) (W : World), NumAt W s D → s.len ≤ 500) := Lib.hid fun s W h => lt_len h X3 (by omega)
  clear X1 X3
  go_enter Try.func33, Try.ntmps33
  go_wp2_with fail
  go_region_held3 (fun w' => w'.cell? ⟨w.heap.size, 0, none⟩ = some (.bool b1) ∧ w'.cell? ⟨w.heap.size, 1, none⟩ = some (.slice a1 n1 c1) ∧ w'.cell? ⟨w.heap.size, 2, none⟩ = some (.slice a2 n2 c2) ∧ w'.cell? ⟨w.heap.size + 1, 0, none⟩ = some (.bool b2) ∧ w'.cell? ⟨w.heap.size + 1, 1, none⟩ = some (.slice a3 n3 c3) ∧ w'.cell? ⟨w.heap.size + 1, 2, none⟩ = some (.slice a4 n4 c4))
    (first | (simp only [cell_a30, cell_a31]; assumption) | (go_keep; done) | (refine ⟨?_, ?_, ?_, ?_, ?_, ?_⟩ <;> (rw [Ext.cell _ _ (by first | (simp; done) | (simp; omega) | omega)]; simp [*]; done)))
    (first
      | (go_at_call 57; (with_reducible refine Calls.mono (C1.out _ ?_) ?_); (focus (repeat first | with_reducible exact Below.refl _ _ | with_reducible refine Below.setCell ?_ (by first | omega | (simp; done) | (simp; omega)) _ | with_reducible refine Below.alloc ?_ (by first | omega | (simp; done) | (simp; omega)) _ | with_reducible refine Below.drew ?_ | with_reducible refine Ext.on _ ?_ (by first | omega | (simp; done) | (simp; omega)))); rintro e _ ⟨sx, rfl, hx, ⟨yx, rfl⟩⟩; have yxs := yx.size; (try simp at yxs); have yxa : w.heap.size < yx.val.heap.size := (by omega); have yxb : w.heap.size + 1 < yx.val.heap.size := (by omega); have yxc : w.heap.size + 1 + 1 < yx.val.heap.size := (by omega))
      | (go_at_call 57; (with_reducible refine Calls.mono (C2.out _ ?_) ?_); (focus (repeat first | with_reducible exact Below.refl _ _ | with_reducible refine Below.setCell ?_ (by first | omega | (simp; done) | (simp; omega)) _ | with_reducible refine Below.alloc ?_ (by first | omega | (simp; done) | (simp; omega)) _ | with_reducible refine Below.drew ?_ | with_reducible refine Ext.on _ ?_ (by first | omega | (simp; done) | (simp; omega)))); rintro e _ ⟨sy, rfl, hy, ⟨yy, rfl⟩⟩; have yys := yy.size; (try simp at yys); have yya : w.heap.size < yy.val.heap.size := (by omega); have yyb : w.heap.size + 1 < yy.val.heap.size := (by omega); have yyc : w.heap.size + 1 + 1 < yy.val.heap.size := (by omega))
      | (go_at_call 58; have G := Lib.hid (fun W hb1 hb2 => lowest_calls (!(b1 == b2)) sx.a sx.len sx.cap sy.a sy.len sy.cap _ _ W (hx.later hb1) (hy.later hb2) (LX.out _ _ hx) (LD.out _ _ hy) HD0.out); rw [EE.out] at G; (with_reducible refine Calls.mono (G.out _ ?_ ?_) ?_); (focus (repeat first | with_reducible exact Below.refl _ _ | with_reducible refine Below.setCell ?_ (by first | omega | (simp; done) | (simp; omega)) _ | with_reducible refine Below.alloc ?_ (by first | omega | (simp; done) | (simp; omega)) _ | with_reducible refine Below.drew ?_ | with_reducible refine Ext.on _ ?_ (by first | omega | (simp; done) | (simp; omega)))); (focus (repeat first | with_reducible exact Below.refl _ _ | with_reducible refine Below.setCell ?_ (by first | omega | (simp; done) | (simp; omega)) _ | with_reducible refine Below.alloc ?_ (by first | omega | (simp; done) | (simp; omega)) _ | with_reducible refine Below.drew ?_ | with_reducible refine Ext.on _ ?_ (by first | omega | (simp; done) | (simp; omega)))); rintro e _ ⟨sn, st, rfl, hn, ht, ⟨yl, rfl⟩⟩; have yls := yl.size; (try simp at yls); have yla : w.heap.size < yl.val.heap.size := (by omega); have ylb : w.heap.size + 1 < yl.val.heap.size := (by omega); have ylc : w.heap.size + 1 + 1 < yl.val.heap.size := (by omega); have T0 : yx.val.heap[w.heap.size + 1 + 1]? = some (Obj.cells #[.bool false, .slice none 0 0, .slice none 0 0] 62) := (yx.below.block (w.heap.size + 1 + 1) (by simp)).trans (new_at2d w _ _ _ _); have T1 : yy.val.heap[w.heap.size + 1 + 1]? = some (Obj.cells #[.bool false, .slice none 0 0, .slice none 0 0] 62) := (yy.below.block (w.heap.size + 1 + 1) (by first | omega | (simp; omega))).trans T0; have T2 : yl.val.heap[w.heap.size + 1 + 1]? = some (Obj.cells #[.bool false, .slice none 0 0, .slice none 0 0] 62) := (yl.below.block (w.heap.size + 1 + 1) (by first | omega | (simp; omega))).trans T1; have HT := Lib.hid T2; obtain ⟨k0, k1, k2, k3, k4, k5, k6⟩ := three_b HT.out; clear G))
  have HB : Below w.heap.size w yl.val := by repeat first | with_reducible exact Below.refl _ _ | with_reducible refine Below.setCell ?_ (by first | omega | (simp; done) | (simp; omega)) _ | with_reducible refine Below.alloc ?_ (by first | omega | (simp; done) | (simp; omega)) _ | with_reducible refine Below.drew ?_ | with_reducible refine Ext.on _ ?_ (by first | omega | (simp; done) | (simp; omega))
  go_wp2
  refine ret_ex rfl ?_
  simp [results, Try.results33, go_sem, k4, k5, k6]
  refine ⟨sn, st, by simp, NumAt.store3 hn HT.out _ _ _, NumAt.store3 ht HT.out _ _ _, Cls.of (below3 HB (by omega) _ _ _)⟩
theorem Times_calls (N1 N2 : Int) (D1 D2 : Nat) (a1 : Option Addr) (n1 c1 : Nat) (a2 : Option Addr) (n2 c2 : Nat) (a3 : Option Addr) (n3 c3 : Nat) (a4 : Option Addr) (n4 c4 : Nat) (w : World) (h1 : NumAt w ⟨a1, n1, c1⟩ N1.natAbs) (h2 : NumAt w ⟨a2, n2, c2⟩ D1) (h3 : NumAt w ⟨a3, n3, c3⟩ N2.natAbs) (h4 : NumAt w ⟨a4, n4, c4⟩ D2)
    (k1 : N1.natAbs < 1000000000 ^ 100) (k2 : D1 < 1000000000 ^ 100) (k3 : N2.natAbs < 1000000000 ^ 100) (k4 : D2 < 1000000000 ^ 100) (hD0 : 0 < D1 * D2) :
    Calls Try.prog 33 #[.agg #[.bool (decide (N1 < 0)), .slice a1 n1 c1, .slice a2 n2 c2], .agg #[.bool (decide (N2 < 0)), .slice a3 n3 c3, .slice a4 n4 c4]] w (RBig w (N1 * N2) (D1 * D2)) :=
  rTimes_way _ _ a1 n1 c1 a2 n2 c2 a3 n3 c3 a4 n4 c4 N1.natAbs D1 N2.natAbs D2 _ _ w h1 h2 h3 h4 k1 k2 k3 k4 rfl hD0 (sg_mul N1 N2)
end Go.Proofs.Ytogjollefllajaa
