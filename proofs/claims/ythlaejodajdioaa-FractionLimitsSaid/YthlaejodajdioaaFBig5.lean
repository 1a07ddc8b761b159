/-
  The reference's fractions of any size: products, and the other sign.
-/
import Derived.Test.YthlaejodajdioaaFBig4
set_option linter.unusedVariables false
namespace Go.Proofs.Ythlaejodajdioaa
open Go Go.RowKit Go.Deep
theorem new_at1d (w : World) (o : Obj) (cs : Array Value) (t : TypeId) : ((w.alloc o).alloc (.cells cs t)).heap[w.heap.size + 1]? = some (.cells cs t) := by
  have := heap_alloc_new (w.alloc o) (.cells cs t)
  simpa using this
theorem cell_a30 (W : World) (b off : Nat) (v0 v1 v2 : Value) : (((W.setCell ⟨b + 1 + 1, 0, none⟩ v0).setCell ⟨b + 1 + 1, 1, none⟩ v1).setCell ⟨b + 1 + 1, 2, none⟩ v2).cell? ⟨b, off, none⟩ = W.cell? ⟨b, off, none⟩ := cell_after3 _ _ _ _ _ _ (by show b ≠ b + 1 + 1; omega)
theorem cell_a31 (W : World) (b off : Nat) (v0 v1 v2 : Value) : (((W.setCell ⟨b + 1 + 1, 0, none⟩ v0).setCell ⟨b + 1 + 1, 1, none⟩ v1).setCell ⟨b + 1 + 1, 2, none⟩ v2).cell? ⟨b + 1, off, none⟩ = W.cell? ⟨b + 1, off, none⟩ := cell_after3 _ _ _ _ _ _ (by show b + 1 ≠ b + 1 + 1; omega)
set_option maxHeartbeats 16000000 in
set_option maxRecDepth 20000 in
theorem rTimes_way (b1 b2 : Bool) (a1 : Option Addr) (n1 c1 : Nat) (a2 : Option Addr) (n2 c2 : Nat) (a3 : Option Addr) (n3 c3 : Nat) (a4 : Option Addr) (n4 c4 : Nat) (m1 d1 m2 d2 : Nat) (N : Int) (D : Nat) (w : World) (h1 : NumAt w ⟨a1, n1, c1⟩ m1) (h2 : NumAt w ⟨a2, n2, c2⟩ d1) (h3 : NumAt w ⟨a3, n3, c3⟩ m2) (h4 : NumAt w ⟨a4, n4, c4⟩ d2)
    (k1 : m1 < 1000000000 ^ 3) (k2 : d1 < 1000000000 ^ 3) (k3 : m2 < 1000000000 ^ 3) (k4 : d2 < 1000000000 ^ 3) (hD : d1 * d2 = D) (hD0 : 0 < D) (ee : sg (!(b1 == b2)) (m1 * m2) = N) :
    Calls Try.prog 35 #[.agg #[.bool b1, .slice a1 n1 c1, .slice a2 n2 c2], .agg #[.bool b2, .slice a3 n3 c3, .slice a4 n4 c4]] w fun e w' => ∃ s t : Sl, e = .returned (.agg #[.bool (decide (frI N D < 0)), .slice s.a s.len s.cap, .slice t.a t.len t.cap]) ∧ NumAt w' s (frI N D).natAbs ∧ NumAt w' t (frd N D) ∧ Cls w w' := by
  have l1 : n1 ≤ 500 := lt_len h1 k1 (by omega)
  have l2 : n2 ≤ 500 := lt_len h2 k2 (by omega)
  have l3 : n3 ≤ 500 := lt_len h3 k3 (by omega)
  have l4 : n4 ≤ 500 := lt_len h4 k4 (by omega)
  have X1 := mul_lt_pow k1 k3
  have X3 := mul_lt_pow k2 k4
  rw [hD] at X3
  have C1 := Lib.hid (fun (W : World) (hb : Below w.heap.size w W) => mul_calls a1 n1 c1 a3 n3 c3 m1 m2 W (h1.later hb) (h3.later hb) l1 l3)
  have C2 := Lib.hid (fun (W : World) (hb : Below w.heap.size w W) => mul_calls a2 n2 c2 a4 n4 c4 d1 d2 W (h2.later hb) (h4.later hb) l2 l4)
  rw [hD] at C2
  have EE := Lib.hid ee
  have HD0 := Lib.hid hD0
  clear ee h1 h2 h3 h4 k1 k2 k3 k4 l1 l2 l3 l4 hD hD0
  generalize m1 * m2 = x at *
  have LX : Hid (∀ (s : Sl) (W : World), NumAt W s x → s.len ≤ 500) := Lib.hid fun s W h => lt_len h X1 (by omega)
  have LD : Hid (∀ (s : Sl) (W : World), NumAt W s D → s.len ≤ 500) := Lib.hid fun s W h => lt_len h X3 (by omega)
  clear X1 X3
  go_enter Try.func35, Try.ntmps35
  go_wp2_with fail
  go_region_held3 (fun w' => w'.cell? ⟨w.heap.size, 0, none⟩ = some (.bool b1) ∧ w'.cell? ⟨w.heap.size, 1, none⟩ = some (.slice a1 n1 c1) ∧ w'.cell? ⟨w.heap.size, 2, none⟩ = some (.slice a2 n2 c2) ∧ w'.cell? ⟨w.heap.size + 1, 0, none⟩ = some (.bool b2) ∧ w'.cell? ⟨w.heap.size + 1, 1, none⟩ = some (.slice a3 n3 c3) ∧ w'.cell? ⟨w.heap.size + 1, 2, none⟩ = some (.slice a4 n4 c4))
    (first | (simp only [cell_a30, cell_a31]; assumption) | (go_keep; done) | (refine ⟨?_, ?_, ?_, ?_, ?_, ?_⟩ <;> (rw [Ext.cell _ _ (by first | (simp; done) | (simp; omega) | omega)]; simp [*]; done)))
    (first
      | (go_at_call 39; (with_reducible refine Calls.mono (C1.out _ ?_) ?_); (focus (repeat first | with_reducible exact Below.refl _ _ | with_reducible refine Below.setCell ?_ (by first | omega | (simp; done) | (simp; omega)) _ | with_reducible refine Below.alloc ?_ (by first | omega | (simp; done) | (simp; omega)) _ | with_reducible refine Below.drew ?_ | with_reducible refine Ext.on _ ?_ (by first | omega | (simp; done) | (simp; omega)))); rintro e _ ⟨sx, rfl, hx, ⟨yx, rfl⟩⟩; have yxs := yx.size; (try simp at yxs); have yxa : w.heap.size < yx.val.heap.size := (by omega); have yxb : w.heap.size + 1 < yx.val.heap.size := (by omega); have yxc : w.heap.size + 1 + 1 < yx.val.heap.size := (by omega))
      | (go_at_call 39; (with_reducible refine Calls.mono (C2.out _ ?_) ?_); (focus (repeat first | with_reducible exact Below.refl _ _ | with_reducible refine Below.setCell ?_ (by first | omega | (simp; done) | (simp; omega)) _ | with_reducible refine Below.alloc ?_ (by first | omega | (simp; done) | (simp; omega)) _ | with_reducible refine Below.drew ?_ | with_reducible refine Ext.on _ ?_ (by first | omega | (simp; done) | (simp; omega)))); rintro e _ ⟨sy, rfl, hy, ⟨yy, rfl⟩⟩; have yys := yy.size; (try simp at yys); have yya : w.heap.size < yy.val.heap.size := (by omega); have yyb : w.heap.size + 1 < yy.val.heap.size := (by omega); have yyc : w.heap.size + 1 + 1 < yy.val.heap.size := (by omega))
      | (go_at_call 38; have G := Lib.hid (fun W hb1 hb2 => lowest_calls (!(b1 == b2)) sx.a sx.len sx.cap sy.a sy.len sy.cap _ _ W (hx.later hb1) (hy.later hb2) (LX.out _ _ hx) (LD.out _ _ hy) HD0.out); rw [EE.out] at G; (with_reducible refine Calls.mono (G.out _ ?_ ?_) ?_); (focus (repeat first | with_reducible exact Below.refl _ _ | with_reducible refine Below.setCell ?_ (by first | omega | (simp; done) | (simp; omega)) _ | with_reducible refine Below.alloc ?_ (by first | omega | (simp; done) | (simp; omega)) _ | with_reducible refine Below.drew ?_ | with_reducible refine Ext.on _ ?_ (by first | omega | (simp; done) | (simp; omega)))); (focus (repeat first | with_reducible exact Below.refl _ _ | with_reducible refine Below.setCell ?_ (by first | omega | (simp; done) | (simp; omega)) _ | with_reducible refine Below.alloc ?_ (by first | omega | (simp; done) | (simp; omega)) _ | with_reducible refine Below.drew ?_ | with_reducible refine Ext.on _ ?_ (by first | omega | (simp; done) | (simp; omega)))); rintro e _ ⟨sn, st, rfl, hn, ht, ⟨yl, rfl⟩⟩; have yls := yl.size; (try simp at yls); have yla : w.heap.size < yl.val.heap.size := (by omega); have ylb : w.heap.size + 1 < yl.val.heap.size := (by omega); have ylc : w.heap.size + 1 + 1 < yl.val.heap.size := (by omega); have T0 : yx.val.heap[w.heap.size + 1 + 1]? = some (Obj.cells #[.bool false, .slice none 0 0, .slice none 0 0] 48) := (yx.below.block (w.heap.size + 1 + 1) (by simp)).trans (new_at2d w _ _ _ _); have T1 : yy.val.heap[w.heap.size + 1 + 1]? = some (Obj.cells #[.bool false, .slice none 0 0, .slice none 0 0] 48) := (yy.below.block (w.heap.size + 1 + 1) (by first | omega | (simp; omega))).trans T0; have T2 : yl.val.heap[w.heap.size + 1 + 1]? = some (Obj.cells #[.bool false, .slice none 0 0, .slice none 0 0] 48) := (yl.below.block (w.heap.size + 1 + 1) (by first | omega | (simp; omega))).trans T1; have HT := Lib.hid T2; obtain ⟨k0, k1, k2, k3, k4, k5, k6⟩ := three_b HT.out; clear G))
  have HB : Below w.heap.size w yl.val := by repeat first | with_reducible exact Below.refl _ _ | with_reducible refine Below.setCell ?_ (by first | omega | (simp; done) | (simp; omega)) _ | with_reducible refine Below.alloc ?_ (by first | omega | (simp; done) | (simp; omega)) _ | with_reducible refine Below.drew ?_ | with_reducible refine Ext.on _ ?_ (by first | omega | (simp; done) | (simp; omega))
  go_wp2
  refine ret_ex rfl ?_
  simp [results, Try.results35, go_sem, k4, k5, k6]
  refine ⟨sn, st, by simp, NumAt.store3 hn HT.out _ _ _, NumAt.store3 ht HT.out _ _ _, Cls.of (below3 HB (by omega) _ _ _)⟩
theorem Turned_calls (N : Int) (a : Option Addr) (n c : Nat) (a' : Option Addr) (n' c' : Nat) (w : World) (h : NumAt w ⟨a, n, c⟩ N.natAbs) :
    Calls Try.prog 33 #[.agg #[.bool (decide (N < 0)), .slice a n c, .slice a' n' c']] w fun e w' => e = .returned (.agg #[.bool (decide (-N < 0)), .slice a n c, .slice a' n' c']) ∧ Cls w w' := by
  have hl : n = (digs N.natAbs).length := h.1
  have h0 : (0 < n ↔ N ≠ 0) := by
    rw [hl]
    constructor
    · intro hp hN
      rw [hN] at hp
      simp [digs_zero] at hp
    · intro hN
      exact digs_len_pos (by omega)
  obtain ⟨g, hg⟩ : ∃ g, decide (N < 0) = g := ⟨_, rfl⟩
  obtain ⟨r, hr⟩ : ∃ r, decide (-N < 0) = r := ⟨_, rfl⟩
  have hgr : r = (decide ((0 : Int) < n) && !g) := by
    rw [← hg, ← hr, Bool.eq_iff_iff]
    simp
    omega
  rw [hg, hr, hgr]
  clear h h0 hl hg hr hgr
  by_cases hn : (0 : Int) < n
  · have hd : decide ((0 : Int) < n) = true := decide_eq_true hn
    go_enter Try.func33, Try.ntmps33
    go_wp2_with fail
    refine ret_ex rfl ?_
    simp [results, Try.results33, go_sem]
    first | refine ⟨fun _ => (by omega), Cls.of ?_⟩ | refine Cls.of ?_
    repeat first | with_reducible exact Below.refl _ _ | with_reducible refine Below.setCell ?_ (by first | omega | (simp; done) | (simp; omega)) _ | with_reducible refine Below.alloc ?_ (by first | omega | (simp; done) | (simp; omega)) _ | with_reducible refine Below.drew ?_ | with_reducible refine Ext.on _ ?_ (by first | omega | (simp; done) | (simp; omega))
  · have hd : decide ((0 : Int) < n) = false := decide_eq_false hn
    go_enter Try.func33, Try.ntmps33
    go_wp2_with fail
    refine ret_ex rfl ?_
    simp [results, Try.results33, go_sem]
    first | refine ⟨fun _ => (by omega), Cls.of ?_⟩ | refine Cls.of ?_
    repeat first | with_reducible exact Below.refl _ _ | with_reducible refine Below.setCell ?_ (by first | omega | (simp; done) | (simp; omega)) _ | with_reducible refine Below.alloc ?_ (by first | omega | (simp; done) | (simp; omega)) _ | with_reducible refine Below.drew ?_ | with_reducible refine Ext.on _ ?_ (by first | omega | (simp; done) | (simp; omega))
theorem sg_mul (N1 N2 : Int) : sg (decide (N1 < 0) != decide (N2 < 0)) (N1.natAbs * N2.natAbs) = N1 * N2 := by
  have e : ((N1.natAbs * N2.natAbs : Nat) : Int) = (N1.natAbs : Int) * N2.natAbs := Int.natCast_mul _ _
  by_cases h1 : N1 < 0 <;> by_cases h2 : N2 < 0
  · rw [decide_eq_true h1, decide_eq_true h2]; simp only [sg, bne_self_eq_false, Bool.false_eq_true, if_false]
    rw [e, show ((N1.natAbs : Nat) : Int) = -N1 by omega, show ((N2.natAbs : Nat) : Int) = -N2 by omega, Int.neg_mul_neg]
  · rw [decide_eq_true h1, decide_eq_false h2]; simp only [sg, Bool.true_bne, Bool.not_false, if_true]
    rw [e, show ((N1.natAbs : Nat) : Int) = -N1 by omega, show ((N2.natAbs : Nat) : Int) = N2 by omega, Int.neg_mul, Int.neg_neg]
  · rw [decide_eq_false h1, decide_eq_true h2]; simp only [sg, Bool.false_bne, if_true]
    rw [e, show ((N1.natAbs : Nat) : Int) = N1 by omega, show ((N2.natAbs : Nat) : Int) = -N2 by omega, Int.mul_neg, Int.neg_neg]
  · rw [decide_eq_false h1, decide_eq_false h2]; simp only [sg, bne_self_eq_false, Bool.false_eq_true, if_false]
    rw [e, show ((N1.natAbs : Nat) : Int) = N1 by omega, show ((N2.natAbs : Nat) : Int) = N2 by omega]
theorem sg_div (an bd bn : Int) (h : 0 < bd) : sg (decide (an < 0) != decide (bn < 0)) (an.natAbs * bd.natAbs) = an * (if bn < 0 then -bd else bd) := by
  have := sg_mul an (if bn < 0 then -bd else bd)
  have e1 : decide ((if bn < 0 then -bd else bd) < 0) = decide (bn < 0) := by
    by_cases hb : bn < 0
    · rw [if_pos hb, decide_eq_true hb]; exact decide_eq_true (by omega)
    · rw [if_neg hb, decide_eq_false hb]; exact decide_eq_false (by omega)
  have e2 : (if bn < 0 then -bd else bd).natAbs = bd.natAbs := by split <;> simp
  rwa [e1, e2] at this
def RBig (w : World) (N : Int) (D : Nat) (e : Ending) (w' : World) : Prop := ∃ s t : Sl, e = .returned (.agg #[.bool (decide (frI N D < 0)), .slice s.a s.len s.cap, .slice t.a t.len t.cap]) ∧ NumAt w' s (frI N D).natAbs ∧ NumAt w' t (frd N D) ∧ Cls w w'
theorem Plus_calls (N1 N2 : Int) (D1 D2 : Nat) (a1 : Option Addr) (n1 c1 : Nat) (a2 : Option Addr) (n2 c2 : Nat) (a3 : Option Addr) (n3 c3 : Nat) (a4 : Option Addr) (n4 c4 : Nat) (w : World) (h1 : NumAt w ⟨a1, n1, c1⟩ N1.natAbs) (h2 : NumAt w ⟨a2, n2, c2⟩ D1) (h3 : NumAt w ⟨a3, n3, c3⟩ N2.natAbs) (h4 : NumAt w ⟨a4, n4, c4⟩ D2)
    (k1 : N1.natAbs < 1000000000 ^ 3) (k2 : D1 < 1000000000 ^ 3) (k3 : N2.natAbs < 1000000000 ^ 3) (k4 : D2 < 1000000000 ^ 3) (hD0 : 0 < D1 * D2) :
    Calls Try.prog 24 #[.agg #[.bool (decide (N1 < 0)), .slice a1 n1 c1, .slice a2 n2 c2], .agg #[.bool (decide (N2 < 0)), .slice a3 n3 c3, .slice a4 n4 c4]] w (RBig w (N1 * D2 + N2 * D1) (D1 * D2)) := by
  obtain ⟨p1, p2, p3⟩ := plus_ways N1 N2 D1 D2
  by_cases hb : decide (N1 < 0) = decide (N2 < 0)
  · exact rPlus_same _ _ a1 n1 c1 a2 n2 c2 a3 n3 c3 a4 n4 c4 N1.natAbs D1 N2.natAbs D2 _ _ w h1 h2 h3 h4 k1 k2 k3 k4 rfl hD0 hb (p1 hb)
  · by_cases hx : N2.natAbs * D1 ≤ N1.natAbs * D2
    · exact rPlus_more _ _ a1 n1 c1 a2 n2 c2 a3 n3 c3 a4 n4 c4 N1.natAbs D1 N2.natAbs D2 _ _ w h1 h2 h3 h4 k1 k2 k3 k4 rfl hD0 hb hx (p2 hb hx)
    · exact rPlus_less _ _ a1 n1 c1 a2 n2 c2 a3 n3 c3 a4 n4 c4 N1.natAbs D1 N2.natAbs D2 _ _ w h1 h2 h3 h4 k1 k2 k3 k4 rfl hD0 hb (by omega) (p3 hb (by omega))
theorem Times_calls (N1 N2 : Int) (D1 D2 : Nat) (a1 : Option Addr) (n1 c1 : Nat) (a2 : Option Addr) (n2 c2 : Nat) (a3 : Option Addr) (n3 c3 : Nat) (a4 : Option Addr) (n4 c4 : Nat) (w : World) (h1 : NumAt w ⟨a1, n1, c1⟩ N1.natAbs) (h2 : NumAt w ⟨a2, n2, c2⟩ D1) (h3 : NumAt w ⟨a3, n3, c3⟩ N2.natAbs) (h4 : NumAt w ⟨a4, n4, c4⟩ D2)
    (k1 : N1.natAbs < 1000000000 ^ 3) (k2 : D1 < 1000000000 ^ 3) (k3 : N2.natAbs < 1000000000 ^ 3) (k4 : D2 < 1000000000 ^ 3) (hD0 : 0 < D1 * D2) :
    Calls Try.prog 35 #[.agg #[.bool (decide (N1 < 0)), .slice a1 n1 c1, .slice a2 n2 c2], .agg #[.bool (decide (N2 < 0)), .slice a3 n3 c3, .slice a4 n4 c4]] w (RBig w (N1 * N2) (D1 * D2)) :=
  rTimes_way _ _ a1 n1 c1 a2 n2 c2 a3 n3 c3 a4 n4 c4 N1.natAbs D1 N2.natAbs D2 _ _ w h1 h2 h3 h4 k1 k2 k3 k4 rfl hD0 (sg_mul N1 N2)
end Go.Proofs.Ythlaejodajdioaa
