/-
  Lists of numbers opened, and systems that are written out: one variable, one row. The reference's fractions of any size: products. The reference's fractions of any size: whole numbers, which is less; sums in lowest terms. The reference's sums in CheckSolution: one term, the last comparison.
-/
import Derived.Test.YtilhhbjdcdediaaJ10
import Derived.Test.YtilhhbjdcdediaaJ22
import Derived.Test.YtilhhbjdcdediaaJ08
import Derived.Test.YtilhhbjdcdediaaJ15
import Derived.Test.YtilhhbjdcdediaaJ18
import Derived.Test.YtilhhbjdcdediaaJ17
set_option linter.unusedVariables false
namespace Go.Proofs.Ytilhhbjdcdediaa
open Go Go.RowKit Go.Deep Go.ChangeShapes Go.WideShapes
section
variable {H : Type} {enc : TypeId × Value → H} {w : World} {base : Nat} {spare : Nat → Bool} {held : Bool}
set_option maxRecDepth 20000 in
theorem open_ints {r : Reach} {b0 : Nat} {v : Value} {d : DataW H} {p : List MemPlace} (hval : Value.okWide Try.prog w r b0 24 v) (h : DataW.Trod enc Try.prog w base spare held 24 v d p) :
    ∃ (s : Sl) (f : Nat → Int), v = .slice s.a s.len s.cap ∧ IntsA w s f ∧ ∀ i, i < s.len → In64 (f i) := by
  obtain ⟨a, len, cap, rfl⟩ := okWide_slice Try.underlying24 hval
  obtain ⟨fuel, hf⟩ := h
  obtain ⟨s, f, e, h1, h2⟩ := ints_of hf
  simp [Value.cells] at e
  obtain ⟨e1, e2, e3⟩ := e
  exact ⟨s, f, by rw [e1, e2, e3], h1, h2⟩
end
/-- One number. -/
def IntAt (w : World) (q : Nat) (u : Int) : Prop := w.heap[q]? = some (.cells #[.int .i64 u] 2)
/-- One row. -/
def RowAt1 (w : World) (q r : Nat) : Prop := w.heap[q]? = some (.cells #[.slice (some ⟨r, 0, none⟩) 1 1] 24)
theorem at_later {w w' : World} {q : Nat} {o : Obj} (h : w.heap[q]? = some o) (hb : Below w.heap.size w w') : w'.heap[q]? = some o := (hb.block q (Array.getElem?_eq_some_iff.1 h).1).trans h
theorem IntAt.later {w w' : World} {q : Nat} {u : Int} (h : IntAt w q u) (hb : Below w.heap.size w w') : IntAt w' q u := at_later h hb
theorem RowAt1.later {w w' : World} {q r : Nat} (h : RowAt1 w q r) (hb : Below w.heap.size w w') : RowAt1 w' q r := at_later h hb
theorem one_len : (1 : Nat) ≤ maxLen := by unfold maxLen; omega
theorem IntAt.ints {w : World} {q : Nat} {u : Int} (h : IntAt w q u) : IntsA w ⟨some ⟨q, 0, none⟩, 1, 1⟩ (fun _ => u) :=
  ⟨Nat.le_refl _, one_len, .inr ⟨q, 0, rfl, (Array.getElem?_eq_some_iff.1 h).1, fun i hi => by
    obtain rfl : i = 0 := by have : i < 1 := hi; omega
    rw [cell_of_row _ _ _ _ _ _ h]; rfl⟩⟩
/-- The system of one variable up to u with c times it equal to b. -/
def litS (q1 q2 r q3 : Nat) (u c b : Int) : Sy := ⟨⟨some ⟨q1, 0, none⟩, 1, 1⟩, ⟨some ⟨q2, 0, none⟩, 1, 1⟩, ⟨some ⟨q3, 0, none⟩, 1, 1⟩, fun _ => u, fun _ => ⟨some ⟨r, 0, none⟩, 1, 1⟩, fun _ _ => c, fun _ => b⟩
theorem lit_sys {w : World} {q1 q2 r q3 : Nat} {u c b : Int} (h1 : IntAt w q1 u) (h2 : RowAt1 w q2 r) (h3 : IntAt w r c) (h4 : IntAt w q3 b) : SysA w (litS q1 q2 r q3 u c b) :=
  ⟨h1.ints, ⟨Nat.le_refl _, one_len, fun i hi => h3.ints, .inr ⟨q2, 0, rfl, (Array.getElem?_eq_some_iff.1 h2).1, fun i hi => by
    obtain rfl : i = 0 := by have : i < 1 := hi; omega
    rw [cell_of_row _ _ _ _ _ _ h2]; rfl⟩⟩, h4.ints⟩
theorem lit_frs {w : World} {q : Nat} {n d : Int} (h : w.heap[q]? = some (.cells #[.int .i64 n, .int .i64 d] 34)) : FrsA w ⟨some ⟨q, 0, none⟩, 1, 1⟩ (fun _ => n) (fun _ => d) :=
  ⟨Nat.le_refl _, one_len, .inr ⟨q, 0, rfl, (Array.getElem?_eq_some_iff.1 h).1, fun i hi => by
    obtain rfl : i = 0 := by have : i < 1 := hi; omega
    exact ⟨by rw [cell_of_row _ _ _ _ _ _ h]; rfl, by rw [cell_of_row _ _ _ _ _ _ h]; rfl⟩⟩⟩
/-- What a combination gives, in short. -/
theorem CmbR.frs {y : Sy} {n : Nat} {mn md : Nat → Int} {w w' : World} {e : Ending} (h : CmbR y n mn md w e w') : ∃ s : Sl, e = .returned (.tuple #[.slice s.a s.len s.cap, .agg #[.int .i64 (cmN y n mn md), .int .i64 (cmD y n mn md)], .int .i64 (cmE y n mn md)]) ∧ s.len = (if cmE y n mn md = 0 then y.U.len else 0) ∧ FrsA w' s (cbN y n mn md) (cbD y n mn md) ∧ Cls w w' := by
  obtain ⟨s, he, h0, h1, hc⟩ := h
  refine ⟨s, he, ?_⟩
  by_cases hz : cmE y n mn md = 0
  · rw [if_pos hz]; exact ⟨(h0 hz).1, (h0 hz).2, hc⟩
  · rw [if_neg hz]
    have := h1 hz
    subst this
    exact ⟨rfl, ⟨Nat.le_refl _, Nat.zero_le _, .inl rfl⟩, hc⟩
end Go.Proofs.Ytilhhbjdcdediaa
set_option linter.unusedVariables false
namespace Go.Proofs.Ytilhhbjdcdediaa
open Go Go.RowKit Go.Deep
set_option maxHeartbeats 16000000 in
set_option maxRecDepth 20000 in
theorem rTimes_way (b1 b2 : Bool) (a1 : Option Addr) (n1 c1 : Nat) (a2 : Option Addr) (n2 c2 : Nat) (a3 : Option Addr) (n3 c3 : Nat) (a4 : Option Addr) (n4 c4 : Nat) (m1 d1 m2 d2 : Nat) (N : Int) (D : Nat) (w : World) (h1 : NumAt w ⟨a1, n1, c1⟩ m1) (h2 : NumAt w ⟨a2, n2, c2⟩ d1) (h3 : NumAt w ⟨a3, n3, c3⟩ m2) (h4 : NumAt w ⟨a4, n4, c4⟩ d2)
    (k1 : m1 < 1000000000 ^ 100) (k2 : d1 < 1000000000 ^ 100) (k3 : m2 < 1000000000 ^ 100) (k4 : d2 < 1000000000 ^ 100) (hD : d1 * d2 = D) (hD0 : 0 < D) (ee : sg (!(b1 == b2)) (m1 * m2) = N) :
    Calls Try.prog 39 #[.agg #[.bool b1, .slice a1 n1 c1, .slice a2 n2 c2], .agg #[.bool b2, .slice a3 n3 c3, .slice a4 n4 c4]] w fun e w' => ∃ s t : Sl, e = .returned (.agg #[.bool (decide (frI N D < 0)), .slice s.a s.len s.cap, .slice t.a t.len t.cap]) ∧ NumAt w' s (frI N D).natAbs ∧ NumAt w' t (frd N D) ∧ Cls w w' := by
  have l1 : n1 ≤ 500 := lt_len h1 k1 (by omega)
  have l2 : n2 ≤ 500 := lt_len h2 k2 (by omega)
  have l3 : n3 ≤ 500 := lt_len h3 k3 (by omega)
  have l4 : n4 ≤ 500 := lt_len h4 k4 (by omega)
  have X1 := mul_lt_pow k1 k3
  have X3 := mul_lt_pow k2 k4
  rw [hD] at X3
  have C1 := Lib.hid (fun (W : World) (hb : Below w.heap.size w W) => mul_calls a1 n1 c1 a3 n3 c3 m1 m2 W (h1.later hb) (h3.later hb) l1 l3)
  have C2 := Lib.hid (fun (W : World) (hb : Below w.heap.size w W) => mul_calls a2 n2 c2 a4 n4 c4 d1 d2 W (h2.later hb) (h4.later hb) l2 l4)
  rw [hD] at C2
  have EE := Lib.hid ee
  have HD0 := Lib.hid hD0
  clear ee h1 h2 h3 h4 k1 k2 k3 k4 l1 l2 l3 l4 hD hD0
  generalize m1 * m2 = x at *
  have LX : Hid (∀ (s : Sl) (W : World), NumAt W s x → s.len ≤ 500) := Lib.hid fun s W h => lt_len h X1 (by omega)
  have LD : Hid (∀ (s : Sl) (W : World), NumAt W s D → s.len ≤ 500) := Lib.hid fun s W h => lt_len h X3 (by omega)
  clear X1 X3
  go_enter Try.func39, Try.ntmps39
  go_wp2_with fail
  go_region_held3 (fun w' => w'.cell? ⟨w.heap.size, 0, none⟩ = some (.bool b1) ∧ w'.cell? ⟨w.heap.size, 1, none⟩ = some (.slice a1 n1 c1) ∧ w'.cell? ⟨w.heap.size, 2, none⟩ = some (.slice a2 n2 c2) ∧ w'.cell? ⟨w.heap.size + 1, 0, none⟩ = some (.bool b2) ∧ w'.cell? ⟨w.heap.size + 1, 1, none⟩ = some (.slice a3 n3 c3) ∧ w'.cell? ⟨w.heap.size + 1, 2, none⟩ = some (.slice a4 n4 c4))
    (first | (simp only [cell_a30, cell_a31]; assumption) | (go_keep; done) | (refine ⟨?_, ?_, ?_, ?_, ?_, ?_⟩ <;> (rw [Ext.cell _ _ (by first | (simp; done) | (simp; omega) | omega)]; simp [*]; done)))
    (first
      | (go_at_call 69; (with_reducible refine Calls.mono (C1.out _ ?_) ?_); (focus (repeat first | with_reducible exact Below.refl _ _ | with_reducible refine Below.setCell ?_ (by first | omega | (simp; done) | (simp; omega)) _ | with_reducible refine Below.alloc ?_ (by first | omega | (simp; done) | (simp; omega)) _ | with_reducible refine Below.drew ?_ | with_reducible refine Ext.on _ ?_ (by first | omega | (simp; done) | (simp; omega)))); rintro e _ ⟨sx, rfl, hx, ⟨yx, rfl⟩⟩; have yxs := yx.size; (try simp at yxs); have yxa : w.heap.size < yx.val.heap.size := (by omega); have yxb : w.heap.size + 1 < yx.val.heap.size := (by omega); have yxc : w.heap.size + 1 + 1 < yx.val.heap.size := (by omega))
      | (go_at_call 69; (with_reducible refine Calls.mono (C2.out _ ?_) ?_); (focus (repeat first | with_reducible exact Below.refl _ _ | with_reducible refine Below.setCell ?_ (by first | omega | (simp; done) | (simp; omega)) _ | with_reducible refine Below.alloc ?_ (by first | omega | (simp; done) | (simp; omega)) _ | with_reducible refine Below.drew ?_ | with_reducible refine Ext.on _ ?_ (by first | omega | (simp; done) | (simp; omega)))); rintro e _ ⟨sy, rfl, hy, ⟨yy, rfl⟩⟩; have yys := yy.size; (try simp at yys); have yya : w.heap.size < yy.val.heap.size := (by omega); have yyb : w.heap.size + 1 < yy.val.heap.size := (by omega); have yyc : w.heap.size + 1 + 1 < yy.val.heap.size := (by omega))
      | (go_at_call 68; have G := Lib.hid (fun W hb1 hb2 => lowest_calls (!(b1 == b2)) sx.a sx.len sx.cap sy.a sy.len sy.cap _ _ W (hx.later hb1) (hy.later hb2) (LX.out _ _ hx) (LD.out _ _ hy) HD0.out); rw [EE.out] at G; (with_reducible refine Calls.mono (G.out _ ?_ ?_) ?_); (focus (repeat first | with_reducible exact Below.refl _ _ | with_reducible refine Below.setCell ?_ (by first | omega | (simp; done) | (simp; omega)) _ | with_reducible refine Below.alloc ?_ (by first | omega | (simp; done) | (simp; omega)) _ | with_reducible refine Below.drew ?_ | with_reducible refine Ext.on _ ?_ (by first | omega | (simp; done) | (simp; omega)))); (focus (repeat first | with_reducible exact Below.refl _ _ | with_reducible refine Below.setCell ?_ (by first | omega | (simp; done) | (simp; omega)) _ | with_reducible refine Below.alloc ?_ (by first | omega | (simp; done) | (simp; omega)) _ | with_reducible refine Below.drew ?_ | with_reducible refine Ext.on _ ?_ (by first | omega | (simp; done) | (simp; omega)))); rintro e _ ⟨sn, st, rfl, hn, ht, ⟨yl, rfl⟩⟩; have yls := yl.size; (try simp at yls); have yla : w.heap.size < yl.val.heap.size := (by omega); have ylb : w.heap.size + 1 < yl.val.heap.size := (by omega); have ylc : w.heap.size + 1 + 1 < yl.val.heap.size := (by omega); have T0 : yx.val.heap[w.heap.size + 1 + 1]? = some (Obj.cells #[.bool false, .slice none 0 0, .slice none 0 0] 67) := (yx.below.block (w.heap.size + 1 + 1) (by simp)).trans (new_at2d w _ _ _ _); have T1 : yy.val.heap[w.heap.size + 1 + 1]? = some (Obj.cells #[.bool false, .slice none 0 0, .slice none 0 0] 67) := (yy.below.block (w.heap.size + 1 + 1) (by first | omega | (simp; omega))).trans T0; have T2 : yl.val.heap[w.heap.size + 1 + 1]? = some (Obj.cells #[.bool false, .slice none 0 0, .slice none 0 0] 67) := (yl.below.block (w.heap.size + 1 + 1) (by first | omega | (simp; omega))).trans T1; have HT := Lib.hid T2; obtain ⟨k0, k1, k2, k3, k4, k5, k6⟩ := three_b HT.out; clear G))
  have HB : Below w.heap.size w yl.val := by repeat first | with_reducible exact Below.refl _ _ | with_reducible refine Below.setCell ?_ (by first | omega | (simp; done) | (simp; omega)) _ | with_reducible refine Below.alloc ?_ (by first | omega | (simp; done) | (simp; omega)) _ | with_reducible refine Below.drew ?_ | with_reducible refine Ext.on _ ?_ (by first | omega | (simp; done) | (simp; omega))
  go_wp2
  refine ret_ex rfl ?_
  simp [results, Try.results39, go_sem, k4, k5, k6]
  refine ⟨sn, st, by simp, NumAt.store3 hn HT.out _ _ _, NumAt.store3 ht HT.out _ _ _, Cls.of (below3 HB (by omega) _ _ _)⟩
theorem Times_calls (N1 N2 : Int) (D1 D2 : Nat) (a1 : Option Addr) (n1 c1 : Nat) (a2 : Option Addr) (n2 c2 : Nat) (a3 : Option Addr) (n3 c3 : Nat) (a4 : Option Addr) (n4 c4 : Nat) (w : World) (h1 : NumAt w ⟨a1, n1, c1⟩ N1.natAbs) (h2 : NumAt w ⟨a2, n2, c2⟩ D1) (h3 : NumAt w ⟨a3, n3, c3⟩ N2.natAbs) (h4 : NumAt w ⟨a4, n4, c4⟩ D2)
    (k1 : N1.natAbs < 1000000000 ^ 100) (k2 : D1 < 1000000000 ^ 100) (k3 : N2.natAbs < 1000000000 ^ 100) (k4 : D2 < 1000000000 ^ 100) (hD0 : 0 < D1 * D2) :
    Calls Try.prog 39 #[.agg #[.bool (decide (N1 < 0)), .slice a1 n1 c1, .slice a2 n2 c2], .agg #[.bool (decide (N2 < 0)), .slice a3 n3 c3, .slice a4 n4 c4]] w (RBig w (N1 * N2) (D1 * D2)) :=
  rTimes_way _ _ a1 n1 c1 a2 n2 c2 a3 n3 c3 a4 n4 c4 N1.natAbs D1 N2.natAbs D2 _ _ w h1 h2 h3 h4 k1 k2 k3 k4 rfl hD0 (sg_mul N1 N2)
end Go.Proofs.Ytilhhbjdcdediaa
set_option linter.unusedVariables false
namespace Go.Proofs.Ytilhhbjdcdediaa
open Go Go.RowKit Go.Deep
theorem wp_big {n k : Nat} (h : n < wp k) (hk : k ≤ 33) : n < 1000000000 ^ 100 := by
  have h1 : ∀ j, wp j ≤ 1000000000 ^ (3 * j) := by
    intro j
    unfold wp
    rw [Nat.pow_mul]
    exact Nat.pow_le_pow_left (by rw [show (1000000000 : Nat) ^ 3 = 1000000000000000000000000000 from rfl]; omega) j
  exact pow_big (Nat.lt_of_lt_of_le h (h1 k)) (by omega)
/-- A sum of two fractions in lowest terms. -/
theorem fr_add (N1 N2 : Int) {D1 D2 : Nat} (h1 : 0 < D1) (h2 : 0 < D2) :
    frI (frI N1 D1 * (frd N2 D2 : Int) + frI N2 D2 * (frd N1 D1 : Int)) (frd N1 D1 * frd N2 D2) = frI (N1 * D2 + N2 * D1) (D1 * D2) ∧ frd (frI N1 D1 * (frd N2 D2 : Int) + frI N2 D2 * (frd N1 D1 : Int)) (frd N1 D1 * frd N2 D2) = frd (N1 * D2 + N2 * D1) (D1 * D2) := by
  have a1 := frI_mul N1 D1
  have a2 := frd_mul N1 D1
  have a3 := gcd_pos_right (a := N1.natAbs) h1
  have a4 := frd_pos N1 h1
  have b1 := frI_mul N2 D2
  have b2 := frd_mul N2 D2
  have b3 := gcd_pos_right (a := N2.natAbs) h2
  have b4 := frd_pos N2 h2
  generalize frI N1 D1 = v1 at *
  generalize frd N1 D1 = d1 at *
  generalize Nat.gcd N1.natAbs D1 = c1 at *
  generalize frI N2 D2 = v2 at *
  generalize frd N2 D2 = d2 at *
  generalize Nat.gcd N2.natAbs D2 = c2 at *
  have hs := fr_scale (Nat.mul_pos a3 b3) (v1 * d2 + v2 * d1) (Nat.mul_pos a4 b4)
  have e1 : ((c1 * c2 : Nat) : Int) * (v1 * d2 + v2 * d1) = N1 * D2 + N2 * D1 := by
    rw [Int.mul_add, ← a1, ← b1, ← a2, ← b2, Int.natCast_mul, Int.natCast_mul, Int.natCast_mul]
    congr 1 <;> ac_rfl
  have e2 : c1 * c2 * (d1 * d2) = D1 * D2 := by rw [← a2, ← b2]; ac_rfl
  rw [e1, e2] at hs
  exact ⟨hs.1.symm, hs.2.symm⟩
set_option maxHeartbeats 4000000 in
set_option maxRecDepth 20000 in
theorem rWhole_calls (n : Int) (w : World) (h : In64 n) :
    Calls Try.prog 38 #[.int .i64 n] w fun e w' => ∃ s t : Sl, e = .returned (.agg #[.bool (decide (n < 0)), .slice s.a s.len s.cap, .slice t.a t.len t.cap]) ∧ NumAt w' s n.natAbs ∧ NumAt w' t 1 ∧ Cls w w' := by
  have C1 := Lib.hid (fun W => of_calls n W h.1 h.2)
  clear h
  go_enter Try.func38, Try.ntmps38
  go_wp2_with (go_at_call 67; (with_reducible refine (C1.out _).mono ?_); rintro e _ ⟨s, rfl, hs, ⟨y, rfl⟩⟩; have ys := y.size; (try simp at ys); have ya : w.heap.size < y.val.heap.size := (by omega); have HT := Lib.hid ((y.below.block w.heap.size (by simp)).trans (heap_alloc_new w _)); obtain ⟨k0, k1, k2, k3, k4, k5, k6⟩ := three_b HT.out)
  have HB : Below w.heap.size w y.val := by repeat first | with_reducible exact Below.refl _ _ | with_reducible refine Below.setCell ?_ (by first | omega | (simp; done) | (simp; omega)) _ | with_reducible refine Below.alloc ?_ (by first | omega | (simp; done) | (simp; omega)) _ | with_reducible refine Below.drew ?_ | with_reducible refine Ext.on _ ?_ (by first | omega | (simp; done) | (simp; omega))
  have H1 : ∀ v0 v1 v2 o, NumAt ((((y.val.setCell ⟨w.heap.size, 0, none⟩ v0).setCell ⟨w.heap.size, 1, none⟩ v1).setCell ⟨w.heap.size, 2, none⟩ v2).alloc o) s n.natAbs := fun v0 v1 v2 o => (NumAt.store3 hs HT.out v0 v1 v2).later ((Below.refl _ _).alloc (Nat.le_refl _) _)
  have H2 : ∀ v0 v1 v2, NumAt ((((y.val.setCell ⟨w.heap.size, 0, none⟩ v0).setCell ⟨w.heap.size, 1, none⟩ v1).setCell ⟨w.heap.size, 2, none⟩ v2).alloc (.cells #[.int .u64 1] 91)) ⟨some ⟨y.val.heap.size, 0, none⟩, 1, 1⟩ 1 := fun v0 v1 v2 => by
    have := one_num (((y.val.setCell ⟨w.heap.size, 0, none⟩ v0).setCell ⟨w.heap.size, 1, none⟩ v1).setCell ⟨w.heap.size, 2, none⟩ v2) 91
    simpa using this
  refine ret_ex rfl ⟨.agg #[.bool (decide (n < 0)), .slice s.a s.len s.cap, .slice (some ⟨y.val.heap.size, 0, none⟩) 1 1], by simp [results, Try.results38, go_sem, k4, k5, k6, ya], ⟨s, ⟨some ⟨y.val.heap.size, 0, none⟩, 1, 1⟩, rfl, ?_, ?_, ?_⟩⟩
  · exact H1 _ _ _ _
  · exact H2 _ _ _
  · exact Cls.of ((below3 HB (Nat.le_refl _) _ _ _).alloc (by simpa using Nat.le_of_lt ya) _)
set_option maxHeartbeats 8000000 in
set_option maxRecDepth 20000 in
theorem rLess_calls (N1 N2 : Int) (D1 D2 : Nat) (a1 : Option Addr) (n1 c1 : Nat) (a2 : Option Addr) (n2 c2 : Nat) (a3 : Option Addr) (n3 c3 : Nat) (a4 : Option Addr) (n4 c4 : Nat) (w : World) (h1 : NumAt w ⟨a1, n1, c1⟩ N1.natAbs) (h2 : NumAt w ⟨a2, n2, c2⟩ D1) (h3 : NumAt w ⟨a3, n3, c3⟩ N2.natAbs) (h4 : NumAt w ⟨a4, n4, c4⟩ D2)
    (k1 : N1.natAbs < 1000000000 ^ 100) (k2 : D1 < 1000000000 ^ 100) (k3 : N2.natAbs < 1000000000 ^ 100) (k4 : D2 < 1000000000 ^ 100) (hD1 : 0 < D1) (hD2 : 0 < D2) :
    Calls Try.prog 42 #[.agg #[.bool (decide (N1 < 0)), .slice a1 n1 c1, .slice a2 n2 c2], .agg #[.bool (decide (N2 < 0)), .slice a3 n3 c3, .slice a4 n4 c4]] w fun e w' => e = .returned (.bool (decide (N1 * D2 < N2 * D1))) ∧ Cls w w' := by
  have NB : Hid (∀ (W : World) (s : Sl), NumAt W s N2.natAbs → NumAt W s (-N2).natAbs) := Lib.hid fun W s h => by rwa [Int.natAbs_neg]
  obtain ⟨gb, hgb⟩ : ∃ gb, decide (-N2 < 0) = gb := ⟨_, rfl⟩
  have C1 := Lib.hid (fun (W : World) (hb : Below w.heap.size w W) => Turned_calls N2 a3 n3 c3 a4 n4 c4 W (h3.later hb))
  have C2 := Lib.hid (fun (W : World) (hb : Below w.heap.size w W) => Plus_calls N1 (-N2) D1 D2 a1 n1 c1 a2 n2 c2 a3 n3 c3 a4 n4 c4 W (h1.later hb) (h2.later hb) (NB.out _ _ (h3.later hb)) (h4.later hb) k1 k2 (by simpa using k3) k4 (Nat.mul_pos hD1 hD2))
  rw [hgb] at C1 C2
  have ER : Hid (decide (cmpI (frI (N1 * D2 + -N2 * D1) (D1 * D2)) 0 < 0) = decide (N1 * D2 < N2 * D1)) := Lib.hid (by
    rw [sign_fr _ (Nat.mul_pos hD1 hD2), Int.neg_mul, cmpI_sub]
    rw [Bool.eq_iff_iff, decide_eq_true_iff, decide_eq_true_iff]
    unfold cmpI
    split <;> (try split) <;> omega)
  have C3 : Hid (∀ (W : World) (s t : Sl), NumAt W s (frI (N1 * D2 + -N2 * D1) (D1 * D2)).natAbs → Calls Try.prog 40 #[.agg #[.bool (decide (frI (N1 * D2 + -N2 * D1) (D1 * D2) < 0)), .slice s.a s.len s.cap, .slice t.a t.len t.cap]] W fun e w' => e = .returned (.int .i64 (cmpI (frI (N1 * D2 + -N2 * D1) (D1 * D2)) 0)) ∧ Cls W w') := Lib.hid fun W s t hs => Sign_calls _ s.a s.len s.cap t.a t.len t.cap W hs
  clear h1 h2 h3 h4 k1 k2 k3 k4 hD1 hD2 NB hgb
  generalize decide (N1 * D2 < N2 * D1) = rr at *
  generalize N1 * D2 + -N2 * D1 = N at *
  generalize D1 * D2 = D at *
  obtain ⟨g1, hg1⟩ : ∃ g, decide (N1 < 0) = g := ⟨_, rfl⟩
  obtain ⟨g2, hg2⟩ : ∃ g, decide (N2 < 0) = g := ⟨_, rfl⟩
  rw [hg1] at C2 ⊢
  rw [hg2] at C1 ⊢
  clear hg1 hg2
  generalize cmpI (frI N D) 0 = cc at *
  go_enter Try.func42, Try.ntmps42
  go_wp2_with fail
  go_region_held3 (fun w' => w'.cell? ⟨w.heap.size, 0, none⟩ = some (.bool g1) ∧ w'.cell? ⟨w.heap.size, 1, none⟩ = some (.slice a1 n1 c1) ∧ w'.cell? ⟨w.heap.size, 2, none⟩ = some (.slice a2 n2 c2) ∧ w'.cell? ⟨w.heap.size + 1, 0, none⟩ = some (.bool g2) ∧ w'.cell? ⟨w.heap.size + 1, 1, none⟩ = some (.slice a3 n3 c3) ∧ w'.cell? ⟨w.heap.size + 1, 2, none⟩ = some (.slice a4 n4 c4))
    (first | (go_keep; done) | (refine ⟨?_, ?_, ?_, ?_, ?_, ?_⟩ <;> (rw [Ext.cell _ _ (by first | (simp; done) | (simp; omega) | omega)]; simp [*]; done)))
    (first
      | (go_at_call 73; (with_reducible refine Calls.mono (C1.out _ ?_) ?_); (focus (repeat first | with_reducible exact Below.refl _ _ | with_reducible refine Below.setCell ?_ (by first | omega | (simp; done) | (simp; omega)) _ | with_reducible refine Below.alloc ?_ (by first | omega | (simp; done) | (simp; omega)) _ | with_reducible refine Below.drew ?_ | with_reducible refine Ext.on _ ?_ (by first | omega | (simp; done) | (simp; omega)))); rintro e _ ⟨rfl, ⟨yt, rfl⟩⟩; have yts := yt.size; (try simp at yts); have yta : w.heap.size < yt.val.heap.size := (by omega); have ytb : w.heap.size + 1 < yt.val.heap.size := (by omega))
      | (go_at_call 41; (with_reducible refine Calls.mono (C2.out _ ?_) ?_); (focus (repeat first | with_reducible exact Below.refl _ _ | with_reducible refine Below.setCell ?_ (by first | omega | (simp; done) | (simp; omega)) _ | with_reducible refine Below.alloc ?_ (by first | omega | (simp; done) | (simp; omega)) _ | with_reducible refine Below.drew ?_ | with_reducible refine Ext.on _ ?_ (by first | omega | (simp; done) | (simp; omega)))); rintro e _ ⟨sn, st, rfl, hsn, hst, ⟨yp, rfl⟩⟩; have yps := yp.size; (try simp at yps); have ypa : w.heap.size < yp.val.heap.size := (by omega); have ypb : w.heap.size + 1 < yp.val.heap.size := (by omega))
      | (go_at_call 40; have G := Lib.hid (fun W hb => C3.out W sn st (hsn.later hb)); (with_reducible refine Calls.mono (G.out _ ?_) ?_); (focus (repeat first | with_reducible exact Below.refl _ _ | with_reducible refine Below.setCell ?_ (by first | omega | (simp; done) | (simp; omega)) _ | with_reducible refine Below.alloc ?_ (by first | omega | (simp; done) | (simp; omega)) _ | with_reducible refine Below.drew ?_ | with_reducible refine Ext.on _ ?_ (by first | omega | (simp; done) | (simp; omega)))); rintro e _ ⟨rfl, ⟨yf, rfl⟩⟩; have yfs := yf.size; (try simp at yfs); have yfa : w.heap.size < yf.val.heap.size := (by omega); have yfb : w.heap.size + 1 < yf.val.heap.size := (by omega); clear G))
  all_goals
    have HB : Below w.heap.size w yf.val := by repeat first | with_reducible exact Below.refl _ _ | with_reducible refine Below.setCell ?_ (by first | omega | (simp; done) | (simp; omega)) _ | with_reducible refine Below.alloc ?_ (by first | omega | (simp; done) | (simp; omega)) _ | with_reducible refine Below.drew ?_ | with_reducible refine Ext.on _ ?_ (by first | omega | (simp; done) | (simp; omega))
    go_wp2
    go_ret
    exact ⟨ret_bool ER.out, Cls.of HB⟩
end Go.Proofs.Ytilhhbjdcdediaa
set_option linter.unusedVariables false
namespace Go.Proofs.Ytilhhbjdcdediaa
open Go Go.RowKit Go.Deep
theorem big_nat {n : Nat} (h : n < 18446744073709551616) : n < 1000000000 ^ 100 := wp_big (wp_one h) (by omega)
theorem RBig.congr {w w' : World} {e : Ending} {N N' : Int} {D D' : Nat} (h1 : frI N D = frI N' D') (h2 : frd N D = frd N' D') (h : RBig w N D e w') : RBig w N' D' e w' := by
  obtain ⟨s, t, he, hs, ht, hc⟩ := h
  generalize frI N D = v at *
  generalize frd N D = d at *
  subst h1 h2
  exact ⟨s, t, he, hs, ht, hc⟩
theorem one_big : 1 < 1000000000 ^ 100 := big_nat (n := 1) (by omega)
set_option maxHeartbeats 400000 in
set_option maxRecDepth 20000 in
theorem rterm_calls (fn co fd : Int) (hv : vaB fn fd = true) (hc : co.natAbs < 9223372036854775808) (W : World) (s2 t2 s3 t3 : Sl) (h2 : NumAt W s2 fn.natAbs) (h3 : NumAt W t2 fd.natAbs) (h4 : NumAt W s3 co.natAbs) (h5 : NumAt W t3 1) :
    Calls Try.prog 39 #[.agg #[.bool (decide (fn < 0)), .slice s2.a s2.len s2.cap, .slice t2.a t2.len t2.cap], .agg #[.bool (decide (co < 0)), .slice s3.a s3.len s3.cap, .slice t3.a t3.len t3.cap]] W (RBig W (fn * co) (fd.natAbs * 1)) := by
  obtain ⟨b1, b2, b3, b4⟩ := vaB_rng hv
  have k1 : fn.natAbs < 1000000000 ^ 100 := big_nat (by omega)
  have k2 : fd.natAbs < 1000000000 ^ 100 := big_nat (by omega)
  have k3 : co.natAbs < 1000000000 ^ 100 := big_nat (by omega)
  have k5 : 0 < fd.natAbs * 1 := by clear k1 k2 k3; omega
  exact Times_calls fn co fd.natAbs 1 s2.a s2.len s2.cap t2.a t2.len t2.cap s3.a s3.len s3.cap t3.a t3.len t3.cap W h2 h3 h4 h5 k1 k2 k3 one_big k5
set_option maxHeartbeats 400000 in
set_option maxRecDepth 20000 in
theorem radd_calls (N : Int) (D : Nat) (fn co fd : Int) (hD : 0 < D) (hN : N.natAbs < wp 33) (hDw : D < wp 33) (hv : vaB fn fd = true) (hc : co.natAbs < 9223372036854775808) (W : World) (s t s4 t4 : Sl) (h1 : NumAt W s (frI N D).natAbs) (h2 : NumAt W t (frd N D)) (h3 : NumAt W s4 (frI (fn * co) (fd.natAbs * 1)).natAbs) (h4 : NumAt W t4 (frd (fn * co) (fd.natAbs * 1))) :
    Calls Try.prog 41 #[.agg #[.bool (decide (frI N D < 0)), .slice s.a s.len s.cap, .slice t.a t.len t.cap], .agg #[.bool (decide (frI (fn * co) (fd.natAbs * 1) < 0)), .slice s4.a s4.len s4.cap, .slice t4.a t4.len t4.cap]] W (RBig W (N * (fd.natAbs : Nat) + co * fn * (D : Int)) (D * fd.natAbs)) := by
  obtain ⟨b1, b2, b3, b4⟩ := vaB_rng hv
  have hf : 0 < fd.natAbs * 1 := by omega
  have n1 : (fn * co).natAbs < wp 2 := by rw [Int.natAbs_mul]; exact wp_mul (wp_one (by omega)) (wp_one (by omega))
  have n2 : fd.natAbs * 1 < wp 1 := by rw [Nat.mul_one]; exact wp_one (by omega)
  have k1 : (frI N D).natAbs < 1000000000 ^ 100 := wp_big (frI_lt hN) (by omega)
  have k2 : frd N D < 1000000000 ^ 100 := wp_big (frd_lt hDw) (by omega)
  have k3 : (frI (fn * co) (fd.natAbs * 1)).natAbs < 1000000000 ^ 100 := wp_big (frI_lt n1) (by omega)
  have k4 : frd (fn * co) (fd.natAbs * 1) < 1000000000 ^ 100 := wp_big (frd_lt n2) (by omega)
  have k5 : 0 < frd N D * frd (fn * co) (fd.natAbs * 1) := Nat.mul_pos (frd_pos _ hD) (frd_pos _ hf)
  have hp := Plus_calls (frI N D) (frI (fn * co) (fd.natAbs * 1)) (frd N D) (frd (fn * co) (fd.natAbs * 1)) s.a s.len s.cap t.a t.len t.cap s4.a s4.len s4.cap t4.a t4.len t4.cap W h1 h2 h3 h4 k1 k2 k3 k4 k5
  clear k1 k2 k3 k4
  obtain ⟨e1, e2⟩ := fr_add N (fn * co) hD hf
  have e3 : N * ((fd.natAbs * 1 : Nat) : Int) + fn * co * (D : Int) = N * (fd.natAbs : Nat) + co * fn * (D : Int) := by rw [Nat.mul_one, Int.mul_comm fn co]
  have e4 : D * (fd.natAbs * 1) = D * fd.natAbs := by rw [Nat.mul_one]
  exact hp.mono fun e w' h => RBig.congr (e1.trans (congr (congrArg frI e3) e4)) (e2.trans (congr (congrArg frd e3) e4)) h
theorem rskip (N : Int) (D : Nat) (fn co : Int) (f : Nat) (hD : 0 < D) (hf : 0 < f) (h : fn = 0 ∨ co = 0) : frI (N * f + co * fn * (D : Int)) (D * f) = frI N D ∧ frd (N * f + co * fn * (D : Int)) (D * f) = frd N D := by
  have e : co * fn = 0 := by rcases h with rfl | rfl <;> simp
  rw [e, Int.zero_mul, Int.add_zero, Int.mul_comm N, Nat.mul_comm D]
  exact fr_scale hf N hD
/-- Where the reference's sum lies. -/
def RTotAt (w0 : World) (b : Nat) (N : Int) (D : Nat) (wr : World) : Prop := ∃ s t : Sl, wr.heap[b]? = some (.cells #[.bool (decide (frI N D < 0)), .slice s.a s.len s.cap, .slice t.a t.len t.cap] 67) ∧ NumAt wr s (frI N D).natAbs ∧ NumAt wr t (frd N D) ∧ w0.heap.size ≤ b ∧ Below w0.heap.size w0 wr
theorem RTotAt.mk' {w0 W : World} {b : Nat} {N : Int} {D : Nat} {x : Bool} {s t : Sl} {a a' : Option Addr} {n c n' c' : Nat} (hT : W.heap[b]? = some (.cells #[.bool x, .slice a n c, .slice a' n' c'] 67)) (hbb : w0.heap.size ≤ b) (hs : NumAt W s (frI N D).natAbs) (ht : NumAt W t (frd N D)) (hb : Below w0.heap.size w0 W) :
    RTotAt w0 b N D (((W.setCell ⟨b, 0, none⟩ (.bool (decide (frI N D < 0)))).setCell ⟨b, 1, none⟩ (.slice s.a s.len s.cap)).setCell ⟨b, 2, none⟩ (.slice t.a t.len t.cap)) := by
  refine ⟨s, t, ?_, NumAt.store3 hs hT _ _ _, NumAt.store3 ht hT _ _ _, hbb, below3 hb hbb _ _ _⟩
  rw [heap_setCell_same _ _ _ _ _ _ (heap_setCell_same _ _ _ _ _ _ (heap_setCell_same _ _ _ _ _ _ hT))]
  simp
theorem RTotAt.scale {w0 wr : World} {b : Nat} {N N' : Int} {D D' : Nat} (h1 : frI N' D' = frI N D) (h2 : frd N' D' = frd N D) (h : RTotAt w0 b N D wr) : RTotAt w0 b N' D' wr := by
  obtain ⟨s, t, a1, a2, a3, a4, a5⟩ := h
  exact ⟨s, t, by rw [h1]; exact a1, by rw [h1]; exact a2, by rw [h2]; exact a3, a4, a5⟩
set_option maxHeartbeats 400000 in
set_option maxRecDepth 20000 in
theorem rlast_calls (N rt : Int) (D : Nat) (hD : 0 < D) (hN : N.natAbs < wp 33) (hDw : D < wp 33) (hr : rt.natAbs < 9223372036854775808) (W : World) (s t s2 t2 : Sl) (h1 : NumAt W s (frI N D).natAbs) (h2 : NumAt W t (frd N D)) (h3 : NumAt W s2 (-rt).natAbs) (h4 : NumAt W t2 1) :
    Calls Try.prog 41 #[.agg #[.bool (decide (frI N D < 0)), .slice s.a s.len s.cap, .slice t.a t.len t.cap], .agg #[.bool (decide (-rt < 0)), .slice s2.a s2.len s2.cap, .slice t2.a t2.len t2.cap]] W (RBig W (frI N D * ((1 : Nat) : Int) + -rt * (frd N D : Int)) (frd N D * 1)) := by
  have k1 : (frI N D).natAbs < 1000000000 ^ 100 := wp_big (frI_lt hN) (by omega)
  have k2 : frd N D < 1000000000 ^ 100 := wp_big (frd_lt hDw) (by omega)
  have k3 : (-rt).natAbs < 1000000000 ^ 100 := big_nat (by omega)
  have k5 : 0 < frd N D * 1 := Nat.mul_pos (frd_pos _ hD) (by decide)
  exact Plus_calls (frI N D) (-rt) (frd N D) 1 s.a s.len s.cap t.a t.len t.cap s2.a s2.len s2.cap t2.a t2.len t2.cap W h1 h2 h3 h4 k1 k2 k3 one_big k5
set_option maxHeartbeats 400000 in
set_option maxRecDepth 20000 in
theorem rsign_calls (N rt : Int) (D : Nat) (hD : 0 < D) (W : World) (s t : Sl) (h : NumAt W s (frI (frI N D * ((1 : Nat) : Int) + -rt * (frd N D : Int)) (frd N D * 1)).natAbs) :
    Calls Try.prog 40 #[.agg #[.bool (decide (frI (frI N D * ((1 : Nat) : Int) + -rt * (frd N D : Int)) (frd N D * 1) < 0)), .slice s.a s.len s.cap, .slice t.a t.len t.cap]] W fun e w' => ∃ r, e = .returned (.int .i64 r) ∧ (r != 0) = (!decide (N = rt * D)) ∧ Cls W w' := by
  refine (Sign_calls _ s.a s.len s.cap t.a t.len t.cap W h).mono fun e w' ⟨he, hc⟩ => ⟨_, he, ?_, hc⟩
  have hd := frd_pos N hD
  rw [sign_fr _ (Nat.mul_pos hd (by omega)), show ((1 : Nat) : Int) = 1 from rfl, Int.mul_one, Int.neg_mul, cmpI_sub, cmp_zero]
  congr 1
  rw [Bool.eq_iff_iff, decide_eq_true_iff, decide_eq_true_iff]
  have e := fr_cross' N D
  constructor
  · intro h1
    rw [h1] at e
    have : (frd N D : Int) * (rt * D) = (frd N D : Int) * N := by rw [Int.mul_comm _ N, ← e]; ac_rfl
    exact (Int.eq_of_mul_eq_mul_left (by omega) this).symm
  · intro h1
    rw [h1] at e ⊢
    have : (D : Int) * frI (rt * D) D = (D : Int) * (rt * (frd (rt * D) D : Int)) := by rw [Int.mul_comm _ (frI _ _), e]; ac_rfl
    exact Int.eq_of_mul_eq_mul_left (by omega) this
end Go.Proofs.Ytilhhbjdcdediaa
