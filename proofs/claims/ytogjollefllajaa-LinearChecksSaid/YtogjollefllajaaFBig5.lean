/-
  The reference's fractions of any size: products, and the other sign.
-/
import Derived.Test.YtogjollefllajaaFBig4
set_option linter.unusedVariables false
namespace Go.Proofs.Ytogjollefllajaa
open Go Go.RowKit Go.Deep
theorem new_at1d (w : World) (o : Obj) (cs : Array Value) (t : TypeId) : ((w.alloc o).alloc (.cells cs t)).heap[w.heap.size + 1]? = some (.cells cs t) := by
  have := heap_alloc_new (w.alloc o) (.cells cs t)
  simpa using this
theorem cell_a30 (W : World) (b off : Nat) (v0 v1 v2 : Value) : (((W.setCell ⟨b + 1 + 1, 0, none⟩ v0).setCell ⟨b + 1 + 1, 1, none⟩ v1).setCell ⟨b + 1 + 1, 2, none⟩ v2).cell? ⟨b, off, none⟩ = W.cell? ⟨b, off, none⟩ := cell_after3 _ _ _ _ _ _ (by show b ≠ b + 1 + 1; omega)
theorem cell_a31 (W : World) (b off : Nat) (v0 v1 v2 : Value) : (((W.setCell ⟨b + 1 + 1, 0, none⟩ v0).setCell ⟨b + 1 + 1, 1, none⟩ v1).setCell ⟨b + 1 + 1, 2, none⟩ v2).cell? ⟨b + 1, off, none⟩ = W.cell? ⟨b + 1, off, none⟩ := cell_after3 _ _ _ _ _ _ (by show b + 1 ≠ b + 1 + 1; omega)
theorem Turned_calls (N : Int) (a : Option Addr) (n c : Nat) (a' : Option Addr) (n' c' : Nat) (w : World) (h : NumAt w ⟨a, n, c⟩ N.natAbs) :
    Calls Try.prog 56 #[.agg #[.bool (decide (N < 0)), .slice a n c, .slice a' n' c']] w fun e w' => e = .returned (.agg #[.bool (decide (-N < 0)), .slice a n c, .slice a' n' c']) ∧ Cls w w' := by
  have hl : n = (digs N.natAbs).length := h.1
  have h0 : (0 < n ↔ N ≠ 0) := by
    rw [hl]
    constructor
    · intro hp hN
      rw [hN] at hp
      simp [digs_zero] at hp
    · intro hN
      exact digs_len_pos (by omega)
  obtain ⟨g, hg⟩ : ∃ g, decide (N < 0) = g := ⟨_, rfl⟩
  obtain ⟨r, hr⟩ : ∃ r, decide (-N < 0) = r := ⟨_, rfl⟩
  have hgr : r = (decide ((0 : Int) < n) && !g) := by
    rw [← hg, ← hr, Bool.eq_iff_iff]
    simp
    omega
  rw [hg, hr, hgr]
  clear h h0 hl hg hr hgr
  by_cases hn : (0 : Int) < n
  · have hd : decide ((0 : Int) < n) = true := decide_eq_true hn
    go_enter Try.func56, Try.ntmps56
    go_wp2_with fail
    refine ret_ex rfl ?_
    simp [results, Try.results56, go_sem]
    first | refine ⟨fun _ => (by omega), Cls.of ?_⟩ | refine Cls.of ?_
    repeat first | with_reducible exact Below.refl _ _ | with_reducible refine Below.setCell ?_ (by first | omega | (simp; done) | (simp; omega)) _ | with_reducible refine Below.alloc ?_ (by first | omega | (simp; done) | (simp; omega)) _ | with_reducible refine Below.drew ?_ | with_reducible refine Ext.on _ ?_ (by first | omega | (simp; done) | (simp; omega))
  · have hd : decide ((0 : Int) < n) = false := decide_eq_false hn
    go_enter Try.func56, Try.ntmps56
    go_wp2_with fail
    refine ret_ex rfl ?_
    simp [results, Try.results56, go_sem]
    first | refine ⟨fun _ => (by omega), Cls.of ?_⟩ | refine Cls.of ?_
    repeat first | with_reducible exact Below.refl _ _ | with_reducible refine Below.setCell ?_ (by first | omega | (simp; done) | (simp; omega)) _ | with_reducible refine Below.alloc ?_ (by first | omega | (simp; done) | (simp; omega)) _ | with_reducible refine Below.drew ?_ | with_reducible refine Ext.on _ ?_ (by first | omega | (simp; done) | (simp; omega))
theorem sg_mul (N1 N2 : Int) : sg (decide (N1 < 0) != decide (N2 < 0)) (N1.natAbs * N2.natAbs) = N1 * N2 := by
  have e : ((N1.natAbs * N2.natAbs : Nat) : Int) = (N1.natAbs : Int) * N2.natAbs := Int.natCast_mul _ _
  by_cases h1 : N1 < 0 <;> by_cases h2 : N2 < 0
  · rw [decide_eq_true h1, decide_eq_true h2]; simp only [sg, bne_self_eq_false, Bool.false_eq_true, if_false]
    rw [e, show ((N1.natAbs : Nat) : Int) = -N1 by omega, show ((N2.natAbs : Nat) : Int) = -N2 by omega, Int.neg_mul_neg]
  · rw [decide_eq_true h1, decide_eq_false h2]; simp only [sg, Bool.true_bne, Bool.not_false, if_true]
    rw [e, show ((N1.natAbs : Nat) : Int) = -N1 by omega, show ((N2.natAbs : Nat) : Int) = N2 by omega, Int.neg_mul, Int.neg_neg]
  · rw [decide_eq_false h1, decide_eq_true h2]; simp only [sg, Bool.false_bne, if_true]
    rw [e, show ((N1.natAbs : Nat) : Int) = N1 by omega, show ((N2.natAbs : Nat) : Int) = -N2 by omega, Int.mul_neg, Int.neg_neg]
  · rw [decide_eq_false h1, decide_eq_false h2]; simp only [sg, bne_self_eq_false, Bool.false_eq_true, if_false]
    rw [e, show ((N1.natAbs : Nat) : Int) = N1 by omega, show ((N2.natAbs : Nat) : Int) = N2 by omega]
theorem sg_div (an bd bn : Int) (h : 0 < bd) : sg (decide (an < 0) != decide (bn < 0)) (an.natAbs * bd.natAbs) = an * (if bn < 0 then -bd else bd) := by
  have := sg_mul an (if bn < 0 then -bd else bd)
  have e1 : decide ((if bn < 0 then -bd else bd) < 0) = decide (bn < 0) := by
    by_cases hb : bn < 0
    · rw [if_pos hb, decide_eq_true hb]; exact decide_eq_true (by omega)
    · rw [if_neg hb, decide_eq_false hb]; exact decide_eq_false (by omega)
  have e2 : (if bn < 0 then -bd else bd).natAbs = bd.natAbs := by split <;> simp
  rwa [e1, e2] at this
def RBig (w : World) (N : Int) (D : Nat) (e : Ending) (w' : World) : Prop := ∃ s t : Sl, e = .returned (.agg #[.bool (decide (frI N D < 0)), .slice s.a s.len s.cap, .slice t.a t.len t.cap]) ∧ NumAt w' s (frI N D).natAbs ∧ NumAt w' t (frd N D) ∧ Cls w w'
theorem Plus_calls (N1 N2 : Int) (D1 D2 : Nat) (a1 : Option Addr) (n1 c1 : Nat) (a2 : Option Addr) (n2 c2 : Nat) (a3 : Option Addr) (n3 c3 : Nat) (a4 : Option Addr) (n4 c4 : Nat) (w : World) (h1 : NumAt w ⟨a1, n1, c1⟩ N1.natAbs) (h2 : NumAt w ⟨a2, n2, c2⟩ D1) (h3 : NumAt w ⟨a3, n3, c3⟩ N2.natAbs) (h4 : NumAt w ⟨a4, n4, c4⟩ D2)
    (k1 : N1.natAbs < 1000000000 ^ 100) (k2 : D1 < 1000000000 ^ 100) (k3 : N2.natAbs < 1000000000 ^ 100) (k4 : D2 < 1000000000 ^ 100) (hD0 : 0 < D1 * D2) :
    Calls Try.prog 32 #[.agg #[.bool (decide (N1 < 0)), .slice a1 n1 c1, .slice a2 n2 c2], .agg #[.bool (decide (N2 < 0)), .slice a3 n3 c3, .slice a4 n4 c4]] w (RBig w (N1 * D2 + N2 * D1) (D1 * D2)) := by
  obtain ⟨p1, p2, p3⟩ := plus_ways N1 N2 D1 D2
  by_cases hb : decide (N1 < 0) = decide (N2 < 0)
  · exact rPlus_same _ _ a1 n1 c1 a2 n2 c2 a3 n3 c3 a4 n4 c4 N1.natAbs D1 N2.natAbs D2 _ _ w h1 h2 h3 h4 k1 k2 k3 k4 rfl hD0 hb (p1 hb)
  · by_cases hx : N2.natAbs * D1 ≤ N1.natAbs * D2
    · exact rPlus_more _ _ a1 n1 c1 a2 n2 c2 a3 n3 c3 a4 n4 c4 N1.natAbs D1 N2.natAbs D2 _ _ w h1 h2 h3 h4 k1 k2 k3 k4 rfl hD0 hb hx (p2 hb hx)
    · exact rPlus_less _ _ a1 n1 c1 a2 n2 c2 a3 n3 c3 a4 n4 c4 N1.natAbs D1 N2.natAbs D2 _ _ w h1 h2 h3 h4 k1 k2 k3 k4 rfl hD0 hb (by omega) (p3 hb (by omega))
end Go.Proofs.Ytogjollefllajaa
