/-
  The reference's CheckBounds.
-/
import Derived.Test.YthbdkhmgopahbaaJ25
import Derived.Test.YthbdkhmgopahbaaJ27
import Derived.Test.YthbdkhmgopahbaaJ28
set_option linter.unusedVariables false
namespace Go.Proofs.Ythbdkhmgopahbaa
open Go Go.RowKit Go.Deep
theorem cmp_pos (a b : Int) : decide (0 < cmpI a b) = decide (b < a) := by
  rw [Bool.eq_iff_iff, decide_eq_true_iff, decide_eq_true_iff]
  unfold cmpI
  split <;> (try split) <;> omega
theorem cmp_neg (a b : Int) : decide (cmpI a b < 0) = decide (a < b) := by
  rw [Bool.eq_iff_iff, decide_eq_true_iff, decide_eq_true_iff]
  unfold cmpI
  split <;> (try split) <;> omega
theorem cross_lt {L rN rD : Int} {D : Nat} (hD : 0 < D) : rN * (frd L D : Int) < frI L D * rD ↔ rN * (D : Int) < L * rD := by
  have e := fr_cross' L D
  have hf : (0 : Int) < frd L D := by have := frd_pos L hD; omega
  have hd : (0 : Int) < D := by omega
  have h2 : frI L D * rD * D = L * rD * frd L D := by rw [Int.mul_right_comm, e, Int.mul_right_comm]
  have h3 : rN * (frd L D : Int) * D = rN * D * frd L D := Int.mul_right_comm _ _ _
  constructor
  · intro h
    have h1 := Int.mul_lt_mul_of_pos_right h hd
    rw [h2, h3] at h1
    exact Int.lt_of_mul_lt_mul_right h1 (Int.le_of_lt hf)
  · intro h
    have h1 := Int.mul_lt_mul_of_pos_right h hf
    rw [← h2, ← h3] at h1
    exact Int.lt_of_mul_lt_mul_right h1 (Int.le_of_lt hd)
theorem cross_gt {L rN rD : Int} {D : Nat} (hD : 0 < D) : frI L D * rD < rN * (frd L D : Int) ↔ L * rD < rN * (D : Int) := by
  have e := fr_cross' L D
  have hf : (0 : Int) < frd L D := by have := frd_pos L hD; omega
  have hd : (0 : Int) < D := by omega
  have h2 : frI L D * rD * D = L * rD * frd L D := by rw [Int.mul_right_comm, e, Int.mul_right_comm]
  have h3 : rN * (frd L D : Int) * D = rN * D * frd L D := Int.mul_right_comm _ _ _
  constructor
  · intro h
    have h1 := Int.mul_lt_mul_of_pos_right h hd
    rw [h2, h3] at h1
    exact Int.lt_of_mul_lt_mul_right h1 (Int.le_of_lt hf)
  · intro h
    have h1 := Int.mul_lt_mul_of_pos_right h hf
    rw [← h2, ← h3] at h1
    exact Int.lt_of_mul_lt_mul_right h1 (Int.le_of_lt hd)
/-- Two numbers with their signs are stored, each into a block of its own. -/
def six (W : World) (A B : Nat) (v0 v1 v2 v3 v4 v5 : Value) : World := (((((W.setCell ⟨A, 0, none⟩ v0).setCell ⟨A, 1, none⟩ v1).setCell ⟨A, 2, none⟩ v2).setCell ⟨B, 0, none⟩ v3).setCell ⟨B, 1, none⟩ v4).setCell ⟨B, 2, none⟩ v5
theorem six_at {W : World} {A B : Nat} {x x' : Bool} {a a' b b' : Option Addr} {n c n' c' m d m' d' : Nat} {ty : TypeId} (hA : W.heap[A]? = some (.cells #[.bool x, .slice a n c, .slice a' n' c'] ty)) (hB : W.heap[B]? = some (.cells #[.bool x', .slice b m d, .slice b' m' d'] ty)) (hne : A ≠ B) (v0 v1 v2 v3 v4 v5 : Value) :
    (six W A B v0 v1 v2 v3 v4 v5).heap[A]? = some (.cells #[v0, v1, v2] ty) ∧ (six W A B v0 v1 v2 v3 v4 v5).heap[B]? = some (.cells #[v3, v4, v5] ty) := by
  unfold six
  refine ⟨?_, ?_⟩
  · rw [heap_setCell_other _ _ _ _ hne, heap_setCell_other _ _ _ _ hne, heap_setCell_other _ _ _ _ hne, heap_setCell_same _ _ _ _ _ _ (heap_setCell_same _ _ _ _ _ _ (heap_setCell_same _ _ _ _ _ _ hA))]
    simp
  · have hB' : (((W.setCell ⟨A, 0, none⟩ v0).setCell ⟨A, 1, none⟩ v1).setCell ⟨A, 2, none⟩ v2).heap[B]? = some (.cells #[.bool x', .slice b m d, .slice b' m' d'] ty) := by
      rw [heap_setCell_other _ _ _ _ hne.symm, heap_setCell_other _ _ _ _ hne.symm, heap_setCell_other _ _ _ _ hne.symm]; exact hB
    rw [heap_setCell_same _ _ _ _ _ _ (heap_setCell_same _ _ _ _ _ _ (heap_setCell_same _ _ _ _ _ _ hB'))]
    simp
theorem NumAt.six {W : World} {A B : Nat} {x x' : Bool} {a a' b b' : Option Addr} {n c n' c' m d m' d' k : Nat} {s : Sl} {ty : TypeId} (h : NumAt W s k) (hA : W.heap[A]? = some (.cells #[.bool x, .slice a n c, .slice a' n' c'] ty)) (hB : W.heap[B]? = some (.cells #[.bool x', .slice b m d, .slice b' m' d'] ty)) (hne : A ≠ B) (v0 v1 v2 v3 v4 v5 : Value) : NumAt (six W A B v0 v1 v2 v3 v4 v5) s k := by
  have hB' : (((W.setCell ⟨A, 0, none⟩ v0).setCell ⟨A, 1, none⟩ v1).setCell ⟨A, 2, none⟩ v2).heap[B]? = some (.cells #[.bool x', .slice b m d, .slice b' m' d'] ty) := by
    rw [heap_setCell_other _ _ _ _ hne.symm, heap_setCell_other _ _ _ _ hne.symm, heap_setCell_other _ _ _ _ hne.symm]; exact hB
  exact (h.store3 hA v0 v1 v2).store3 hB' v3 v4 v5
theorem Below.six {w0 W : World} {n A B : Nat} (h : Below n w0 W) (hA : n ≤ A) (hB : n ≤ B) (v0 v1 v2 v3 v4 v5 : Value) : Below n w0 (six W A B v0 v1 v2 v3 v4 v5) :=
  (((((h.setCell hA _).setCell hA _).setCell hA _).setCell hB _).setCell hB _).setCell hB _
theorem RTotAt.two {w0 W : World} {A B : Nat} {N M : Int} {D : Nat} {x x' : Bool} {s t s' t' : Sl} {a a' b b' : Option Addr} {n c n' c' m d m' d' : Nat} (hA : W.heap[A]? = some (.cells #[.bool x, .slice a n c, .slice a' n' c'] 67)) (hB : W.heap[B]? = some (.cells #[.bool x', .slice b m d, .slice b' m' d'] 67)) (hne : A ≠ B) (hbA : w0.heap.size ≤ A) (hbB : w0.heap.size ≤ B) (hs : NumAt W s (frI N D).natAbs) (ht : NumAt W t (frd N D)) (hs' : NumAt W s' (frI M D).natAbs) (ht' : NumAt W t' (frd M D)) (hb : Below w0.heap.size w0 W) :
    RTotAt w0 A N D (Go.Proofs.Ythbdkhmgopahbaa.six W A B (.bool (decide (frI N D < 0))) (.slice s.a s.len s.cap) (.slice t.a t.len t.cap) (.bool (decide (frI M D < 0))) (.slice s'.a s'.len s'.cap) (.slice t'.a t'.len t'.cap)) ∧ RTotAt w0 B M D (Go.Proofs.Ythbdkhmgopahbaa.six W A B (.bool (decide (frI N D < 0))) (.slice s.a s.len s.cap) (.slice t.a t.len t.cap) (.bool (decide (frI M D < 0))) (.slice s'.a s'.len s'.cap) (.slice t'.a t'.len t'.cap)) := by
  obtain ⟨m1, m2⟩ := six_at hA hB hne (.bool (decide (frI N D < 0))) (.slice s.a s.len s.cap) (.slice t.a t.len t.cap) (.bool (decide (frI M D < 0))) (.slice s'.a s'.len s'.cap) (.slice t'.a t'.len t'.cap)
  exact ⟨⟨s, t, m1, hs.six hA hB hne _ _ _ _ _ _, ht.six hA hB hne _ _ _ _ _ _, hbA, Below.six hb hbA hbB _ _ _ _ _ _⟩, ⟨s', t', m2, hs'.six hA hB hne _ _ _ _ _ _, ht'.six hA hB hne _ _ _ _ _ _, hbB, Below.six hb hbA hbB _ _ _ _ _ _⟩⟩
theorem wp_at {c : Code} {Q : Exit → Act → World → Prop} {a : Act} {W : World} (M : World → Prop) (h : M W) (k : ∀ W', M W' → c.wp Try.prog Q a W') : c.wp Try.prog Q a W := k W h
/-- The slice holds these fractions, as numbers of any size. -/
def BigsC (w : World) (s : Sl) (cN cD : Nat → Int) : Prop :=
  s.len ≤ s.cap ∧ s.cap ≤ maxLen ∧ ∃ sk tk : Nat → Sl, (∀ i, i < s.len → NumAt w (sk i) (cN i).natAbs ∧ NumAt w (tk i) (cD i).natAbs) ∧ (s.len = 0 ∨ ∃ b off, s.a = some ⟨b, off, none⟩ ∧ b < w.heap.size ∧ ∀ i, i < s.len →
    w.cell? ⟨b, off + i * 3, none⟩ = some (.bool (decide (cN i < 0))) ∧ w.cell? ⟨b, off + i * 3 + 1, none⟩ = some (.slice (sk i).a (sk i).len (sk i).cap) ∧ w.cell? ⟨b, off + i * 3 + 2, none⟩ = some (.slice (tk i).a (tk i).len (tk i).cap))
theorem BigsA.fit {w : World} {s : Sl} {N : Nat → Int} {D : Nat} {cN cD : Nat → Int} (h : BigsA w s N D) (e : ∀ i, i < s.len → cN i = frI (N i) D ∧ (cD i).natAbs = frd (N i) D) : BigsC w s cN cD := by
  obtain ⟨h1, h2, sk, tk, h3, h4⟩ := h
  refine ⟨h1, h2, sk, tk, fun i hi => ?_, h4.imp id ?_⟩
  · rw [(e i hi).1, (e i hi).2]; exact h3 i hi
  · rintro ⟨b, off, ha, hlt, hc⟩
    exact ⟨b, off, ha, hlt, fun i hi => by rw [(e i hi).1]; exact hc i hi⟩
theorem cmE0_zero {y : Sy} {n : Nat} {mn md : Nat → Int} (h : cmE y n mn md = 0) : cmE0 y n mn md = 0 := by
  by_cases h0 : cmE0 y n mn md = 0
  · exact h0
  · have := (cmE_of y n mn md).1 h0
    rw [h] at this
    exact absurd this.symm h0
theorem fr_fit {N : Int} {D : Nat} (h : frOk N D = true) : frN N D = frI N D ∧ (frD N D).natAbs = frd N D := by
  unfold frN frD
  rw [if_pos h, if_pos h]
  exact ⟨rfl, by omega⟩
set_option maxHeartbeats 32000000 in
set_option maxRecDepth 20000 in
theorem rCheckBounds_calls (y : Sy) (la : Option Addr) (ln lc : Nat) (fl : Nat → Int) (pa : Option Addr) (pn pc : Nat) (fp : Nat → Int) (a : Option Addr) (n c : Nat) (mn md : Nat → Int) (w : World) (h : SysA w y) (hl : IntsA w ⟨la, ln, lc⟩ fl) (hp : IntsA w ⟨pa, pn, pc⟩ fp) (hx : FrsA w ⟨a, n, c⟩ mn md) (hi : ∀ i, i < n → In64 (mn i) ∧ In64 (md i)) (hn : n ≤ 15) (hun : y.U.len ≤ 15) :
    Calls Try.prog 15 #[y.v, .slice la ln lc, .slice pa pn pc, .slice a n c] w fun e w' => e = .returned (.bool (cbB y n mn md ln fl pn fp)) ∧ Cls w w' := by
  have C0 := Lib.hid (fun (W : World) (hb : Below w.heap.size w W) => rCombine_calls y a n c mn md W (h.later hb) (hx.later hb) hi hn)
  have lm := hl.2.1
  have pm := hp.2.1
  have ll := hl.1
  have pl := hp.1
  unfold maxLen at lm pm
  simp only at lm pm ll pl
  unfold cbB exN exD
  by_cases hce : cmE y n mn md = 0
  case neg =>
    have C1 : Hid (∀ W, Below w.heap.size w W → Calls Try.prog 10 #[y.v, .slice a n c] W fun e w' => e = .returned (.tuple #[.slice none 0 0, .agg #[.int .i64 0, .int .i64 0], .int .i64 (cmE y n mn md)]) ∧ Cls W w') := Lib.hid fun W hb => (C0.out W hb).mono fun e w' hh => hh.no hce
    have d0 : (cmE y n mn md == 0) = false := by simpa using hce
    have d1 : (cmE y n mn md != 0) = true := by simpa using hce
    rw [d0]
    unfold Sy.v at *
    clear C0 hce h hl hp hx hi
    generalize cmE y n mn md = ce at *
    generalize y.U.a = ua at *
    generalize y.U.len = un at *
    generalize y.U.cap = uc at *
    generalize y.R.a = ra at *
    generalize y.R.len = rn at *
    generalize y.R.cap = rc at *
    generalize y.B.a = ba at *
    generalize y.B.len = bn at *
    generalize y.B.cap = bc at *
    go_enter Try.func15, Try.ntmps15
    go_wp2_with (go_at_call 10; (with_reducible refine Calls.mono (C1.out _ ?_) ?_); (focus (repeat first | with_reducible exact Below.refl _ _ | with_reducible refine Below.setCell ?_ (by first | omega | (simp; done) | (simp; omega)) _ | with_reducible refine Below.alloc ?_ (by first | omega | (simp; done) | (simp; omega)) _ | with_reducible refine Below.drew ?_ | with_reducible refine Ext.on _ ?_ (by first | omega | (simp; done) | (simp; omega)))); rintro e _ ⟨rfl, ⟨x, rfl⟩⟩; have xs := x.size; (try simp at xs))
    go_ret
    refine ⟨rfl, Cls.of ?_⟩
    repeat first | with_reducible exact Below.refl _ _ | with_reducible refine Below.setCell ?_ (by first | omega | (simp; done) | (simp; omega)) _ | with_reducible refine Below.alloc ?_ (by first | omega | (simp; done) | (simp; omega)) _ | with_reducible refine Below.drew ?_ | with_reducible refine Ext.on _ ?_ (by first | omega | (simp; done) | (simp; omega))
  case pos =>
    have C1 : Hid (∀ W, Below w.heap.size w W → Calls Try.prog 10 #[y.v, .slice a n c] W fun e w' => ∃ (a : Option Addr) (c : Nat), e = .returned (.tuple #[.slice a y.U.len c, .agg #[.int .i64 (crN y n mn md), .int .i64 (crD y n mn md)], .int .i64 0]) ∧ FrsA w' ⟨a, y.U.len, c⟩ (cbN y n mn md) (cbD y n mn md) ∧ Cls W w') := Lib.hid fun W hb => (C0.out W hb).mono fun e w' hh => hh.yes hce
    have um := h.U.2.1
    unfold maxLen at um
    by_cases hll : ln = y.U.len
    case neg =>
      have d1 : ((ln : Int) != ((y.U.len : Nat) : Int)) = true := by simp; omega
      have hB : ((cmE y n mn md == 0) && ((okL y.U.len ln fl && okL y.U.len pn fp) && (anyB (fun i => decide (fp i < fl i)) y.U.len || (decide (0 < cmpI (totN (exU (cbN y n mn md) fp fl y.U.len) (cbN y n mn md) (fun i => (cbD y n mn md i).natAbs) y.U.len * crD y n mn md) (crN y n mn md * (totD (fun i => (cbD y n mn md i).natAbs) y.U.len : Nat))) || decide (cmpI (totN (exU (cbN y n mn md) fl fp y.U.len) (cbN y n mn md) (fun i => (cbD y n mn md i).natAbs) y.U.len * crD y n mn md) (crN y n mn md * (totD (fun i => (cbD y n mn md i).natAbs) y.U.len : Nat)) < 0))))) = false := by
        rw [show okL y.U.len ln fl = false by unfold okL; rw [decide_eq_false hll]; rfl]; simp
      rw [hB]
      unfold Sy.v at *
      clear C0 hce h hl hp hx hi hB hll
      generalize cbN y n mn md = fN at *
      generalize cbD y n mn md = fD at *
      generalize crN y n mn md = rN at *
      generalize crD y n mn md = rD at *
      generalize y.U.a = ua at *
      generalize y.U.len = un at *
      generalize y.U.cap = uc at *
      generalize y.R.a = ra at *
      generalize y.R.len = rn at *
      generalize y.R.cap = rc at *
      generalize y.B.a = ba at *
      generalize y.B.len = bn at *
      generalize y.B.cap = bc at *
      go_enter Try.func15, Try.ntmps15
      go_wp2_with (go_at_call 10; (with_reducible refine Calls.mono (C1.out _ ?_) ?_); (focus (repeat first | with_reducible exact Below.refl _ _ | with_reducible refine Below.setCell ?_ (by first | omega | (simp; done) | (simp; omega)) _ | with_reducible refine Below.alloc ?_ (by first | omega | (simp; done) | (simp; omega)) _ | with_reducible refine Below.drew ?_ | with_reducible refine Ext.on _ ?_ (by first | omega | (simp; done) | (simp; omega)))); rintro e _ ⟨sa, sc, rfl, hf, ⟨x, rfl⟩⟩; have xs := x.size; (try simp at xs); clear hf; obtain ⟨hx0, c0, c1, c2⟩ := three_s ((x.below.block w.heap.size (by simp)).trans (heap_alloc_new w _)))
      go_ret
      refine ⟨rfl, Cls.of ?_⟩
      repeat first | with_reducible exact Below.refl _ _ | with_reducible refine Below.setCell ?_ (by first | omega | (simp; done) | (simp; omega)) _ | with_reducible refine Below.alloc ?_ (by first | omega | (simp; done) | (simp; omega)) _ | with_reducible refine Below.drew ?_ | with_reducible refine Ext.on _ ?_ (by first | omega | (simp; done) | (simp; omega))
    case pos =>
      by_cases hpp : pn = y.U.len
      case neg =>
        have d1 : ((ln : Int) != ((y.U.len : Nat) : Int)) = false := by simp; omega
        have d2 : ((pn : Int) != ((y.U.len : Nat) : Int)) = true := by simp; omega
        have hB : ((cmE y n mn md == 0) && ((okL y.U.len ln fl && okL y.U.len pn fp) && (anyB (fun i => decide (fp i < fl i)) y.U.len || (decide (0 < cmpI (totN (exU (cbN y n mn md) fp fl y.U.len) (cbN y n mn md) (fun i => (cbD y n mn md i).natAbs) y.U.len * crD y n mn md) (crN y n mn md * (totD (fun i => (cbD y n mn md i).natAbs) y.U.len : Nat))) || decide (cmpI (totN (exU (cbN y n mn md) fl fp y.U.len) (cbN y n mn md) (fun i => (cbD y n mn md i).natAbs) y.U.len * crD y n mn md) (crN y n mn md * (totD (fun i => (cbD y n mn md i).natAbs) y.U.len : Nat)) < 0))))) = false := by
          rw [show okL y.U.len pn fp = false by unfold okL; rw [decide_eq_false hpp]; rfl]; simp
        rw [hB]
        unfold Sy.v at *
        clear C0 hce h hl hp hx hi hB hll hpp
        generalize cbN y n mn md = fN at *
        generalize cbD y n mn md = fD at *
        generalize crN y n mn md = rN at *
        generalize crD y n mn md = rD at *
        generalize y.U.a = ua at *
        generalize y.U.len = un at *
        generalize y.U.cap = uc at *
        generalize y.R.a = ra at *
        generalize y.R.len = rn at *
        generalize y.R.cap = rc at *
        generalize y.B.a = ba at *
        generalize y.B.len = bn at *
        generalize y.B.cap = bc at *
        go_enter Try.func15, Try.ntmps15
        go_wp2_with (go_at_call 10; (with_reducible refine Calls.mono (C1.out _ ?_) ?_); (focus (repeat first | with_reducible exact Below.refl _ _ | with_reducible refine Below.setCell ?_ (by first | omega | (simp; done) | (simp; omega)) _ | with_reducible refine Below.alloc ?_ (by first | omega | (simp; done) | (simp; omega)) _ | with_reducible refine Below.drew ?_ | with_reducible refine Ext.on _ ?_ (by first | omega | (simp; done) | (simp; omega)))); rintro e _ ⟨sa, sc, rfl, hf, ⟨x, rfl⟩⟩; have xs := x.size; (try simp at xs); clear hf; obtain ⟨hx0, c0, c1, c2⟩ := three_s ((x.below.block w.heap.size (by simp)).trans (heap_alloc_new w _)))
        go_ret
        refine ⟨rfl, Cls.of ?_⟩
        repeat first | with_reducible exact Below.refl _ _ | with_reducible refine Below.setCell ?_ (by first | omega | (simp; done) | (simp; omega)) _ | with_reducible refine Below.alloc ?_ (by first | omega | (simp; done) | (simp; omega)) _ | with_reducible refine Below.drew ?_ | with_reducible refine Ext.on _ ?_ (by first | omega | (simp; done) | (simp; omega))
      case pos =>
        obtain ⟨z1, z2, z3, z4⟩ := cmE_zero hce
        have HVK : ∀ k, k < y.U.len → vaB (cbN y n mn md k) (cbD y n mn md k) = true := fun k hk => frOk_va z2 (z4 k hk)
        have HVR : vaB (crN y n mn md) (crD y n mn md) = true := frOk_va z2 z3
        obtain ⟨p1, hp1⟩ : ∃ p : Nat → Bool, (fun i => outB (-1000000000) 1000000000 (fl i) || outB (-1000000000) 1000000000 (fp i)) = p := ⟨_, rfl⟩
        have EX1 : Hid (∀ i, p1 i = (outB (-1000000000) 1000000000 (fl i) || outB (-1000000000) 1000000000 (fp i))) := Lib.hid fun i => by rw [← hp1]
        have hok : (okL y.U.len ln fl && okL y.U.len pn fp) = !anyB p1 y.U.len := by
          unfold okL
          rw [decide_eq_true hll, decide_eq_true hpp, hll, hpp, Bool.true_and, Bool.true_and, ← Bool.not_or]
          congr 1
          rw [Bool.eq_iff_iff, Bool.or_eq_true, anyB_iff, anyB_iff, anyB_iff]
          constructor
          · rintro (⟨i, h1, h2⟩ | ⟨i, h1, h2⟩)
            · exact ⟨i, h1, by rw [EX1.out, h2]; rfl⟩
            · exact ⟨i, h1, by rw [EX1.out, h2]; simp⟩
          · rintro ⟨i, h1, h2⟩
            rw [EX1.out, Bool.or_eq_true] at h2
            exact h2.imp (fun q => ⟨i, h1, q⟩) (fun q => ⟨i, h1, q⟩)
        obtain ⟨p2, hp2⟩ : ∃ p : Nat → Bool, (fun i => decide (fp i < fl i)) = p := ⟨_, rfl⟩
        have EX2 : Hid (∀ i, p2 i = decide (fp i < fl i)) := Lib.hid fun i => by rw [← hp2]
        rw [hce, hok, hp2]
        have C2 : Hid (∀ W, Below w.heap.size w W → Calls Try.prog 29 #[y.v, .slice a n c] W fun e w' => ∃ s p q : Sl, e = .returned (.tuple #[.slice s.a s.len s.cap, .agg #[.bool (decide (crN y n mn md < 0)), .slice p.a p.len p.cap, .slice q.a q.len q.cap], .int .i64 0]) ∧ (s.len = y.U.len ∧ BigsC w' s (cbN y n mn md) (cbD y n mn md) ∧ NumAt w' p (crN y n mn md).natAbs ∧ NumAt w' q (crD y n mn md).natAbs) ∧ Cls W w') := Lib.hid fun W hb => (rcombined_calls y a n c mn md W (h.later hb) (hx.later hb) hi hn).mono fun e w' hh => by
          obtain ⟨s, g, p, q, he, hok, hcl⟩ := hh
          have h0 := cmE0_zero hce
          obtain ⟨k1, k2, k3, k4, k5⟩ := hok h0
          rw [h0] at he
          obtain ⟨r1, r2⟩ := fr_fit z3
          have e1 : crN y n mn md = frI (totN y.rt mn (fdN md) n) (totD (fdN md) n) := r1
          have e2 : (crD y n mn md).natAbs = frd (totN y.rt mn (fdN md) n) (totD (fdN md) n) := r2
          refine ⟨s, p, q, by rw [e1, ← k3]; exact he, ⟨k1, k2.fit fun i hi => fr_fit (z4 i (by omega)), by rw [e1]; exact k4, by rw [e2]; exact k5⟩, hcl⟩
        have CW0 : Hid (∀ W, Calls Try.prog 38 #[.int .i64 0] W fun e w' => ∃ s t : Sl, e = .returned (.agg #[.bool false, .slice s.a s.len s.cap, .slice t.a t.len t.cap]) ∧ NumAt w' s 0 ∧ NumAt w' t 1 ∧ Cls W w') := Lib.hid fun W => rWhole_calls 0 W (by unfold In64; omega)
        have HVK := Lib.hid HVK
        have HVR := Lib.hid HVR
        clear hok hp1 hp2 hce z1 z3 z4
        have HL := Lib.hid hl.2.2
        have HP := Lib.hid hp.2.2
        unfold Sy.v at *
        clear C0 h hl hp hx hi
        generalize cbN y n mn md = fN at *
        generalize cbD y n mn md = fD at *
        generalize crN y n mn md = rN at *
        generalize crD y n mn md = rD at *
        generalize y.U.a = ua at *
        generalize y.U.cap = uc at *
        generalize y.R.a = ra at *
        generalize y.R.len = rn at *
        generalize y.R.cap = rc at *
        generalize y.B.a = ba at *
        generalize y.B.len = bn at *
        generalize y.B.cap = bc at *
        subst hll
        subst hpp
        generalize y.U.len = un at *
        obtain ⟨eL, heL⟩ : ∃ e, exU fN fp fl un = e := ⟨_, rfl⟩
        obtain ⟨eM, heM⟩ : ∃ e, exU fN fl fp un = e := ⟨_, rfl⟩
        have EL : Hid (∀ i, i < un → eL i = if fN i < 0 then fp i else fl i) := Lib.hid fun i hi => by rw [← heL]; unfold exU; simp [hi]
        have EM : Hid (∀ i, i < un → eM i = if fN i < 0 then fl i else fp i) := Lib.hid fun i hi => by rw [← heM]; unfold exU; simp [hi]
        rw [heL, heM]
        clear heL heM
        have d1 : ((un : Int) != (un : Int)) = false := by simp
        go_enter Try.func15, Try.ntmps15
        go_wp2_with (go_at_call 10; (with_reducible refine Calls.mono (C1.out _ ?_) ?_); (focus (repeat first | with_reducible exact Below.refl _ _ | with_reducible refine Below.setCell ?_ (by first | omega | (simp; done) | (simp; omega)) _ | with_reducible refine Below.alloc ?_ (by first | omega | (simp; done) | (simp; omega)) _ | with_reducible refine Below.drew ?_ | with_reducible refine Ext.on _ ?_ (by first | omega | (simp; done) | (simp; omega)))); rintro e _ ⟨sa, sc, rfl, hf, ⟨x, rfl⟩⟩; have xs := x.size; (try simp at xs); have HF := Lib.hid hf; clear hf; obtain ⟨hx0, c0, c1, c2⟩ := three_s ((x.below.block w.heap.size (by simp)).trans (heap_alloc_new w _)))
        have HX0 := Lib.hid ((x.below.block w.heap.size (by simp)).trans (heap_alloc_new w _))
        have HWx : Hid (Below w.heap.size w x.val) := Lib.hid (by repeat first | with_reducible exact Below.refl _ _ | with_reducible refine Below.setCell ?_ (by first | omega | (simp; done) | (simp; omega)) _ | with_reducible refine Below.alloc ?_ (by first | omega | (simp; done) | (simp; omega)) _ | with_reducible refine Below.drew ?_ | with_reducible refine Ext.on _ ?_ (by first | omega | (simp; done) | (simp; omega)))
        go_loopw [12] (fun i wr => ∃ j : Nat, j ≤ un ∧ i = .int .i64 j ∧ Hid (fstI p1 0 un = fstI p1 j (un - j)) ∧ Cls (x.val.alloc (.cells #[.int .i64 rN, .int .i64 rD] 34)) wr) (fun i _ => un - (intOf i).toNat)
        case atStart => exact ⟨0, Nat.zero_le _, rfl, Lib.hid rfl, Cls.of (Below.refl _ _)⟩
        case round =>
          obtain ⟨j, hj, rfl, HE, z, rfl⟩ := hrel
          have zs := z.size
          simp at zs
          obtain ⟨hx0, c0, c1, c2⟩ := three_s ((z.below.block w.heap.size (by simp; omega)).trans ((Below.heap_alloc x.val (.cells #[.int .i64 rN, .int .i64 rD] 34) _ (by omega)).trans HX0.out))
          by_cases hltj : j < un
          · have hS : Hid (un - j = (un - (j + 1)) + 1) := Lib.hid (by omega)
            have HIT : Hid (p1 j = true → anyB p1 un = true) := Lib.hid fun hp => anyB_iff.2 ⟨j, hltj, hp⟩
            have NXT : Hid (p1 j = false → fstI p1 0 un = fstI p1 (j + 1) (un - (j + 1))) := Lib.hid fun hp => by rw [HE.out, hS.out, fstI_go hp]
            obtain ⟨b, off, ha, hb2, hc⟩ := HL.out.resolve_left (by omega)
            obtain ⟨b', off', ha', hb2', hc'⟩ := HP.out.resolve_left (by omega)
            subst ha ha'
            have HWz : Below w.heap.size w z.val := z.on (HWx.out.alloc (by omega) _) (by simp; omega)
            have q0 := (HWz.cell (p := ⟨b, off + j, none⟩) hb2).trans (hc j hltj)
            have q1 := (HWz.cell (p := ⟨b', off' + j, none⟩) hb2').trans (hc' j hltj)
            have hwsz := HWz.size
            clear HWz
            have hbz : b < z.val.heap.size := by omega
            have hbz' : b' < z.val.heap.size := by omega
            have CW1 := Lib.hid (fun W => rwithin_calls (fl j) 1000000000 W (by omega) (by omega))
            have CW2 := Lib.hid (fun W => rwithin_calls (fp j) 1000000000 W (by omega) (by omega))
            have EXj := EX1.out j
            clear HE hS hc hc'
            generalize fl j = lj at *
            generalize fp j = hj2 at *
            cases hw1 : outB (-1000000000) 1000000000 lj
            · cases hw2 : outB (-1000000000) 1000000000 hj2
              · rw [hw1, hw2] at EXj
                rw [hw1] at CW1
                rw [hw2] at CW2
                have HN := Lib.hid (NXT.out EXj)
                clear HIT NXT EXj hw1 hw2
                go_wp2_with (first | (go_at_call 37; ((with_reducible refine (CW1.out _).mono ?_); rintro r _ ⟨rfl, rfl⟩)) | (go_at_call 37; ((with_reducible refine (CW2.out _).mono ?_); rintro r _ ⟨rfl, rfl⟩)))
                go_roundw
                case rel => exact ⟨j + 1, by omega, by go_num, HN, z, rfl⟩
                case measure => simp [intOf]; omega
              · rw [hw1, hw2] at EXj
                rw [hw1] at CW1
                rw [hw2] at CW2
                have HV := Lib.hid (HIT.out EXj)
                clear HIT NXT EXj hw1 hw2
                go_wp2_with (first | (go_at_call 37; ((with_reducible refine (CW1.out _).mono ?_); rintro r _ ⟨rfl, rfl⟩)) | (go_at_call 37; ((with_reducible refine (CW2.out _).mono ?_); rintro r _ ⟨rfl, rfl⟩)))
                go_ret
                refine ⟨ret_bool (by rw [HV.out]; rfl), Cls.of ?_⟩
                repeat first | with_reducible exact Below.refl _ _ | with_reducible refine Below.setCell ?_ (by first | omega | (simp; done) | (simp; omega)) _ | with_reducible refine Below.alloc ?_ (by first | omega | (simp; done) | (simp; omega)) _ | with_reducible refine Below.drew ?_ | with_reducible refine Ext.on _ ?_ (by first | omega | (simp; done) | (simp; omega))
            · rw [hw1] at EXj CW1
              have HV := Lib.hid (HIT.out (by rw [EXj]; rfl))
              clear HIT NXT EXj hw1 CW2
              go_wp2_with (go_at_call 37; ((with_reducible refine (CW1.out _).mono ?_); rintro r _ ⟨rfl, rfl⟩))
              go_ret
              refine ⟨ret_bool (by rw [HV.out]; rfl), Cls.of ?_⟩
              repeat first | with_reducible exact Below.refl _ _ | with_reducible refine Below.setCell ?_ (by first | omega | (simp; done) | (simp; omega)) _ | with_reducible refine Below.alloc ?_ (by first | omega | (simp; done) | (simp; omega)) _ | with_reducible refine Below.drew ?_ | with_reducible refine Ext.on _ ?_ (by first | omega | (simp; done) | (simp; omega))
          · have HZ : Hid (anyB p1 un = false) := Lib.hid (by unfold anyB; rw [HE.out, show un - j = 0 by omega]; rfl)
            clear HE
            have hr1 := anyB_no.1 HZ.out
            have HR1 : Hid (∀ i, i < un → (-1000000000 ≤ fl i ∧ fl i ≤ 1000000000) ∧ (-1000000000 ≤ fp i ∧ fp i ≤ 1000000000)) := Lib.hid fun i hi => by
              have := hr1 i hi
              rw [EX1.out, Bool.or_eq_false_iff] at this
              exact ⟨outB_no.1 this.1, outB_no.1 this.2⟩
            clear hr1 EX1
            go_wp2_with fail
            go_loopw [13] (fun i wr => ∃ j : Nat, j ≤ un ∧ i = .int .i64 j ∧ Hid (fstI p2 0 un = fstI p2 j (un - j)) ∧ Cls (x.val.alloc (.cells #[.int .i64 rN, .int .i64 rD] 34)) wr) (fun i _ => un - (intOf i).toNat)
            case atStart => exact ⟨0, Nat.zero_le _, rfl, Lib.hid rfl, z, rfl⟩
            case round =>
              obtain ⟨j, hj, rfl, HE, z, rfl⟩ := hrel
              have zs := z.size
              simp at zs
              obtain ⟨hx0, c0, c1, c2⟩ := three_s ((z.below.block w.heap.size (by simp; omega)).trans ((Below.heap_alloc x.val (.cells #[.int .i64 rN, .int .i64 rD] 34) _ (by omega)).trans HX0.out))
              by_cases hltj : j < un
              · have hS : Hid (un - j = (un - (j + 1)) + 1) := Lib.hid (by omega)
                have HIT : Hid (p2 j = true → anyB p2 un = true) := Lib.hid fun hp => anyB_iff.2 ⟨j, hltj, hp⟩
                have NXT : Hid (p2 j = false → fstI p2 0 un = fstI p2 (j + 1) (un - (j + 1))) := Lib.hid fun hp => by rw [HE.out, hS.out, fstI_go hp]
                obtain ⟨b, off, ha, hb2, hc⟩ := HL.out.resolve_left (by omega)
                obtain ⟨b', off', ha', hb2', hc'⟩ := HP.out.resolve_left (by omega)
                subst ha ha'
                have HWz : Below w.heap.size w z.val := z.on (HWx.out.alloc (by omega) _) (by simp; omega)
                have q0 := (HWz.cell (p := ⟨b, off + j, none⟩) hb2).trans (hc j hltj)
                have q1 := (HWz.cell (p := ⟨b', off' + j, none⟩) hb2').trans (hc' j hltj)
                have hwsz := HWz.size
                have hbz : b < z.val.heap.size := by omega
                have hbz' : b' < z.val.heap.size := by omega
                have EXj := EX2.out j
                clear HE hS hc hc' HWz
                generalize fl j = lj at *
                generalize fp j = hj2 at *
                by_cases hcr : hj2 < lj
                · have d5 : decide (hj2 < lj) = true := decide_eq_true hcr
                  rw [d5] at EXj
                  have HV := Lib.hid (HIT.out EXj)
                  clear HIT NXT EXj
                  go_wp2_with fail
                  refine wp_region_ext (by kernel_rfl) (by kernel_rfl) ?_
                  repeat (go_big_quiet_step (fail))
                  refine wpQuiet_nil ?_
                  rintro _ ⟨z2, rfl⟩
                  have z2s := z2.size
                  go_wp2_with fail
                  go_ret
                  refine ⟨ret_bool (by rw [HZ.out, HV.out]; rfl), Cls.of ?_⟩
                  repeat first | with_reducible exact Below.refl _ _ | with_reducible refine Below.setCell ?_ (by first | omega | (simp; done) | (simp; omega)) _ | with_reducible refine Below.alloc ?_ (by first | omega | (simp; done) | (simp; omega)) _ | with_reducible refine Below.drew ?_ | with_reducible refine Ext.on _ ?_ (by first | omega | (simp; done) | (simp; omega))
                · have d5 : decide (hj2 < lj) = false := decide_eq_false hcr
                  rw [d5] at EXj
                  have HN := Lib.hid (NXT.out EXj)
                  clear HIT NXT EXj
                  go_wp2_with fail
                  refine wp_region_ext (by kernel_rfl) (by kernel_rfl) ?_
                  repeat (go_big_quiet_step (fail))
                  refine wpQuiet_nil ?_
                  rintro _ ⟨z2, rfl⟩
                  have z2s := z2.size
                  go_wp2_with fail
                  go_roundw
                  case rel => exact ⟨j + 1, by omega, by go_num, HN, Cls.of (by repeat first | with_reducible exact Below.refl _ _ | with_reducible refine Below.setCell ?_ (by first | omega | (simp; done) | (simp; omega)) _ | with_reducible refine Below.alloc ?_ (by first | omega | (simp; done) | (simp; omega)) _ | with_reducible refine Below.drew ?_ | with_reducible refine Ext.on _ ?_ (by first | omega | (simp; done) | (simp; omega)))⟩
                  case measure => simp [intOf]; omega
              · have HZ2 : Hid (anyB p2 un = false) := Lib.hid (by unfold anyB; rw [HE.out, show un - j = 0 by omega]; rfl)
                clear HE
                have HWz : Hid (Below w.heap.size w z.val) := Lib.hid (z.on (HWx.out.alloc (by omega) _) (by simp; omega))
                go_wp2_with (first
                  | (go_at_call 29; (with_reducible refine Calls.mono (C2.out _ HWz.out) ?_); rintro e _ ⟨s, p, q, rfl, hok, ⟨x2, rfl⟩⟩; have x2s := x2.size; have HOK := Lib.hid hok; clear hok)
                  | (go_at_call 38; (with_reducible refine Calls.mono (CW0.out (x2.val.alloc _)) ?_); rintro e _ ⟨s7, t7, rfl, hs7, ht7, ⟨y1, rfl⟩⟩; have y1s := y1.size; (try simp at y1s); have HS7 := Lib.hid hs7; have HT7 := Lib.hid ht7; clear hs7 ht7)
                  | (go_at_call 38; (with_reducible refine Calls.mono (CW0.out y1.val) ?_); rintro e _ ⟨s8, t8, rfl, hs8, ht8, ⟨y2, rfl⟩⟩; have y2s := y2.size; have HS8 := Lib.hid hs8; have HT8 := Lib.hid ht8; clear hs8 ht8))
                obtain ⟨hsl, hBC, hp, hq⟩ := HOK.out
                have HBC := Lib.hid hBC
                have HPN := Lib.hid hp
                have HQN := Lib.hid hq
                have HX2 : Hid (Below w.heap.size w x2.val) := Lib.hid (Ext.on x2 HWz.out (by omega))
                have HX2y : Hid (Below x2.val.heap.size x2.val y2.val) := Lib.hid (by repeat first | with_reducible exact Below.refl _ _ | with_reducible refine Below.setCell ?_ (by first | omega | (simp; done) | (simp; omega)) _ | with_reducible refine Below.alloc ?_ (by first | omega | (simp; done) | (simp; omega)) _ | with_reducible refine Below.drew ?_ | with_reducible refine Ext.on _ ?_ (by first | omega | (simp; done) | (simp; omega)))
                have hx2y : x2.val.heap.size < y2.val.heap.size := (by omega)
                have HRB : Hid (y2.val.heap[x2.val.heap.size]? = some (.cells #[.bool (decide (rN < 0)), .slice p.a p.len p.cap, .slice q.a q.len q.cap] 67)) := Lib.hid ((y2.below.block _ (by omega)).trans ((y1.below.block _ (by simp)).trans (heap_alloc_new x2.val _)))
                have HE64 : Hid (∀ i, i < un → (eL i).natAbs < 9223372036854775808 ∧ (eM i).natAbs < 9223372036854775808) := Lib.hid fun i hi => by
                  have := HR1.out i hi
                  rw [EL.out i hi, EM.out i hi]
                  split <;> omega
                have HDp : Hid (∀ k, k ≤ un → 0 < totD (fdN fD) k) := Lib.hid fun k hk => totD_pos k fun i hi => by
                  have := (vaB_rng (HVK.out i (by omega))).1
                  show 0 < (fD i).natAbs
                  omega
                have HBd : Hid (∀ k, k ≤ un → (totN eL fN (fdN fD) k).natAbs < wp 33 ∧ (totN eM fN (fdN fD) k).natAbs < wp 33 ∧ totD (fdN fD) k < wp 33) := Lib.hid fun k hk => by
                  refine ⟨wp_mono (totN_lt k fun m hm => ?_) (by omega), wp_mono (totN_lt k fun m hm => ?_) (by omega), wp_mono (totD_lt k fun m hm => ?_) (by omega)⟩
                  · obtain ⟨b1, b2, b3, b4⟩ := vaB_rng (HVK.out m (by omega))
                    have := HE64.out m (by omega)
                    show (fD m).natAbs < _ ∧ _ ∧ _
                    omega
                  · obtain ⟨b1, b2, b3, b4⟩ := vaB_rng (HVK.out m (by omega))
                    have := HE64.out m (by omega)
                    show (fD m).natAbs < _ ∧ _ ∧ _
                    omega
                  · obtain ⟨b1, b2, b3, b4⟩ := vaB_rng (HVK.out m (by omega))
                    show (fD m).natAbs < _
                    omega
                have H17 : Hid (RTotAt y2.val y2.val.heap.size (totN eL fN (fdN fD) 0) (totD (fdN fD) 0) ((y2.val.alloc (.cells #[.bool false, .slice s7.a s7.len s7.cap, .slice t7.a t7.len t7.cap] 67)).alloc (.cells #[.bool false, .slice s8.a s8.len s8.cap, .slice t8.a t8.len t8.cap] 67))) := Lib.hid (by
                  refine ⟨s7, t7, ?_, ?_, ?_, Nat.le_refl _, by repeat first | with_reducible exact Below.refl _ _ | with_reducible refine Below.setCell ?_ (by first | omega | (simp; done) | (simp; omega)) _ | with_reducible refine Below.alloc ?_ (by first | omega | (simp; done) | (simp; omega)) _ | with_reducible refine Below.drew ?_ | with_reducible refine Ext.on _ ?_ (by first | omega | (simp; done) | (simp; omega))⟩
                  · show _ = some (Obj.cells #[.bool (decide (frI 0 1 < 0)), _, _] _)
                    rw [fr_base.1]; exact heap_two0 y2.val _ _
                  · show NumAt _ _ (frI 0 1).natAbs
                    rw [fr_base.1]; exact HS7.out.later (by repeat first | with_reducible exact Below.refl _ _ | with_reducible refine Below.setCell ?_ (by first | omega | (simp; done) | (simp; omega)) _ | with_reducible refine Below.alloc ?_ (by first | omega | (simp; done) | (simp; omega)) _ | with_reducible refine Below.drew ?_ | with_reducible refine Ext.on _ ?_ (by first | omega | (simp; done) | (simp; omega)))
                  · show NumAt _ _ (frd 0 1)
                    rw [fr_base.2]; exact HT7.out.later (by repeat first | with_reducible exact Below.refl _ _ | with_reducible refine Below.setCell ?_ (by first | omega | (simp; done) | (simp; omega)) _ | with_reducible refine Below.alloc ?_ (by first | omega | (simp; done) | (simp; omega)) _ | with_reducible refine Below.drew ?_ | with_reducible refine Ext.on _ ?_ (by first | omega | (simp; done) | (simp; omega))))
                have H18 : Hid (RTotAt y2.val (y2.val.heap.size + 1) (totN eM fN (fdN fD) 0) (totD (fdN fD) 0) ((y2.val.alloc (.cells #[.bool false, .slice s7.a s7.len s7.cap, .slice t7.a t7.len t7.cap] 67)).alloc (.cells #[.bool false, .slice s8.a s8.len s8.cap, .slice t8.a t8.len t8.cap] 67))) := Lib.hid (by
                  refine ⟨s8, t8, ?_, ?_, ?_, by omega, by repeat first | with_reducible exact Below.refl _ _ | with_reducible refine Below.setCell ?_ (by first | omega | (simp; done) | (simp; omega)) _ | with_reducible refine Below.alloc ?_ (by first | omega | (simp; done) | (simp; omega)) _ | with_reducible refine Below.drew ?_ | with_reducible refine Ext.on _ ?_ (by first | omega | (simp; done) | (simp; omega))⟩
                  · show _ = some (Obj.cells #[.bool (decide (frI 0 1 < 0)), _, _] _)
                    rw [fr_base.1]; exact heap_two1 y2.val _ _
                  · show NumAt _ _ (frI 0 1).natAbs
                    rw [fr_base.1]; exact HS8.out.later (by repeat first | with_reducible exact Below.refl _ _ | with_reducible refine Below.setCell ?_ (by first | omega | (simp; done) | (simp; omega)) _ | with_reducible refine Below.alloc ?_ (by first | omega | (simp; done) | (simp; omega)) _ | with_reducible refine Below.drew ?_ | with_reducible refine Ext.on _ ?_ (by first | omega | (simp; done) | (simp; omega)))
                  · show NumAt _ _ (frd 0 1)
                    rw [fr_base.2]; exact HT8.out.later (by repeat first | with_reducible exact Below.refl _ _ | with_reducible refine Below.setCell ?_ (by first | omega | (simp; done) | (simp; omega)) _ | with_reducible refine Below.alloc ?_ (by first | omega | (simp; done) | (simp; omega)) _ | with_reducible refine Below.drew ?_ | with_reducible refine Ext.on _ ?_ (by first | omega | (simp; done) | (simp; omega))))
                clear HS7 HT7 HS8 HT8 hBC hp hq HOK C1 C2 CW0 HX0 EX2 hx0 c0 c1 c2
                go_loopw [19] (fun i wr => ∃ k : Nat, k ≤ un ∧ i = .int .i64 k ∧ Hid (RTotAt y2.val y2.val.heap.size (totN eL fN (fdN fD) k) (totD (fdN fD) k) wr) ∧ Hid (RTotAt y2.val (y2.val.heap.size + 1) (totN eM fN (fdN fD) k) (totD (fdN fD) k) wr)) (fun i _ => un - (intOf i).toNat)
                case atStart => exact ⟨0, Nat.zero_le _, rfl, H17, H18⟩
                case round =>
                  obtain ⟨k, hk, rfl, hA, hB⟩ := hrel
                  obtain ⟨sa7, ta7, hT7, hs7, ht7, hb7, hBL⟩ := hA.out
                  obtain ⟨sa8, ta8, hT8, hs8, ht8, hb8, _⟩ := hB.out
                  have hBs := hBL.size
                  obtain ⟨hb7l, _, _, _, e0, e1, e2⟩ := three_n hT7
                  obtain ⟨hb8l, _, _, _, f0, f1, f2⟩ := three_n hT8
                  have HT7 := Lib.hid hT7
                  have HT8 := Lib.hid hT8
                  have HBL := Lib.hid hBL
                  have HS7 := Lib.hid hs7
                  have HS7' := Lib.hid ht7
                  have HS8 := Lib.hid hs8
                  have HS8' := Lib.hid ht8
                  have HXw : Hid (Below x2.val.heap.size x2.val wr) := Lib.hid (HX2y.out.trans (hBL.mono (by omega)))
                  have HWw : Hid (Below w.heap.size w wr) := Lib.hid (HX2.out.trans (HXw.out.mono HX2.out.size))
                  clear hT7 hs7 ht7 hT8 hs8 ht8 hBL hA hB H17 H18
                  by_cases hltk : k < un
                  · obtain ⟨hsc, hscm, sk, tk, h3, h4⟩ := HBC.out
                    obtain ⟨b, off, ha, hlt, hc⟩ := h4.resolve_left (by omega)
                    unfold maxLen at hscm
                    obtain ⟨q0, q1, q2⟩ := hc k (by omega)
                    obtain ⟨n1, n2⟩ := h3 k (by omega)
                    have r0 := (HXw.out.cell (p := ⟨b, off + k * 3, none⟩) hlt).trans q0
                    have r1 := (HXw.out.cell (p := ⟨b, off + k * 3 + 1, none⟩) hlt).trans q1
                    have r2 := (HXw.out.cell (p := ⟨b, off + k * 3 + 2, none⟩) hlt).trans q2
                    have hbw : b < wr.heap.size := by have := HXw.out.size; omega
                    obtain ⟨bl, offl, hal, hbl2, hcl⟩ := HL.out.resolve_left (by omega)
                    obtain ⟨bp, offp, hap, hbp2, hcp⟩ := HP.out.resolve_left (by omega)
                    have g0 := (HWw.out.cell (p := ⟨bl, offl + k, none⟩) hbl2).trans (hcl k hltk)
                    have g1 := (HWw.out.cell (p := ⟨bp, offp + k, none⟩) hbp2).trans (hcp k hltk)
                    have hblw : bl < wr.heap.size := by have := HWw.out.size; omega
                    have hbpw : bp < wr.heap.size := by have := HWw.out.size; omega
                    have hr1 := HR1.out k hltk
                    have hvk := HVK.out k hltk
                    have hBk := HBd.out k hk
                    have hDk := HDp.out k hk
                    have ELk := EL.out k hltk
                    have EMk := EM.out k hltk
                    have hE := HE64.out k hltk
                    have N1 := Lib.hid (n1.later HXw.out)
                    have N2 := Lib.hid (n2.later HXw.out)
                    clear hcl hcp hc h3 h4 q0 q1 q2 n1 n2 EL EM HE64 HBd HDp HR1 HBC
                    obtain ⟨sa9, sn9, sc9⟩ := s
                    simp only at ha hsl hsc hscm
                    have hsl' := hsl.symm
                    subst hal hap ha hsl'
                    have G0 : Hid (∀ x : Ext wr, x.val.cell? ⟨bl, offl + k, none⟩ = some (.int .i64 (fl k))) := Lib.hid fun x => (x.below.cell (p := ⟨bl, offl + k, none⟩) hblw).trans g0
                    have G1 : Hid (∀ x : Ext wr, x.val.cell? ⟨bp, offp + k, none⟩ = some (.int .i64 (fp k))) := Lib.hid fun x => (x.below.cell (p := ⟨bp, offp + k, none⟩) hbpw).trans g1
                    have CWl := Lib.hid (fun W => rWhole_calls (fl k) W (by unfold In64; omega))
                    have CWp := Lib.hid (fun W => rWhole_calls (fp k) W (by unfold In64; omega))
                    have CTl : Hid (∀ (W : World) (s2 t2 s3 t3 : Sl), NumAt W s2 (fN k).natAbs → NumAt W t2 (fD k).natAbs → NumAt W s3 (fl k).natAbs → NumAt W t3 1 → Calls Try.prog 39 #[.agg #[.bool (decide (fN k < 0)), .slice s2.a s2.len s2.cap, .slice t2.a t2.len t2.cap], .agg #[.bool (decide (fl k < 0)), .slice s3.a s3.len s3.cap, .slice t3.a t3.len t3.cap]] W (RB (decide (frI (fN k * fl k) ((fD k).natAbs * 1) < 0)) (frI (fN k * fl k) ((fD k).natAbs * 1)).natAbs (frd (fN k * fl k) ((fD k).natAbs * 1)) W)) := Lib.hid fun W s2 t2 s3 t3 h1 h2 h3 h4 => rterm_calls (fN k) (fl k) (fD k) hvk (by omega) W s2 t2 s3 t3 h1 h2 h3 h4
                    have CTp : Hid (∀ (W : World) (s2 t2 s3 t3 : Sl), NumAt W s2 (fN k).natAbs → NumAt W t2 (fD k).natAbs → NumAt W s3 (fp k).natAbs → NumAt W t3 1 → Calls Try.prog 39 #[.agg #[.bool (decide (fN k < 0)), .slice s2.a s2.len s2.cap, .slice t2.a t2.len t2.cap], .agg #[.bool (decide (fp k < 0)), .slice s3.a s3.len s3.cap, .slice t3.a t3.len t3.cap]] W (RB (decide (frI (fN k * fp k) ((fD k).natAbs * 1) < 0)) (frI (fN k * fp k) ((fD k).natAbs * 1)).natAbs (frd (fN k * fp k) ((fD k).natAbs * 1)) W)) := Lib.hid fun W s2 t2 s3 t3 h1 h2 h3 h4 => rterm_calls (fN k) (fp k) (fD k) hvk (by omega) W s2 t2 s3 t3 h1 h2 h3 h4
                    unfold RB at CTl CTp
                    have CPLp : Hid (¬ fN k < 0 → ∀ (W : World) (s4 t4 : Sl), Below wr.heap.size wr W → NumAt W s4 (frI (fN k * fl k) ((fD k).natAbs * 1)).natAbs → NumAt W t4 (frd (fN k * fl k) ((fD k).natAbs * 1)) → Calls Try.prog 41 #[.agg #[.bool (decide (frI (totN eL fN (fdN fD) k) (totD (fdN fD) k) < 0)), .slice sa7.a sa7.len sa7.cap, .slice ta7.a ta7.len ta7.cap], .agg #[.bool (decide (frI (fN k * fl k) ((fD k).natAbs * 1) < 0)), .slice s4.a s4.len s4.cap, .slice t4.a t4.len t4.cap]] W (RBig W (totN eL fN (fdN fD) (k + 1)) (totD (fdN fD) (k + 1)))) := Lib.hid fun hc W s4 t4 hb h3 h4 => by
                      have ee : eL k = fl k := by rw [ELk]; first | rw [if_pos hc] | rw [if_neg hc]
                      have := radd_calls (totN eL fN (fdN fD) k) (totD (fdN fD) k) (fN k) (eL k) (fD k) hDk hBk.1 hBk.2.2 hvk (by first | exact hE.1 | exact hE.2) W sa7 ta7 s4 t4 (HS7.out.later hb) (HS7'.out.later hb) (by rw [ee]; exact h3) (by rw [ee]; exact h4)
                      rw [ee] at this
                      have e2 : totN eL fN (fdN fD) (k + 1) = totN eL fN (fdN fD) k * ((fD k).natAbs : Nat) + fl k * fN k * (totD (fdN fD) k : Int) := by rw [← ee]; rfl
                      rw [e2]
                      exact this
                    have CPLn : Hid (fN k < 0 → ∀ (W : World) (s4 t4 : Sl), Below wr.heap.size wr W → NumAt W s4 (frI (fN k * fp k) ((fD k).natAbs * 1)).natAbs → NumAt W t4 (frd (fN k * fp k) ((fD k).natAbs * 1)) → Calls Try.prog 41 #[.agg #[.bool (decide (frI (totN eL fN (fdN fD) k) (totD (fdN fD) k) < 0)), .slice sa7.a sa7.len sa7.cap, .slice ta7.a ta7.len ta7.cap], .agg #[.bool (decide (frI (fN k * fp k) ((fD k).natAbs * 1) < 0)), .slice s4.a s4.len s4.cap, .slice t4.a t4.len t4.cap]] W (RBig W (totN eL fN (fdN fD) (k + 1)) (totD (fdN fD) (k + 1)))) := Lib.hid fun hc W s4 t4 hb h3 h4 => by
                      have ee : eL k = fp k := by rw [ELk]; first | rw [if_pos hc] | rw [if_neg hc]
                      have := radd_calls (totN eL fN (fdN fD) k) (totD (fdN fD) k) (fN k) (eL k) (fD k) hDk hBk.1 hBk.2.2 hvk (by first | exact hE.1 | exact hE.2) W sa7 ta7 s4 t4 (HS7.out.later hb) (HS7'.out.later hb) (by rw [ee]; exact h3) (by rw [ee]; exact h4)
                      rw [ee] at this
                      have e2 : totN eL fN (fdN fD) (k + 1) = totN eL fN (fdN fD) k * ((fD k).natAbs : Nat) + fp k * fN k * (totD (fdN fD) k : Int) := by rw [← ee]; rfl
                      rw [e2]
                      exact this
                    have CPMp : Hid (¬ fN k < 0 → ∀ (W : World) (s4 t4 : Sl), Below wr.heap.size wr W → NumAt W s4 (frI (fN k * fp k) ((fD k).natAbs * 1)).natAbs → NumAt W t4 (frd (fN k * fp k) ((fD k).natAbs * 1)) → Calls Try.prog 41 #[.agg #[.bool (decide (frI (totN eM fN (fdN fD) k) (totD (fdN fD) k) < 0)), .slice sa8.a sa8.len sa8.cap, .slice ta8.a ta8.len ta8.cap], .agg #[.bool (decide (frI (fN k * fp k) ((fD k).natAbs * 1) < 0)), .slice s4.a s4.len s4.cap, .slice t4.a t4.len t4.cap]] W (RBig W (totN eM fN (fdN fD) (k + 1)) (totD (fdN fD) (k + 1)))) := Lib.hid fun hc W s4 t4 hb h3 h4 => by
                      have ee : eM k = fp k := by rw [EMk]; first | rw [if_pos hc] | rw [if_neg hc]
                      have := radd_calls (totN eM fN (fdN fD) k) (totD (fdN fD) k) (fN k) (eM k) (fD k) hDk hBk.2.1 hBk.2.2 hvk (by first | exact hE.1 | exact hE.2) W sa8 ta8 s4 t4 (HS8.out.later hb) (HS8'.out.later hb) (by rw [ee]; exact h3) (by rw [ee]; exact h4)
                      rw [ee] at this
                      have e2 : totN eM fN (fdN fD) (k + 1) = totN eM fN (fdN fD) k * ((fD k).natAbs : Nat) + fp k * fN k * (totD (fdN fD) k : Int) := by rw [← ee]; rfl
                      rw [e2]
                      exact this
                    have CPMn : Hid (fN k < 0 → ∀ (W : World) (s4 t4 : Sl), Below wr.heap.size wr W → NumAt W s4 (frI (fN k * fl k) ((fD k).natAbs * 1)).natAbs → NumAt W t4 (frd (fN k * fl k) ((fD k).natAbs * 1)) → Calls Try.prog 41 #[.agg #[.bool (decide (frI (totN eM fN (fdN fD) k) (totD (fdN fD) k) < 0)), .slice sa8.a sa8.len sa8.cap, .slice ta8.a ta8.len ta8.cap], .agg #[.bool (decide (frI (fN k * fl k) ((fD k).natAbs * 1) < 0)), .slice s4.a s4.len s4.cap, .slice t4.a t4.len t4.cap]] W (RBig W (totN eM fN (fdN fD) (k + 1)) (totD (fdN fD) (k + 1)))) := Lib.hid fun hc W s4 t4 hb h3 h4 => by
                      have ee : eM k = fl k := by rw [EMk]; first | rw [if_pos hc] | rw [if_neg hc]
                      have := radd_calls (totN eM fN (fdN fD) k) (totD (fdN fD) k) (fN k) (eM k) (fD k) hDk hBk.2.1 hBk.2.2 hvk (by first | exact hE.1 | exact hE.2) W sa8 ta8 s4 t4 (HS8.out.later hb) (HS8'.out.later hb) (by rw [ee]; exact h3) (by rw [ee]; exact h4)
                      rw [ee] at this
                      have e2 : totN eM fN (fdN fD) (k + 1) = totN eM fN (fdN fD) k * ((fD k).natAbs : Nat) + fl k * fN k * (totD (fdN fD) k : Int) := by rw [← ee]; rfl
                      rw [e2]
                      exact this
                    have CSG := Lib.hid (fun (W : World) (hb : Below wr.heap.size wr W) => Sign_calls (fN k) (sk k).a (sk k).len (sk k).cap (tk k).a (tk k).len (tk k).cap W (N1.out.later hb))
                    clear ELk EMk hBk hDk hE
                    unfold RBig at CPLp CPLn CPMp CPMn
                    generalize hNL : totN eL fN (fdN fD) (k + 1) = NL1 at *
                    generalize hNM : totN eM fN (fdN fD) (k + 1) = NM1 at *
                    generalize hDD : totD (fdN fD) (k + 1) = D1 at *
                    have HNL := Lib.hid hNL
                    have HNM := Lib.hid hNM
                    have HDD := Lib.hid hDD
                    clear hNL hNM hDD
                    generalize decide (frI (totN eL fN (fdN fD) k) (totD (fdN fD) k) < 0) = gL at *
                    generalize decide (frI (totN eM fN (fdN fD) k) (totD (fdN fD) k) < 0) = gM at *
                    generalize frd (fN k * fl k) ((fD k).natAbs * 1) = dl at *
                    generalize frI (fN k * fl k) ((fD k).natAbs * 1) = vl at *
                    generalize frd (fN k * fp k) ((fD k).natAbs * 1) = dp at *
                    generalize frI (fN k * fp k) ((fD k).natAbs * 1) = vp at *
                    have DL := Lib.hid (rfl : decide (vl < 0) = decide (vl < 0))
                    generalize decide (vl < 0) = gl at *
                    generalize decide (vp < 0) = gp at *
                    generalize decide (fl k < 0) = gfl at *
                    generalize decide (fp k < 0) = gfp at *
                    clear DL
                    obtain ⟨gk, hgk⟩ : ∃ g, decide (fN k < 0) = g := ⟨_, rfl⟩
                    have HGK := Lib.hid hgk
                    rw [hgk] at r0 CTl CTp CSG
                    clear hgk
                    go_wp2_with fail
                    refine wp_region_invs (x := (⟨wr, Below.refl _ _⟩ : Ext wr)) 22 ⟨fun j u W => match j with
                      | 0 => u = .slice (some ⟨b, off, none⟩) un sc9
                      | 1 => u = .int .i64 (k : Int)
                      | 2 => u = .pointer (some ⟨b, off + k * 3, none⟩)
                      | 3 => u = .agg #[.bool gk, .slice (sk k).a (sk k).len (sk k).cap, .slice (tk k).a (tk k).len (tk k).cap]
                      | 4 => u = .slice (some ⟨bl, offl, none⟩) un lc
                      | 5 => u = .int .i64 (k : Int)
                      | 6 => u = .pointer (some ⟨bl, offl + k, none⟩)
                      | 7 => u = .int .i64 (fl k)
                      | 8 => ∃ s t : Sl, u = .agg #[.bool (gfl), .slice s.a s.len s.cap, .slice t.a t.len t.cap] ∧ NumAt W s (fl k).natAbs ∧ NumAt W t 1
                      | 9 => ∃ s t : Sl, u = .agg #[.bool (gl), .slice s.a s.len s.cap, .slice t.a t.len t.cap] ∧ NumAt W s vl.natAbs ∧ NumAt W t dl
                      | 10 => u = .slice (some ⟨b, off, none⟩) un sc9
                      | 11 => u = .int .i64 (k : Int)
                      | 12 => u = .pointer (some ⟨b, off + k * 3, none⟩)
                      | 13 => u = .agg #[.bool gk, .slice (sk k).a (sk k).len (sk k).cap, .slice (tk k).a (tk k).len (tk k).cap]
                      | 14 => u = .slice (some ⟨bp, offp, none⟩) un pc
                      | 15 => u = .int .i64 (k : Int)
                      | 16 => u = .pointer (some ⟨bp, offp + k, none⟩)
                      | 17 => u = .int .i64 (fp k)
                      | 18 => ∃ s t : Sl, u = .agg #[.bool (gfp), .slice s.a s.len s.cap, .slice t.a t.len t.cap] ∧ NumAt W s (fp k).natAbs ∧ NumAt W t 1
                      | 19 => ∃ s t : Sl, u = .agg #[.bool (gp), .slice s.a s.len s.cap, .slice t.a t.len t.cap] ∧ NumAt W s vp.natAbs ∧ NumAt W t dp
                      | 20 => ∃ q : Nat, u = .pointer (some ⟨q, 0, none⟩) ∧ wr.heap.size ≤ q ∧ W.heap[q]? = some (.cells #[.bool false, .slice none 0 0, .slice none 0 0] 67)
                      | 21 => ∃ q : Nat, u = .pointer (some ⟨q, 0, none⟩) ∧ wr.heap.size ≤ q ∧ W.heap[q]? = some (.cells #[.bool false, .slice none 0 0, .slice none 0 0] 67)
                      | _ => True,
                    fun j u W => match j with
                      | 20 => ∃ q : Nat, u = .pointer (some ⟨q, 0, none⟩) ∧ W.heap.size ≤ q
                      | 21 => ∃ q : Nat, u = .pointer (some ⟨q, 0, none⟩) ∧ W.heap.size ≤ q
                      | _ => True,
                    fun i j u v => i = 20 → j = 21 → ∀ q r : Nat, u = .pointer (some ⟨q, 0, none⟩) → v = .pointer (some ⟨r, 0, none⟩) → q ≠ r⟩ 139 (by kernel_rfl) rfl (by kernel_rfl) (fun j u W1 W2 hcc => by
                      match j with
                      | 0 => exact id
                      | 1 => exact id
                      | 2 => exact id
                      | 3 => exact id
                      | 4 => exact id
                      | 5 => exact id
                      | 6 => exact id
                      | 7 => exact id
                      | 8 => rintro ⟨s, t, h1, h2, h3⟩; exact ⟨s, t, h1, h2.later hcc.below, h3.later hcc.below⟩
                      | 9 => rintro ⟨s, t, h1, h2, h3⟩; exact ⟨s, t, h1, h2.later hcc.below, h3.later hcc.below⟩
                      | 10 => exact id
                      | 11 => exact id
                      | 12 => exact id
                      | 13 => exact id
                      | 14 => exact id
                      | 15 => exact id
                      | 16 => exact id
                      | 17 => exact id
                      | 18 => rintro ⟨s, t, h1, h2, h3⟩; exact ⟨s, t, h1, h2.later hcc.below, h3.later hcc.below⟩
                      | 19 => rintro ⟨s, t, h1, h2, h3⟩; exact ⟨s, t, h1, h2.later hcc.below, h3.later hcc.below⟩
                      | 20 => rintro ⟨q, h1, h2, h3⟩; exact ⟨q, h1, h2, (hcc.below.block q (Array.getElem?_eq_some_iff.1 h3).1).trans h3⟩
                      | 21 => rintro ⟨q, h1, h2, h3⟩; exact ⟨q, h1, h2, (hcc.below.block q (Array.getElem?_eq_some_iff.1 h3).1).trans h3⟩
                      | _ + 22 => exact id) (fun i j u v W h1 h2 => ⟨?_, ?_⟩) ?_
                    · rintro rfl rfl q r rfl rfl
                      obtain ⟨q1, e1, g1⟩ := h1
                      obtain ⟨q2, e2, g2, g3⟩ := h2
                      have := (Array.getElem?_eq_some_iff.1 g3).1
                      cases e1
                      cases e2
                      omega
                    · rintro rfl rfl q r rfl rfl
                      obtain ⟨q1, e1, g1⟩ := h1
                      obtain ⟨q2, e2, g2, g3⟩ := h2
                      have := (Array.getElem?_eq_some_iff.1 g3).1
                      cases e1
                      cases e2
                      omega
                    · refine inv_step (fun W hW hd K hK => ?_) (fun v0 aq hq => ?_)
                      · obtain ⟨y, rfl⟩ := hW
                        have ys := y.size
                        have HK := Lib.hid hK
                        clear hd hK
                        go_wp2_with fail
                        exact HK.out _ _ rfl ⟨⟨y, rfl⟩, ⟨⟨y.val, Below.refl _ _⟩, rfl⟩⟩ rfl trivial
                      simp only [Act.put, List.setIfInBounds_toArray, List.set_cons_zero, List.set_cons_succ] at hq
                      subst hq
                      refine inv_step (fun W hW hd K hK => ?_) (fun v1 aq hq => ?_)
                      · obtain ⟨y, rfl⟩ := hW
                        have ys := y.size
                        have HK := Lib.hid hK
                        clear hd hK
                        go_wp2_with fail
                        exact HK.out _ _ rfl ⟨⟨y, rfl⟩, ⟨⟨y.val, Below.refl _ _⟩, rfl⟩⟩ rfl trivial
                      simp only [Act.put, List.setIfInBounds_toArray, List.set_cons_zero, List.set_cons_succ] at hq
                      subst hq
                      refine inv_step (fun W hW hd K hK => ?_) (fun v2 aq hq => ?_)
                      · obtain ⟨y, rfl⟩ := hW
                        have ys := y.size
                        have HK := Lib.hid hK
                        obtain rfl : v0 = .slice (some ⟨b, off, none⟩) un sc9 := hd 0 (by kernel_rfl)
                        obtain rfl : v1 = .int .i64 (k : Int) := hd 1 (by kernel_rfl)
                        clear hd hK
                        go_wp2_with fail
                        exact HK.out _ _ rfl ⟨⟨y, rfl⟩, ⟨⟨y.val, Below.refl _ _⟩, rfl⟩⟩ rfl trivial
                      simp only [Act.put, List.setIfInBounds_toArray, List.set_cons_zero, List.set_cons_succ] at hq
                      subst hq
                      refine inv_step (fun W hW hd K hK => ?_) (fun v3 aq hq => ?_)
                      · obtain ⟨y, rfl⟩ := hW
                        have ys := y.size
                        have HK := Lib.hid hK
                        obtain rfl : v2 = .pointer (some ⟨b, off + k * 3, none⟩) := hd 2 (by kernel_rfl)
                        clear hd hK
                        go_wp2_with fail
                        exact HK.out _ _ rfl ⟨⟨y, rfl⟩, ⟨⟨y.val, Below.refl _ _⟩, rfl⟩⟩ rfl trivial
                      simp only [Act.put, List.setIfInBounds_toArray, List.set_cons_zero, List.set_cons_succ] at hq
                      subst hq
                      refine inv_step (fun W hW hd K hK => ?_) (fun v4 aq hq => ?_)
                      · obtain ⟨y, rfl⟩ := hW
                        have ys := y.size
                        have HK := Lib.hid hK
                        clear hd hK
                        go_wp2_with fail
                        exact HK.out _ _ rfl ⟨⟨y, rfl⟩, ⟨⟨y.val, Below.refl _ _⟩, rfl⟩⟩ rfl trivial
                      simp only [Act.put, List.setIfInBounds_toArray, List.set_cons_zero, List.set_cons_succ] at hq
                      subst hq
                      refine inv_step (fun W hW hd K hK => ?_) (fun v5 aq hq => ?_)
                      · obtain ⟨y, rfl⟩ := hW
                        have ys := y.size
                        have HK := Lib.hid hK
                        clear hd hK
                        go_wp2_with fail
                        exact HK.out _ _ rfl ⟨⟨y, rfl⟩, ⟨⟨y.val, Below.refl _ _⟩, rfl⟩⟩ rfl trivial
                      simp only [Act.put, List.setIfInBounds_toArray, List.set_cons_zero, List.set_cons_succ] at hq
                      subst hq
                      refine inv_step (fun W hW hd K hK => ?_) (fun v6 aq hq => ?_)
                      · obtain ⟨y, rfl⟩ := hW
                        have ys := y.size
                        have HK := Lib.hid hK
                        obtain rfl : v4 = .slice (some ⟨bl, offl, none⟩) un lc := hd 4 (by kernel_rfl)
                        obtain rfl : v5 = .int .i64 (k : Int) := hd 5 (by kernel_rfl)
                        clear hd hK
                        go_wp2_with fail
                        exact HK.out _ _ rfl ⟨⟨y, rfl⟩, ⟨⟨y.val, Below.refl _ _⟩, rfl⟩⟩ rfl trivial
                      simp only [Act.put, List.setIfInBounds_toArray, List.set_cons_zero, List.set_cons_succ] at hq
                      subst hq
                      refine inv_step (fun W hW hd K hK => ?_) (fun v7 aq hq => ?_)
                      · obtain ⟨y, rfl⟩ := hW
                        have ys := y.size
                        have HK := Lib.hid hK
                        obtain rfl : v6 = .pointer (some ⟨bl, offl + k, none⟩) := hd 6 (by kernel_rfl)
                        clear hd hK
                        go_wp2_with fail
                        exact HK.out _ _ rfl ⟨⟨y, rfl⟩, ⟨⟨y.val, Below.refl _ _⟩, rfl⟩⟩ rfl trivial
                      simp only [Act.put, List.setIfInBounds_toArray, List.set_cons_zero, List.set_cons_succ] at hq
                      subst hq
                      refine inv_step (fun W hW hd K hK => ?_) (fun v8 aq hq => ?_)
                      · obtain ⟨y, rfl⟩ := hW
                        have ys := y.size
                        have HK := Lib.hid hK
                        obtain rfl : v7 = .int .i64 (fl k) := hd 7 (by kernel_rfl)
                        clear hd hK
                        go_wp2_with (go_at_call 38; (with_reducible refine Calls.mono (CWl.out y.val) ?_); rintro e _ ⟨s5, t5, rfl, h5, h5t, ⟨z, rfl⟩⟩)
                        exact HK.out _ _ rfl ⟨Cls.step y ⟨z, rfl⟩, ⟨z, rfl⟩⟩ ⟨s5, t5, rfl, h5, h5t⟩ trivial
                      simp only [Act.put, List.setIfInBounds_toArray, List.set_cons_zero, List.set_cons_succ] at hq
                      subst hq
                      refine inv_step (fun W hW hd K hK => ?_) (fun v9 aq hq => ?_)
                      · obtain ⟨y, rfl⟩ := hW
                        have ys := y.size
                        have HK := Lib.hid hK
                        obtain rfl : v3 = .agg #[.bool gk, .slice (sk k).a (sk k).len (sk k).cap, .slice (tk k).a (tk k).len (tk k).cap] := hd 3 (by kernel_rfl)
                        obtain ⟨s9, t9, rfl, h9, h9t⟩ : ∃ s t : Sl, v8 = .agg #[.bool (gfl), .slice s.a s.len s.cap, .slice t.a t.len t.cap] ∧ NumAt y.val s (fl k).natAbs ∧ NumAt y.val t 1 := hd 8 (by kernel_rfl)
                        clear hd hK
                        go_wp2_with (go_at_call 39; (with_reducible refine Calls.mono (CTl.out y.val (sk k) (tk k) s9 t9 (N1.out.later y.below) (N2.out.later y.below) h9 h9t) ?_); rintro e _ ⟨s5, t5, rfl, h5, h5t, ⟨z, rfl⟩⟩)
                        exact HK.out _ _ rfl ⟨Cls.step y ⟨z, rfl⟩, ⟨z, rfl⟩⟩ ⟨s5, t5, rfl, h5, h5t⟩ trivial
                      simp only [Act.put, List.setIfInBounds_toArray, List.set_cons_zero, List.set_cons_succ] at hq
                      subst hq
                      refine inv_step (fun W hW hd K hK => ?_) (fun v10 aq hq => ?_)
                      · obtain ⟨y, rfl⟩ := hW
                        have ys := y.size
                        have HK := Lib.hid hK
                        clear hd hK
                        go_wp2_with fail
                        exact HK.out _ _ rfl ⟨⟨y, rfl⟩, ⟨⟨y.val, Below.refl _ _⟩, rfl⟩⟩ rfl trivial
                      simp only [Act.put, List.setIfInBounds_toArray, List.set_cons_zero, List.set_cons_succ] at hq
                      subst hq
                      refine inv_step (fun W hW hd K hK => ?_) (fun v11 aq hq => ?_)
                      · obtain ⟨y, rfl⟩ := hW
                        have ys := y.size
                        have HK := Lib.hid hK
                        clear hd hK
                        go_wp2_with fail
                        exact HK.out _ _ rfl ⟨⟨y, rfl⟩, ⟨⟨y.val, Below.refl _ _⟩, rfl⟩⟩ rfl trivial
                      simp only [Act.put, List.setIfInBounds_toArray, List.set_cons_zero, List.set_cons_succ] at hq
                      subst hq
                      refine inv_step (fun W hW hd K hK => ?_) (fun v12 aq hq => ?_)
                      · obtain ⟨y, rfl⟩ := hW
                        have ys := y.size
                        have HK := Lib.hid hK
                        obtain rfl : v10 = .slice (some ⟨b, off, none⟩) un sc9 := hd 10 (by kernel_rfl)
                        obtain rfl : v11 = .int .i64 (k : Int) := hd 11 (by kernel_rfl)
                        clear hd hK
                        go_wp2_with fail
                        exact HK.out _ _ rfl ⟨⟨y, rfl⟩, ⟨⟨y.val, Below.refl _ _⟩, rfl⟩⟩ rfl trivial
                      simp only [Act.put, List.setIfInBounds_toArray, List.set_cons_zero, List.set_cons_succ] at hq
                      subst hq
                      refine inv_step (fun W hW hd K hK => ?_) (fun v13 aq hq => ?_)
                      · obtain ⟨y, rfl⟩ := hW
                        have ys := y.size
                        have HK := Lib.hid hK
                        obtain rfl : v12 = .pointer (some ⟨b, off + k * 3, none⟩) := hd 12 (by kernel_rfl)
                        clear hd hK
                        go_wp2_with fail
                        exact HK.out _ _ rfl ⟨⟨y, rfl⟩, ⟨⟨y.val, Below.refl _ _⟩, rfl⟩⟩ rfl trivial
                      simp only [Act.put, List.setIfInBounds_toArray, List.set_cons_zero, List.set_cons_succ] at hq
                      subst hq
                      refine inv_step (fun W hW hd K hK => ?_) (fun v14 aq hq => ?_)
                      · obtain ⟨y, rfl⟩ := hW
                        have ys := y.size
                        have HK := Lib.hid hK
                        clear hd hK
                        go_wp2_with fail
                        exact HK.out _ _ rfl ⟨⟨y, rfl⟩, ⟨⟨y.val, Below.refl _ _⟩, rfl⟩⟩ rfl trivial
                      simp only [Act.put, List.setIfInBounds_toArray, List.set_cons_zero, List.set_cons_succ] at hq
                      subst hq
                      refine inv_step (fun W hW hd K hK => ?_) (fun v15 aq hq => ?_)
                      · obtain ⟨y, rfl⟩ := hW
                        have ys := y.size
                        have HK := Lib.hid hK
                        clear hd hK
                        go_wp2_with fail
                        exact HK.out _ _ rfl ⟨⟨y, rfl⟩, ⟨⟨y.val, Below.refl _ _⟩, rfl⟩⟩ rfl trivial
                      simp only [Act.put, List.setIfInBounds_toArray, List.set_cons_zero, List.set_cons_succ] at hq
                      subst hq
                      refine inv_step (fun W hW hd K hK => ?_) (fun v16 aq hq => ?_)
                      · obtain ⟨y, rfl⟩ := hW
                        have ys := y.size
                        have HK := Lib.hid hK
                        obtain rfl : v14 = .slice (some ⟨bp, offp, none⟩) un pc := hd 14 (by kernel_rfl)
                        obtain rfl : v15 = .int .i64 (k : Int) := hd 15 (by kernel_rfl)
                        clear hd hK
                        go_wp2_with fail
                        exact HK.out _ _ rfl ⟨⟨y, rfl⟩, ⟨⟨y.val, Below.refl _ _⟩, rfl⟩⟩ rfl trivial
                      simp only [Act.put, List.setIfInBounds_toArray, List.set_cons_zero, List.set_cons_succ] at hq
                      subst hq
                      refine inv_step (fun W hW hd K hK => ?_) (fun v17 aq hq => ?_)
                      · obtain ⟨y, rfl⟩ := hW
                        have ys := y.size
                        have HK := Lib.hid hK
                        obtain rfl : v16 = .pointer (some ⟨bp, offp + k, none⟩) := hd 16 (by kernel_rfl)
                        clear hd hK
                        go_wp2_with fail
                        exact HK.out _ _ rfl ⟨⟨y, rfl⟩, ⟨⟨y.val, Below.refl _ _⟩, rfl⟩⟩ rfl trivial
                      simp only [Act.put, List.setIfInBounds_toArray, List.set_cons_zero, List.set_cons_succ] at hq
                      subst hq
                      refine inv_step (fun W hW hd K hK => ?_) (fun v18 aq hq => ?_)
                      · obtain ⟨y, rfl⟩ := hW
                        have ys := y.size
                        have HK := Lib.hid hK
                        obtain rfl : v17 = .int .i64 (fp k) := hd 17 (by kernel_rfl)
                        clear hd hK
                        go_wp2_with (go_at_call 38; (with_reducible refine Calls.mono (CWp.out y.val) ?_); rintro e _ ⟨s5, t5, rfl, h5, h5t, ⟨z, rfl⟩⟩)
                        exact HK.out _ _ rfl ⟨Cls.step y ⟨z, rfl⟩, ⟨z, rfl⟩⟩ ⟨s5, t5, rfl, h5, h5t⟩ trivial
                      simp only [Act.put, List.setIfInBounds_toArray, List.set_cons_zero, List.set_cons_succ] at hq
                      subst hq
                      refine inv_step (fun W hW hd K hK => ?_) (fun v19 aq hq => ?_)
                      · obtain ⟨y, rfl⟩ := hW
                        have ys := y.size
                        have HK := Lib.hid hK
                        obtain rfl : v13 = .agg #[.bool gk, .slice (sk k).a (sk k).len (sk k).cap, .slice (tk k).a (tk k).len (tk k).cap] := hd 13 (by kernel_rfl)
                        obtain ⟨s9, t9, rfl, h9, h9t⟩ : ∃ s t : Sl, v18 = .agg #[.bool (gfp), .slice s.a s.len s.cap, .slice t.a t.len t.cap] ∧ NumAt y.val s (fp k).natAbs ∧ NumAt y.val t 1 := hd 18 (by kernel_rfl)
                        clear hd hK
                        go_wp2_with (go_at_call 39; (with_reducible refine Calls.mono (CTp.out y.val (sk k) (tk k) s9 t9 (N1.out.later y.below) (N2.out.later y.below) h9 h9t) ?_); rintro e _ ⟨s5, t5, rfl, h5, h5t, ⟨z, rfl⟩⟩)
                        exact HK.out _ _ rfl ⟨Cls.step y ⟨z, rfl⟩, ⟨z, rfl⟩⟩ ⟨s5, t5, rfl, h5, h5t⟩ trivial
                      simp only [Act.put, List.setIfInBounds_toArray, List.set_cons_zero, List.set_cons_succ] at hq
                      subst hq
                      refine inv_step (fun W hW hd K hK => ?_) (fun v20 aq hq => ?_)
                      · obtain ⟨y, rfl⟩ := hW
                        have ys := y.size
                        have HK := Lib.hid hK
                        clear hd hK
                        go_wp2_with fail
                        exact HK.out _ _ rfl ⟨Cls.step y (Cls.of ((Below.refl _ _).alloc (Nat.le_refl _) _)), Cls.of ((Below.refl _ _).alloc (Nat.le_refl _) _)⟩ ⟨y.val.heap.size, rfl, y.size, heap_alloc_new _ _⟩ ⟨_, rfl, Nat.le_refl _⟩
                      simp only [Act.put, List.setIfInBounds_toArray, List.set_cons_zero, List.set_cons_succ] at hq
                      subst hq
                      refine inv_step (fun W hW hd K hK => ?_) (fun v21 aq hq => ?_)
                      · obtain ⟨y, rfl⟩ := hW
                        have ys := y.size
                        have HK := Lib.hid hK
                        clear hd hK
                        go_wp2_with fail
                        exact HK.out _ _ rfl ⟨Cls.step y (Cls.of ((Below.refl _ _).alloc (Nat.le_refl _) _)), Cls.of ((Below.refl _ _).alloc (Nat.le_refl _) _)⟩ ⟨y.val.heap.size, rfl, y.size, heap_alloc_new _ _⟩ ⟨_, rfl, Nat.le_refl _⟩
                      simp only [Act.put, List.setIfInBounds_toArray, List.set_cons_zero, List.set_cons_succ] at hq
                      subst hq
                      refine inv_nil fun W hW hT hR => ?_
                      obtain ⟨y, rfl⟩ := hW
                      have ys := y.size
                      obtain ⟨sA, tA, rfl, hA1, hA2⟩ : ∃ s t : Sl, v9 = .agg #[.bool gl, .slice s.a s.len s.cap, .slice t.a t.len t.cap] ∧ NumAt y.val s vl.natAbs ∧ NumAt y.val t dl := hT 9 (by decide)
                      obtain ⟨sB, tB, rfl, hB1, hB2⟩ : ∃ s t : Sl, v19 = .agg #[.bool gp, .slice s.a s.len s.cap, .slice t.a t.len t.cap] ∧ NumAt y.val s vp.natAbs ∧ NumAt y.val t dp := hT 19 (by decide)
                      obtain ⟨qA, rfl, hqA, hZA⟩ : ∃ q : Nat, v20 = .pointer (some ⟨q, 0, none⟩) ∧ wr.heap.size ≤ q ∧ y.val.heap[q]? = some (.cells #[.bool false, .slice none 0 0, .slice none 0 0] 67) := hT 20 (by decide)
                      obtain ⟨qB, rfl, hqB, hZB⟩ : ∃ q : Nat, v21 = .pointer (some ⟨q, 0, none⟩) ∧ wr.heap.size ≤ q ∧ y.val.heap[q]? = some (.cells #[.bool false, .slice none 0 0, .slice none 0 0] 67) := hT 21 (by decide)
                      have hAB : qA ≠ qB := hR 20 21 (by decide) (by decide) (by decide) rfl rfl qA qB rfl rfl
                      clear hT hR
                      obtain ⟨hqAl, zA0, zA1, zA2, _, _, _⟩ := three_n hZA
                      obtain ⟨hqBl, zB0, zB1, zB2, _, _, _⟩ := three_n hZB
                      obtain ⟨m1, m2⟩ := six_at hZA hZB hAB (.bool gl) (.slice sA.a sA.len sA.cap) (.slice tA.a tA.len tA.cap) (.bool gp) (.slice sB.a sB.len sB.cap) (.slice tB.a tB.len tB.cap)
                      have HM1 := Lib.hid m1
                      have HM2 := Lib.hid m2
                      have HN1 := Lib.hid (hA1.six hZA hZB hAB (.bool gl) (.slice sA.a sA.len sA.cap) (.slice tA.a tA.len tA.cap) (.bool gp) (.slice sB.a sB.len sB.cap) (.slice tB.a tB.len tB.cap))
                      have HN2 := Lib.hid (hA2.six hZA hZB hAB (.bool gl) (.slice sA.a sA.len sA.cap) (.slice tA.a tA.len tA.cap) (.bool gp) (.slice sB.a sB.len sB.cap) (.slice tB.a tB.len tB.cap))
                      have HN3 := Lib.hid (hB1.six hZA hZB hAB (.bool gl) (.slice sA.a sA.len sA.cap) (.slice tA.a tA.len tA.cap) (.bool gp) (.slice sB.a sB.len sB.cap) (.slice tB.a tB.len tB.cap))
                      have HN4 := Lib.hid (hB2.six hZA hZB hAB (.bool gl) (.slice sA.a sA.len sA.cap) (.slice tA.a tA.len tA.cap) (.bool gp) (.slice sB.a sB.len sB.cap) (.slice tB.a tB.len tB.cap))
                      have HM5 := Lib.hid (Below.six y.below hqA hqB (.bool gl) (.slice sA.a sA.len sA.cap) (.slice tA.a tA.len tA.cap) (.bool gp) (.slice sB.a sB.len sB.cap) (.slice tB.a tB.len tB.cap))
                      clear m1 m2 hA1 hA2 hB1 hB2 hZA hZB
                      unfold six at HM1 HM2 HN1 HN2 HN3 HN4 HM5
                      cases gk
                      case true =>
                        have hneg := Lib.hid (of_decide_eq_true HGK.out)
                        have dn : decide (cmpI (fN k) 0 < 0) = true := by rw [cmp_neg]; exact decide_eq_true hneg.out
                        go_wp2_with (go_at_call 40; (with_reducible refine Calls.mono (CSG.out _ HM5.out) ?_); rintro e _ ⟨rfl, ⟨z5, rfl⟩⟩; have z5s := z5.size; have HZ5A := Lib.hid ((z5.below.block _ (Array.getElem?_eq_some_iff.1 HM1.out).1).trans HM1.out); have HZ5B := Lib.hid ((z5.below.block _ (Array.getElem?_eq_some_iff.1 HM2.out).1).trans HM2.out); obtain ⟨hq5A, x0, x1, x2', p0, p1', p2'⟩ := three_n HZ5A.out; obtain ⟨hq5B, x3, x4, x5, p3, p4, p5⟩ := three_n HZ5B.out; clear HM1 HM2)
                        obtain ⟨m1, m2⟩ := six_at HZ5A.out HZ5B.out hAB (.bool gp) (.slice sB.a sB.len sB.cap) (.slice tB.a tB.len tB.cap) (.bool gl) (.slice sA.a sA.len sA.cap) (.slice tA.a tA.len tA.cap)
                        refine wp_at (fun W => W.heap[qA]? = some (.cells #[.bool gp, .slice sB.a sB.len sB.cap, .slice tB.a tB.len tB.cap] 67) ∧ W.heap[qB]? = some (.cells #[.bool gl, .slice sA.a sA.len sA.cap, .slice tA.a tA.len tA.cap] 67) ∧ NumAt W sB vp.natAbs ∧ NumAt W tB dp ∧ NumAt W sA vl.natAbs ∧ NumAt W tA dl ∧ Below wr.heap.size wr W) ⟨m1, m2, (HN3.out.later z5.below).six HZ5A.out HZ5B.out hAB _ _ _ _ _ _, (HN4.out.later z5.below).six HZ5A.out HZ5B.out hAB _ _ _ _ _ _, (HN1.out.later z5.below).six HZ5A.out HZ5B.out hAB _ _ _ _ _ _, (HN2.out.later z5.below).six HZ5A.out HZ5B.out hAB _ _ _ _ _ _, Below.six (z5.on HM5.out HM5.out.size) (by omega) (by omega) _ _ _ _ _ _⟩ ?_
                        rintro W7 ⟨m1, m2, mx1, mx2, my1, my2, hm7⟩
                        have HM7 := Lib.hid hm7
                        have MX1 := Lib.hid mx1
                        have MX2 := Lib.hid mx2
                        have MY1 := Lib.hid my1
                        have MY2 := Lib.hid my2
                        have hm7s := hm7.size
                        have HW7 := Lib.hid ((hm7.block _ (by omega)).trans HT7.out)
                        have HW8 := Lib.hid ((hm7.block _ (by omega)).trans HT8.out)
                        obtain ⟨hqA7, _, _, _, p0, p1, p2⟩ := three_n m1
                        obtain ⟨hqB7, _, _, _, p3, p4, p5⟩ := three_n m2
                        obtain ⟨h77, _, _, _, p6, p7, p8⟩ := three_n HW7.out
                        obtain ⟨h88, _, _, _, p9, p10, p11⟩ := three_n HW8.out
                        have CL := Lib.hid (CPLn.out hneg.out)
                        have CM := Lib.hid (CPMn.out hneg.out)
                        clear m1 m2 mx1 mx2 my1 my2 hm7 HZ5A HZ5B HN1 HN2 HN3 HN4 HM5 CPLp CPLn CPMp CPMn e0 e1 e2 f0 f1 f2 r0 r1 r2 g0 g1
                        refine wp_region_invs (x := (⟨W7, Below.refl _ _⟩ : Ext W7)) 6 ⟨fun j u W => match j with
                          | 0 => u = .agg #[.bool gL, .slice sa7.a sa7.len sa7.cap, .slice ta7.a ta7.len ta7.cap]
                          | 1 => u = .agg #[.bool gp, .slice sB.a sB.len sB.cap, .slice tB.a tB.len tB.cap]
                          | 2 => ∃ s t : Sl, u = .agg #[.bool (decide (frI NL1 D1 < 0)), .slice s.a s.len s.cap, .slice t.a t.len t.cap] ∧ NumAt W s (frI NL1 D1).natAbs ∧ NumAt W t (frd NL1 D1)
                          | 3 => u = .agg #[.bool gM, .slice sa8.a sa8.len sa8.cap, .slice ta8.a ta8.len ta8.cap]
                          | 4 => u = .agg #[.bool gl, .slice sA.a sA.len sA.cap, .slice tA.a tA.len tA.cap]
                          | 5 => ∃ s t : Sl, u = .agg #[.bool (decide (frI NM1 D1 < 0)), .slice s.a s.len s.cap, .slice t.a t.len t.cap] ∧ NumAt W s (frI NM1 D1).natAbs ∧ NumAt W t (frd NM1 D1)
                          | _ => True,
                        fun _ _ _ => True,
                        fun _ _ _ _ => True⟩ 139 (by kernel_rfl) rfl (by kernel_rfl) (fun j u W1 W2 hcc => by
                          match j with
                          | 0 => exact id
                          | 1 => exact id
                          | 2 => rintro ⟨s, t, h1, h2, h3⟩; exact ⟨s, t, h1, h2.later hcc.below, h3.later hcc.below⟩
                          | 3 => exact id
                          | 4 => exact id
                          | 5 => rintro ⟨s, t, h1, h2, h3⟩; exact ⟨s, t, h1, h2.later hcc.below, h3.later hcc.below⟩
                          | _ + 6 => exact id) (fun _ _ _ _ _ _ _ => ⟨trivial, trivial⟩) ?_
                        refine inv_step (fun W hW hd K hK => ?_) (fun v0 aq hq => ?_)
                        · obtain ⟨y, rfl⟩ := hW
                          have ys := y.size
                          have HK := Lib.hid hK
                          clear hd hK
                          go_wp2_with fail
                          exact HK.out _ _ rfl ⟨⟨y, rfl⟩, ⟨⟨y.val, Below.refl _ _⟩, rfl⟩⟩ rfl trivial
                        simp only [Act.put, List.setIfInBounds_toArray, List.set_cons_zero, List.set_cons_succ] at hq
                        subst hq
                        refine inv_step (fun W hW hd K hK => ?_) (fun v1 aq hq => ?_)
                        · obtain ⟨y, rfl⟩ := hW
                          have ys := y.size
                          have HK := Lib.hid hK
                          clear hd hK
                          go_wp2_with fail
                          exact HK.out _ _ rfl ⟨⟨y, rfl⟩, ⟨⟨y.val, Below.refl _ _⟩, rfl⟩⟩ rfl trivial
                        simp only [Act.put, List.setIfInBounds_toArray, List.set_cons_zero, List.set_cons_succ] at hq
                        subst hq
                        refine inv_step (fun W hW hd K hK => ?_) (fun v2 aq hq => ?_)
                        · obtain ⟨y, rfl⟩ := hW
                          have ys := y.size
                          have HK := Lib.hid hK
                          obtain rfl : v0 = .agg #[.bool gL, .slice sa7.a sa7.len sa7.cap, .slice ta7.a ta7.len ta7.cap] := hd 0 (by kernel_rfl)
                          obtain rfl : v1 = .agg #[.bool gp, .slice sB.a sB.len sB.cap, .slice tB.a tB.len tB.cap] := hd 1 (by kernel_rfl)
                          clear hd hK
                          go_wp2_with (go_at_call 41; (with_reducible refine Calls.mono (CL.out y.val sB tB (y.on HM7.out (by omega)) (MX1.out.later y.below) (MX2.out.later y.below)) ?_); rintro e _ ⟨s5, t5, rfl, h5, h5t, ⟨z, rfl⟩⟩)
                          exact HK.out _ _ rfl ⟨Cls.step y ⟨z, rfl⟩, ⟨z, rfl⟩⟩ ⟨s5, t5, rfl, h5, h5t⟩ trivial
                        simp only [Act.put, List.setIfInBounds_toArray, List.set_cons_zero, List.set_cons_succ] at hq
                        subst hq
                        refine inv_step (fun W hW hd K hK => ?_) (fun v3 aq hq => ?_)
                        · obtain ⟨y, rfl⟩ := hW
                          have ys := y.size
                          have HK := Lib.hid hK
                          clear hd hK
                          go_wp2_with fail
                          exact HK.out _ _ rfl ⟨⟨y, rfl⟩, ⟨⟨y.val, Below.refl _ _⟩, rfl⟩⟩ rfl trivial
                        simp only [Act.put, List.setIfInBounds_toArray, List.set_cons_zero, List.set_cons_succ] at hq
                        subst hq
                        refine inv_step (fun W hW hd K hK => ?_) (fun v4 aq hq => ?_)
                        · obtain ⟨y, rfl⟩ := hW
                          have ys := y.size
                          have HK := Lib.hid hK
                          clear hd hK
                          go_wp2_with fail
                          exact HK.out _ _ rfl ⟨⟨y, rfl⟩, ⟨⟨y.val, Below.refl _ _⟩, rfl⟩⟩ rfl trivial
                        simp only [Act.put, List.setIfInBounds_toArray, List.set_cons_zero, List.set_cons_succ] at hq
                        subst hq
                        refine inv_step (fun W hW hd K hK => ?_) (fun v5 aq hq => ?_)
                        · obtain ⟨y, rfl⟩ := hW
                          have ys := y.size
                          have HK := Lib.hid hK
                          obtain rfl : v3 = .agg #[.bool gM, .slice sa8.a sa8.len sa8.cap, .slice ta8.a ta8.len ta8.cap] := hd 3 (by kernel_rfl)
                          obtain rfl : v4 = .agg #[.bool gl, .slice sA.a sA.len sA.cap, .slice tA.a tA.len tA.cap] := hd 4 (by kernel_rfl)
                          clear hd hK
                          go_wp2_with (go_at_call 41; (with_reducible refine Calls.mono (CM.out y.val sA tA (y.on HM7.out (by omega)) (MY1.out.later y.below) (MY2.out.later y.below)) ?_); rintro e _ ⟨s5, t5, rfl, h5, h5t, ⟨z, rfl⟩⟩)
                          exact HK.out _ _ rfl ⟨Cls.step y ⟨z, rfl⟩, ⟨z, rfl⟩⟩ ⟨s5, t5, rfl, h5, h5t⟩ trivial
                        simp only [Act.put, List.setIfInBounds_toArray, List.set_cons_zero, List.set_cons_succ] at hq
                        subst hq
                        refine inv_nil fun W hW hT hR => ?_
                        obtain ⟨y, rfl⟩ := hW
                        have ys := y.size
                        obtain ⟨sP, tP, rfl, hP1, hP2⟩ : ∃ s t : Sl, v2 = .agg #[.bool (decide (frI NL1 D1 < 0)), .slice s.a s.len s.cap, .slice t.a t.len t.cap] ∧ NumAt y.val s (frI NL1 D1).natAbs ∧ NumAt y.val t (frd NL1 D1) := hT 2 (by decide)
                        obtain ⟨sQ, tQ, rfl, hQ1, hQ2⟩ : ∃ s t : Sl, v5 = .agg #[.bool (decide (frI NM1 D1 < 0)), .slice s.a s.len s.cap, .slice t.a t.len t.cap] ∧ NumAt y.val s (frI NM1 D1).natAbs ∧ NumAt y.val t (frd NM1 D1) := hT 5 (by decide)
                        clear hT hR
                        have HY7 := Lib.hid ((y.below.block _ (by omega)).trans HW7.out)
                        have HY8 := Lib.hid ((y.below.block _ (by omega)).trans HW8.out)
                        obtain ⟨_, o0, o1, o2, _, _, _⟩ := three_n HY7.out
                        obtain ⟨_, o3, o4, o5, _, _, _⟩ := three_n HY8.out
                        have HFIN := Lib.hid (RTotAt.two (w0 := y2.val) HY7.out HY8.out (by omega) (Nat.le_refl _) (by omega) hP1 hP2 hQ1 hQ2 (HBL.out.trans ((y.on HM7.out (by omega)).mono (by omega))))
                        unfold six at HFIN
                        clear hP1 hP2 hQ1 hQ2 HY7 HY8
                        go_wp2_with fail
                        go_roundw
                        case rel => exact ⟨k + 1, by omega, by go_num, Lib.hid (by rw [HNL.out, HDD.out]; exact HFIN.out.1), Lib.hid (by rw [HNM.out, HDD.out]; exact HFIN.out.2)⟩
                        case measure => simp [intOf]; omega
                      case false =>
                        have hneg := Lib.hid (of_decide_eq_false HGK.out)
                        have dn : decide (cmpI (fN k) 0 < 0) = false := by rw [cmp_neg]; exact decide_eq_false hneg.out
                        go_wp2_with (go_at_call 40; (with_reducible refine Calls.mono (CSG.out _ HM5.out) ?_); rintro e _ ⟨rfl, ⟨z5, rfl⟩⟩; have z5s := z5.size; have HZ5A := Lib.hid ((z5.below.block _ (Array.getElem?_eq_some_iff.1 HM1.out).1).trans HM1.out); have HZ5B := Lib.hid ((z5.below.block _ (Array.getElem?_eq_some_iff.1 HM2.out).1).trans HM2.out); clear HM1 HM2)
                        refine wp_at (fun W => W.heap[qA]? = some (.cells #[.bool gl, .slice sA.a sA.len sA.cap, .slice tA.a tA.len tA.cap] 67) ∧ W.heap[qB]? = some (.cells #[.bool gp, .slice sB.a sB.len sB.cap, .slice tB.a tB.len tB.cap] 67) ∧ NumAt W sA vl.natAbs ∧ NumAt W tA dl ∧ NumAt W sB vp.natAbs ∧ NumAt W tB dp ∧ Below wr.heap.size wr W) ⟨HZ5A.out, HZ5B.out, HN1.out.later z5.below, HN2.out.later z5.below, HN3.out.later z5.below, HN4.out.later z5.below, z5.on HM5.out HM5.out.size⟩ ?_
                        rintro W7 ⟨m1, m2, mx1, mx2, my1, my2, hm7⟩
                        have HM7 := Lib.hid hm7
                        have MX1 := Lib.hid mx1
                        have MX2 := Lib.hid mx2
                        have MY1 := Lib.hid my1
                        have MY2 := Lib.hid my2
                        have hm7s := hm7.size
                        have HW7 := Lib.hid ((hm7.block _ (by omega)).trans HT7.out)
                        have HW8 := Lib.hid ((hm7.block _ (by omega)).trans HT8.out)
                        obtain ⟨hqA7, _, _, _, p0, p1, p2⟩ := three_n m1
                        obtain ⟨hqB7, _, _, _, p3, p4, p5⟩ := three_n m2
                        obtain ⟨h77, _, _, _, p6, p7, p8⟩ := three_n HW7.out
                        obtain ⟨h88, _, _, _, p9, p10, p11⟩ := three_n HW8.out
                        have CL := Lib.hid (CPLp.out hneg.out)
                        have CM := Lib.hid (CPMp.out hneg.out)
                        clear m1 m2 mx1 mx2 my1 my2 hm7 HZ5A HZ5B HN1 HN2 HN3 HN4 HM5 CPLp CPLn CPMp CPMn e0 e1 e2 f0 f1 f2 r0 r1 r2 g0 g1
                        refine wp_region_invs (x := (⟨W7, Below.refl _ _⟩ : Ext W7)) 6 ⟨fun j u W => match j with
                          | 0 => u = .agg #[.bool gL, .slice sa7.a sa7.len sa7.cap, .slice ta7.a ta7.len ta7.cap]
                          | 1 => u = .agg #[.bool gl, .slice sA.a sA.len sA.cap, .slice tA.a tA.len tA.cap]
                          | 2 => ∃ s t : Sl, u = .agg #[.bool (decide (frI NL1 D1 < 0)), .slice s.a s.len s.cap, .slice t.a t.len t.cap] ∧ NumAt W s (frI NL1 D1).natAbs ∧ NumAt W t (frd NL1 D1)
                          | 3 => u = .agg #[.bool gM, .slice sa8.a sa8.len sa8.cap, .slice ta8.a ta8.len ta8.cap]
                          | 4 => u = .agg #[.bool gp, .slice sB.a sB.len sB.cap, .slice tB.a tB.len tB.cap]
                          | 5 => ∃ s t : Sl, u = .agg #[.bool (decide (frI NM1 D1 < 0)), .slice s.a s.len s.cap, .slice t.a t.len t.cap] ∧ NumAt W s (frI NM1 D1).natAbs ∧ NumAt W t (frd NM1 D1)
                          | _ => True,
                        fun _ _ _ => True,
                        fun _ _ _ _ => True⟩ 139 (by kernel_rfl) rfl (by kernel_rfl) (fun j u W1 W2 hcc => by
                          match j with
                          | 0 => exact id
                          | 1 => exact id
                          | 2 => rintro ⟨s, t, h1, h2, h3⟩; exact ⟨s, t, h1, h2.later hcc.below, h3.later hcc.below⟩
                          | 3 => exact id
                          | 4 => exact id
                          | 5 => rintro ⟨s, t, h1, h2, h3⟩; exact ⟨s, t, h1, h2.later hcc.below, h3.later hcc.below⟩
                          | _ + 6 => exact id) (fun _ _ _ _ _ _ _ => ⟨trivial, trivial⟩) ?_
                        refine inv_step (fun W hW hd K hK => ?_) (fun v0 aq hq => ?_)
                        · obtain ⟨y, rfl⟩ := hW
                          have ys := y.size
                          have HK := Lib.hid hK
                          clear hd hK
                          go_wp2_with fail
                          exact HK.out _ _ rfl ⟨⟨y, rfl⟩, ⟨⟨y.val, Below.refl _ _⟩, rfl⟩⟩ rfl trivial
                        simp only [Act.put, List.setIfInBounds_toArray, List.set_cons_zero, List.set_cons_succ] at hq
                        subst hq
                        refine inv_step (fun W hW hd K hK => ?_) (fun v1 aq hq => ?_)
                        · obtain ⟨y, rfl⟩ := hW
                          have ys := y.size
                          have HK := Lib.hid hK
                          clear hd hK
                          go_wp2_with fail
                          exact HK.out _ _ rfl ⟨⟨y, rfl⟩, ⟨⟨y.val, Below.refl _ _⟩, rfl⟩⟩ rfl trivial
                        simp only [Act.put, List.setIfInBounds_toArray, List.set_cons_zero, List.set_cons_succ] at hq
                        subst hq
                        refine inv_step (fun W hW hd K hK => ?_) (fun v2 aq hq => ?_)
                        · obtain ⟨y, rfl⟩ := hW
                          have ys := y.size
                          have HK := Lib.hid hK
                          obtain rfl : v0 = .agg #[.bool gL, .slice sa7.a sa7.len sa7.cap, .slice ta7.a ta7.len ta7.cap] := hd 0 (by kernel_rfl)
                          obtain rfl : v1 = .agg #[.bool gl, .slice sA.a sA.len sA.cap, .slice tA.a tA.len tA.cap] := hd 1 (by kernel_rfl)
                          clear hd hK
                          go_wp2_with (go_at_call 41; (with_reducible refine Calls.mono (CL.out y.val sA tA (y.on HM7.out (by omega)) (MX1.out.later y.below) (MX2.out.later y.below)) ?_); rintro e _ ⟨s5, t5, rfl, h5, h5t, ⟨z, rfl⟩⟩)
                          exact HK.out _ _ rfl ⟨Cls.step y ⟨z, rfl⟩, ⟨z, rfl⟩⟩ ⟨s5, t5, rfl, h5, h5t⟩ trivial
                        simp only [Act.put, List.setIfInBounds_toArray, List.set_cons_zero, List.set_cons_succ] at hq
                        subst hq
                        refine inv_step (fun W hW hd K hK => ?_) (fun v3 aq hq => ?_)
                        · obtain ⟨y, rfl⟩ := hW
                          have ys := y.size
                          have HK := Lib.hid hK
                          clear hd hK
                          go_wp2_with fail
                          exact HK.out _ _ rfl ⟨⟨y, rfl⟩, ⟨⟨y.val, Below.refl _ _⟩, rfl⟩⟩ rfl trivial
                        simp only [Act.put, List.setIfInBounds_toArray, List.set_cons_zero, List.set_cons_succ] at hq
                        subst hq
                        refine inv_step (fun W hW hd K hK => ?_) (fun v4 aq hq => ?_)
                        · obtain ⟨y, rfl⟩ := hW
                          have ys := y.size
                          have HK := Lib.hid hK
                          clear hd hK
                          go_wp2_with fail
                          exact HK.out _ _ rfl ⟨⟨y, rfl⟩, ⟨⟨y.val, Below.refl _ _⟩, rfl⟩⟩ rfl trivial
                        simp only [Act.put, List.setIfInBounds_toArray, List.set_cons_zero, List.set_cons_succ] at hq
                        subst hq
                        refine inv_step (fun W hW hd K hK => ?_) (fun v5 aq hq => ?_)
                        · obtain ⟨y, rfl⟩ := hW
                          have ys := y.size
                          have HK := Lib.hid hK
                          obtain rfl : v3 = .agg #[.bool gM, .slice sa8.a sa8.len sa8.cap, .slice ta8.a ta8.len ta8.cap] := hd 3 (by kernel_rfl)
                          obtain rfl : v4 = .agg #[.bool gp, .slice sB.a sB.len sB.cap, .slice tB.a tB.len tB.cap] := hd 4 (by kernel_rfl)
                          clear hd hK
                          go_wp2_with (go_at_call 41; (with_reducible refine Calls.mono (CM.out y.val sB tB (y.on HM7.out (by omega)) (MY1.out.later y.below) (MY2.out.later y.below)) ?_); rintro e _ ⟨s5, t5, rfl, h5, h5t, ⟨z, rfl⟩⟩)
                          exact HK.out _ _ rfl ⟨Cls.step y ⟨z, rfl⟩, ⟨z, rfl⟩⟩ ⟨s5, t5, rfl, h5, h5t⟩ trivial
                        simp only [Act.put, List.setIfInBounds_toArray, List.set_cons_zero, List.set_cons_succ] at hq
                        subst hq
                        refine inv_nil fun W hW hT hR => ?_
                        obtain ⟨y, rfl⟩ := hW
                        have ys := y.size
                        obtain ⟨sP, tP, rfl, hP1, hP2⟩ : ∃ s t : Sl, v2 = .agg #[.bool (decide (frI NL1 D1 < 0)), .slice s.a s.len s.cap, .slice t.a t.len t.cap] ∧ NumAt y.val s (frI NL1 D1).natAbs ∧ NumAt y.val t (frd NL1 D1) := hT 2 (by decide)
                        obtain ⟨sQ, tQ, rfl, hQ1, hQ2⟩ : ∃ s t : Sl, v5 = .agg #[.bool (decide (frI NM1 D1 < 0)), .slice s.a s.len s.cap, .slice t.a t.len t.cap] ∧ NumAt y.val s (frI NM1 D1).natAbs ∧ NumAt y.val t (frd NM1 D1) := hT 5 (by decide)
                        clear hT hR
                        have HY7 := Lib.hid ((y.below.block _ (by omega)).trans HW7.out)
                        have HY8 := Lib.hid ((y.below.block _ (by omega)).trans HW8.out)
                        obtain ⟨_, o0, o1, o2, _, _, _⟩ := three_n HY7.out
                        obtain ⟨_, o3, o4, o5, _, _, _⟩ := three_n HY8.out
                        have HFIN := Lib.hid (RTotAt.two (w0 := y2.val) HY7.out HY8.out (by omega) (Nat.le_refl _) (by omega) hP1 hP2 hQ1 hQ2 (HBL.out.trans ((y.on HM7.out (by omega)).mono (by omega))))
                        unfold six at HFIN
                        clear hP1 hP2 hQ1 hQ2 HY7 HY8
                        go_wp2_with fail
                        go_roundw
                        case rel => exact ⟨k + 1, by omega, by go_num, Lib.hid (by rw [HNL.out, HDD.out]; exact HFIN.out.1), Lib.hid (by rw [HNM.out, HDD.out]; exact HFIN.out.2)⟩
                        case measure => simp [intOf]; omega
                  · obtain rfl : k = un := by omega
                    have hDk := HDp.out k (Nat.le_refl _)
                    have hBk := HBd.out k (Nat.le_refl _)
                    have hRB := (HBL.out.block x2.val.heap.size (by omega)).trans HRB.out
                    obtain ⟨hrb, _, _, _, d0, d1', d2⟩ := three_n hRB
                    obtain ⟨v1, v2, v3, v4⟩ := vaB_rng HVR.out
                    have hrd : ((rD.natAbs : Nat) : Int) = rD := by omega
                    have w1 : rN.natAbs < 1000000000 ^ 100 := big_nat (by omega)
                    have w2 : rD.natAbs < 1000000000 ^ 100 := big_nat (by omega)
                    have w3 : (frI (totN eL fN (fdN fD) k) (totD (fdN fD) k)).natAbs < 1000000000 ^ 100 := wp_big (frI_lt hBk.1) (by omega)
                    have w4 : (frI (totN eM fN (fdN fD) k) (totD (fdN fD) k)).natAbs < 1000000000 ^ 100 := wp_big (frI_lt hBk.2.1) (by omega)
                    have w5 : frd (totN eL fN (fdN fD) k) (totD (fdN fD) k) < 1000000000 ^ 100 := wp_big (frd_lt hBk.2.2) (by omega)
                    have w6 : frd (totN eM fN (fdN fD) k) (totD (fdN fD) k) < 1000000000 ^ 100 := wp_big (frd_lt hBk.2.2) (by omega)
                    have w7 : 0 < rD.natAbs := by clear w1 w2 w3 w4 w5 w6; omega
                    have CL1 := Lib.hid (fun (W : World) (hb : Below wr.heap.size wr W) => rLess_calls rN (frI (totN eL fN (fdN fD) k) (totD (fdN fD) k)) rD.natAbs (frd (totN eL fN (fdN fD) k) (totD (fdN fD) k)) p.a p.len p.cap q.a q.len q.cap sa7.a sa7.len sa7.cap ta7.a ta7.len ta7.cap W ((HPN.out.later HXw.out).later hb) ((HQN.out.later HXw.out).later hb) (HS7.out.later hb) (HS7'.out.later hb) w1 w2 w3 w5 w7 (frd_pos _ hDk))
                    have CL2 := Lib.hid (fun (W : World) (hb : Below wr.heap.size wr W) => rLess_calls (frI (totN eM fN (fdN fD) k) (totD (fdN fD) k)) rN (frd (totN eM fN (fdN fD) k) (totD (fdN fD) k)) rD.natAbs sa8.a sa8.len sa8.cap ta8.a ta8.len ta8.cap p.a p.len p.cap q.a q.len q.cap W (HS8.out.later hb) (HS8'.out.later hb) ((HPN.out.later HXw.out).later hb) ((HQN.out.later HXw.out).later hb) w4 w6 w1 w2 (frd_pos _ hDk) w7)
                    have EC1 : decide (rN * (frd (totN eL fN (fdN fD) k) (totD (fdN fD) k) : Int) < frI (totN eL fN (fdN fD) k) (totD (fdN fD) k) * ((rD.natAbs : Nat) : Int)) = decide (0 < cmpI (totN eL fN (fdN fD) k * rD) (rN * (totD (fdN fD) k : Nat))) := by
                      rw [cmp_pos, hrd]; exact decide_eq_decide.2 (cross_lt hDk)
                    have EC2 : decide (frI (totN eM fN (fdN fD) k) (totD (fdN fD) k) * ((rD.natAbs : Nat) : Int) < rN * (frd (totN eM fN (fdN fD) k) (totD (fdN fD) k) : Int)) = decide (cmpI (totN eM fN (fdN fD) k * rD) (rN * (totD (fdN fD) k : Nat)) < 0) := by
                      rw [cmp_neg, hrd]; exact decide_eq_decide.2 (cross_gt hDk)
                    rw [EC1] at CL1
                    rw [EC2] at CL2
                    have HCls : Hid (Below w.heap.size w wr) := HWw
                    clear w1 w2 w3 w4 w5 w6 w7 EC1 EC2 hRB v1 v2 v3 v4 hrd hDk hBk HDp HBd HE64 EL EM HR1 HBC HPN HQN HRB HS7 HS7' HS8 HS8'
                    have HG1 : Hid (∀ b, decide (0 < cmpI (totN eL fN (fdN fD) k * rD) (rN * (totD (fdN fD) k : Nat))) = b → decide (0 < cmpI (totN eL fN (fdN fD) k * rD) (rN * (totD (fun i => (fD i).natAbs) k : Nat))) = b) := Lib.hid fun b hb => hb
                    obtain ⟨k1, hk1⟩ : ∃ b, decide (0 < cmpI (totN eL fN (fdN fD) k * rD) (rN * (totD (fdN fD) k : Nat))) = b := ⟨_, rfl⟩
                    obtain ⟨k2, hk2⟩ : ∃ b, decide (cmpI (totN eM fN (fdN fD) k * rD) (rN * (totD (fdN fD) k : Nat)) < 0) = b := ⟨_, rfl⟩
                    rw [hk1] at CL1
                    rw [hk2] at CL2
                    have HK1 := Lib.hid hk1
                    have HK2 := Lib.hid hk2
                    clear hk1 hk2 HG1
                    generalize decide (frI (totN eL fN (fdN fD) k) (totD (fdN fD) k) < 0) = gL at *
                    generalize decide (frI (totN eM fN (fdN fD) k) (totD (fdN fD) k) < 0) = gM at *
                    generalize decide (rN < 0) = gR at *
                    cases k1
                    · go_wp2_with (first
                        | (go_at_call 42; (with_reducible refine Calls.mono (CL1.out wr (Below.refl _ _)) ?_); rintro e _ ⟨rfl, ⟨z1, rfl⟩⟩; have z1s := z1.size)
                        | (go_at_call 42; (with_reducible refine Calls.mono (CL2.out z1.val z1.below) ?_); rintro e _ ⟨rfl, ⟨z2, rfl⟩⟩; have z2s := z2.size))
                      go_ret
                      refine ⟨ret_bool (by rw [HZ.out, HZ2.out]; simp only [Bool.not_false, Bool.true_and, Bool.false_or]; exact (congr (congrArg or HK1.out) HK2.out).symm), Cls.of ?_⟩
                      exact (HCls.out.trans ((z1.below.mono HCls.out.size))).trans (z2.below.mono (by have := HCls.out.size; omega))
                    · go_wp2_with (go_at_call 42; (with_reducible refine Calls.mono (CL1.out wr (Below.refl _ _)) ?_); rintro e _ ⟨rfl, ⟨z1, rfl⟩⟩; have z1s := z1.size)
                      go_ret
                      refine ⟨ret_bool (by rw [HZ.out, HZ2.out]; simp only [Bool.not_false, Bool.true_and, Bool.false_or]; exact (congr (congrArg or HK1.out) (rfl : _ = _)).symm), Cls.of ?_⟩
                      exact HCls.out.trans (z1.below.mono HCls.out.size)
end Go.Proofs.Ythbdkhmgopahbaa
