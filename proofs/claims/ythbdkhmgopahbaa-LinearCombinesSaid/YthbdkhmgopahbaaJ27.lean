/-
  The program's CheckBounds.
-/
import Derived.Test.YthbdkhmgopahbaaJ25
import Derived.Test.YthbdkhmgopahbaaJ26
set_option linter.unusedVariables false
namespace Go.Proofs.Ythbdkhmgopahbaa
open Go Go.RowKit Go.Deep
theorem fr_va {N : Int} {D : Nat} (hD : 0 < D) (h1 : (frI N D).natAbs ≤ 100000000000000000) (h2 : frd N D ≤ 100000000000000000) : vaB (frI N D) (frd N D) = true := by
  have h3 := fr_coprime N hD
  have h4 := frd_pos N hD
  unfold vaB rngB
  simp
  refine ⟨⟨⟨⟨?_, ?_⟩, ?_⟩, ?_⟩, ?_⟩ <;> first | exact h3 | omega
theorem frOk_va {N : Int} {D : Nat} (hD : 0 < D) (h : frOk N D = true) : vaB (frN N D) (frD N D) = true := by
  have h' := h
  simp only [frOk, Bool.and_eq_true, decide_eq_true_eq] at h'
  unfold frN frD
  rw [if_pos h, if_pos h]
  exact fr_va hD h'.1 h'.2
theorem cmE_zero {y : Sy} {n : Nat} {mn md : Nat → Int} (h : cmE y n mn md = 0) : n = y.R.len ∧ 0 < totD (fdN md) n ∧ cmR y n mn md = true ∧ ∀ k, k < y.U.len → cmOk y n mn md k = true := by
  unfold cmE at h
  by_cases h1 : vaS y = 0
  · rw [if_neg (by simpa using h1)] at h
    by_cases h2 : n = y.R.len
    · rw [if_neg (by simpa using h2)] at h
      cases h3 : anyB (fun i => !vaB (mn i) (md i)) n with
      | true => rw [h3] at h; simp at h
      | false =>
        rw [h3] at h
        rw [if_neg (by simp)] at h
        cases h4 : cmR y n mn md && !anyB (fun k => !cmOk y n mn md k) y.U.len with
        | false => rw [h4] at h; simp at h
        | true =>
          rw [Bool.and_eq_true] at h4
          refine ⟨h2, totD_pos n fun i hi => ?_, h4.1, fun k hk => ?_⟩
          · have := anyB_no.1 h3 i hi
            have hv : vaB (mn i) (md i) = true := by
              cases hv : vaB (mn i) (md i) with
              | true => rfl
              | false => rw [hv] at this; cases this
            have := (vaB_rng hv).1
            show 0 < (md i).natAbs
            omega
          · have h5 : anyB (fun k => !cmOk y n mn md k) y.U.len = false := by simpa using h4.2
            have := anyB_no.1 h5 k hk
            cases hv : cmOk y n mn md k with
            | true => rfl
            | false => rw [hv] at this; cases this
    · rw [if_pos h2] at h; cases h
  · rw [if_pos h1] at h; exact absurd h h1
theorem okL_all {m n : Nat} {f : Nat → Int} (h : okL m n f = true) : n = m ∧ ∀ i, i < n → -1000000000 ≤ f i ∧ f i ≤ 1000000000 := by
  unfold okL at h
  rw [Bool.and_eq_true, decide_eq_true_iff] at h
  exact ⟨h.1, fun i hi => outB_no.1 (anyB_no.1 (by simpa using h.2) i hi)⟩
/-- The least and the greatest value of a combination's left side. -/
def exN (y : Sy) (n : Nat) (mn md : Nat → Int) (ng ps : Nat → Int) : Int := totN (exU (cbN y n mn md) ng ps y.U.len) (cbN y n mn md) (fun i => (cbD y n mn md i).natAbs) y.U.len
def exD (y : Sy) (n : Nat) (mn md : Nat → Int) : Nat := totD (fun i => (cbD y n mn md i).natAbs) y.U.len
/-- What CheckBounds says. -/
def cbB (y : Sy) (n : Nat) (mn md : Nat → Int) (ln : Nat) (fl : Nat → Int) (pn : Nat) (fp : Nat → Int) : Bool :=
  (cmE y n mn md == 0) && ((okL y.U.len ln fl && okL y.U.len pn fp) && (anyB (fun i => decide (fp i < fl i)) y.U.len || (decide (0 < cmpI (exN y n mn md fp fl * crD y n mn md) (crN y n mn md * exD y n mn md)) || decide (cmpI (exN y n mn md fl fp * crD y n mn md) (crN y n mn md * exD y n mn md) < 0))))
set_option maxHeartbeats 16000000 in
set_option maxRecDepth 20000 in
theorem lCheckBounds_calls (y : Sy) (la : Option Addr) (ln lc : Nat) (fl : Nat → Int) (pa : Option Addr) (pn pc : Nat) (fp : Nat → Int) (a : Option Addr) (n c : Nat) (mn md : Nat → Int) (w : World) (h : SysA w y) (hl : IntsA w ⟨la, ln, lc⟩ fl) (hp : IntsA w ⟨pa, pn, pc⟩ fp) (hx : FrsA w ⟨a, n, c⟩ mn md) (hi : ∀ i, i < n → In64 (mn i) ∧ In64 (md i)) (hn : n ≤ 90) (hun : y.U.len ≤ 90) :
    Calls Try.prog 14 #[y.v, .slice la ln lc, .slice pa pn pc, .slice a n c] w fun e w' => e = .returned (.bool (cbB y n mn md ln fl pn fp)) ∧ Cls w w' := by
  have C0 := Lib.hid (fun (W : World) (hb : Below w.heap.size w W) => lCombine_calls y a n c mn md W (h.later hb) (hx.later hb) hi hn)
  have CBo := Lib.hid (fun (W : World) (hb : Below w.heap.size w W) => lbounds_calls y la ln lc fl pa pn pc fp W (h.later hb) (hl.later hb) (hp.later hb))
  unfold cbB
  by_cases hce : cmE y n mn md = 0
  case neg =>
    have C1 : Hid (∀ W, Below w.heap.size w W → Calls Try.prog 9 #[y.v, .slice a n c] W fun e w' => e = .returned (.tuple #[.slice none 0 0, .agg #[.int .i64 0, .int .i64 0], .int .i64 (cmE y n mn md)]) ∧ Cls W w') := Lib.hid fun W hb => (C0.out W hb).mono fun e w' hh => hh.no hce
    have d0 : (cmE y n mn md == 0) = false := by simpa using hce
    have d1 : (cmE y n mn md != 0) = true := by simpa using hce
    rw [d0]
    unfold Sy.v at *
    clear C0 CBo hce h hl hp hx hi
    generalize cmE y n mn md = ce at *
    generalize y.U.a = ua at *
    generalize y.U.len = un at *
    generalize y.U.cap = uc at *
    generalize y.R.a = ra at *
    generalize y.R.len = rn at *
    generalize y.R.cap = rc at *
    generalize y.B.a = ba at *
    generalize y.B.len = bn at *
    generalize y.B.cap = bc at *
    go_enter Try.func14, Try.ntmps14
    go_wp2_with (go_at_call 9; (with_reducible refine Calls.mono (C1.out _ ?_) ?_); (focus (repeat first | with_reducible exact Below.refl _ _ | with_reducible refine Below.setCell ?_ (by first | omega | (simp; done) | (simp; omega)) _ | with_reducible refine Below.alloc ?_ (by first | omega | (simp; done) | (simp; omega)) _ | with_reducible refine Below.drew ?_ | with_reducible refine Ext.on _ ?_ (by first | omega | (simp; done) | (simp; omega)))); rintro e _ ⟨rfl, ⟨x, rfl⟩⟩; have xs := x.size; (try simp at xs))
    go_ret
    refine ⟨rfl, Cls.of ?_⟩
    repeat first | with_reducible exact Below.refl _ _ | with_reducible refine Below.setCell ?_ (by first | omega | (simp; done) | (simp; omega)) _ | with_reducible refine Below.alloc ?_ (by first | omega | (simp; done) | (simp; omega)) _ | with_reducible refine Below.drew ?_ | with_reducible refine Ext.on _ ?_ (by first | omega | (simp; done) | (simp; omega))
  case pos =>
    have C1 : Hid (∀ W, Below w.heap.size w W → Calls Try.prog 9 #[y.v, .slice a n c] W fun e w' => ∃ (a : Option Addr) (c : Nat), e = .returned (.tuple #[.slice a y.U.len c, .agg #[.int .i64 (crN y n mn md), .int .i64 (crD y n mn md)], .int .i64 0]) ∧ FrsA w' ⟨a, y.U.len, c⟩ (cbN y n mn md) (cbD y n mn md) ∧ Cls W w') := Lib.hid fun W hb => (C0.out W hb).mono fun e w' hh => hh.yes hce
    obtain ⟨z1, z2, z3, z4⟩ := cmE_zero hce
    have HVK : ∀ k, k < y.U.len → vaB (cbN y n mn md k) (cbD y n mn md k) = true := fun k hk => frOk_va z2 (z4 k hk)
    have HVR : vaB (crN y n mn md) (crD y n mn md) = true := frOk_va z2 z3
    have hrd : ((crD y n mn md).natAbs : Int) = crD y n mn md := by have := (vaB_rng HVR).1; omega
    rw [hce]
    cases hbo : okL y.U.len ln fl && okL y.U.len pn fp
    case false =>
      rw [hbo] at CBo
      unfold Sy.v at *
      clear C0 hce h hl hp hx hi hbo z1 z2 z3 z4 HVK HVR hrd hun
      generalize cbN y n mn md = fN at *
      generalize cbD y n mn md = fD at *
      generalize crN y n mn md = rN at *
      generalize crD y n mn md = rD at *
      generalize y.U.a = ua at *
      generalize y.U.len = un at *
      generalize y.U.cap = uc at *
      generalize y.R.a = ra at *
      generalize y.R.len = rn at *
      generalize y.R.cap = rc at *
      generalize y.B.a = ba at *
      generalize y.B.len = bn at *
      generalize y.B.cap = bc at *
      go_enter Try.func14, Try.ntmps14
      go_wp2_with (first | (go_at_call 9; (with_reducible refine Calls.mono (C1.out _ ?_) ?_); (focus (repeat first | with_reducible exact Below.refl _ _ | with_reducible refine Below.setCell ?_ (by first | omega | (simp; done) | (simp; omega)) _ | with_reducible refine Below.alloc ?_ (by first | omega | (simp; done) | (simp; omega)) _ | with_reducible refine Below.drew ?_ | with_reducible refine Ext.on _ ?_ (by first | omega | (simp; done) | (simp; omega)))); rintro e _ ⟨sa, sc, rfl, hf, ⟨x, rfl⟩⟩; have xs := x.size; (try simp at xs); clear hf; obtain ⟨hx0, c0, c1, c2⟩ := three_s ((x.below.block w.heap.size (by simp)).trans (heap_alloc_new w _))) | (go_at_call 33; (with_reducible refine Calls.mono (CBo.out _ ?_) ?_); (focus (repeat first | with_reducible exact Below.refl _ _ | with_reducible refine Below.setCell ?_ (by first | omega | (simp; done) | (simp; omega)) _ | with_reducible refine Below.alloc ?_ (by first | omega | (simp; done) | (simp; omega)) _ | with_reducible refine Below.drew ?_ | with_reducible refine Ext.on _ ?_ (by first | omega | (simp; done) | (simp; omega)))); rintro e _ ⟨rfl, ⟨x2, rfl⟩⟩; have x2s := x2.size; (try simp at x2s)))
      go_ret
      refine ⟨rfl, Cls.of ?_⟩
      repeat first | with_reducible exact Below.refl _ _ | with_reducible refine Below.setCell ?_ (by first | omega | (simp; done) | (simp; omega)) _ | with_reducible refine Below.alloc ?_ (by first | omega | (simp; done) | (simp; omega)) _ | with_reducible refine Below.drew ?_ | with_reducible refine Ext.on _ ?_ (by first | omega | (simp; done) | (simp; omega))
    case true =>
      rw [hbo] at CBo
      have hb2 := hbo
      rw [Bool.and_eq_true] at hb2
      obtain ⟨g1, r1⟩ := okL_all hb2.1
      obtain ⟨g2, r2⟩ := okL_all hb2.2
      clear hb2
      have g1' := g1
      have g2' := g2
      subst g1 g2
      have hll : ∀ i, i < y.U.len → (fl i).natAbs < 9223372036854775808 := fun i hi' => by have := r1 i hi'; omega
      have hpp : ∀ i, i < y.U.len → (fp i).natAbs < 9223372036854775808 := fun i hi' => by have := r2 i hi'; omega
      have EX1 : Hid (∀ (W : World) (sa : Option Addr) (sc : Nat), Below w.heap.size w W → FrsA W ⟨sa, y.U.len, sc⟩ (cbN y n mn md) (cbD y n mn md) → Calls Try.prog 34 #[.slice sa y.U.len sc, .slice pa y.U.len pc, .slice la y.U.len lc] W (SumR W (exN y n mn md fp fl) (exD y n mn md))) := Lib.hid fun W sa sc hb hf =>
        lextreme_calls sa y.U.len sc (cbN y n mn md) (cbD y n mn md) pa pc fp la lc fl W hf (hp.later hb) (hl.later hb) hun hpp hll HVK
      have EX2 : Hid (∀ (W : World) (sa : Option Addr) (sc : Nat), Below w.heap.size w W → FrsA W ⟨sa, y.U.len, sc⟩ (cbN y n mn md) (cbD y n mn md) → Calls Try.prog 34 #[.slice sa y.U.len sc, .slice la y.U.len lc, .slice pa y.U.len pc] W (SumR W (exN y n mn md fl fp) (exD y n mn md))) := Lib.hid fun W sa sc hb hf =>
        lextreme_calls sa y.U.len sc (cbN y n mn md) (cbD y n mn md) la lc fl pa pc fp W hf (hl.later hb) (hp.later hb) hun hll hpp HVK
      have CR := Lib.hid (fun (W : World) (hb : Below w.heap.size w W) => lcrossed_calls la y.U.len lc fl pa pc fp W (hl.later hb) (hp.later hb))
      have hDp : 0 < exD y n mn md := totD_pos _ fun i hi' => by have := (vaB_rng (HVK i hi')).1; omega
      have hDw : exD y n mn md < wp 200 := wp_mono (totD_lt _ fun i hi' => by have := vaB_rng (HVK i hi'); omega) (by omega)
      have hNw : ∀ ng ps : Nat → Int, (∀ i, i < y.U.len → (ng i).natAbs < 9223372036854775808) → (∀ i, i < y.U.len → (ps i).natAbs < 9223372036854775808) → (exN y n mn md ng ps).natAbs < wp 200 := fun ng ps h1 h2 => wp_mono (totN_lt _ fun i hi' => by
        have := vaB_rng (HVK i hi')
        have e1 : (exU (cbN y n mn md) ng ps y.U.len i).natAbs < 9223372036854775808 := by
          unfold exU
          split
          · exact h1 i hi'
          · exact h2 i hi'
        refine ⟨by omega, by omega, by omega⟩) (by omega)
      have CP : ∀ (N : Int), N.natAbs < wp 200 → ∀ (W : World) (g : Bool) (s t : Sl), IAt W g s (frI N (exD y n mn md)) → NatAt W t (frd N (exD y n mn md)) → Calls Try.prog 36 #[.agg #[.bool g, .slice s.a s.len s.cap, .slice t.a t.len t.cap], .agg #[.int .i64 (crN y n mn md), .int .i64 (crD y n mn md)]] W fun e w' => e = .returned (.int .i64 (cmpI (N * crD y n mn md) (crN y n mn md * exD y n mn md))) ∧ Cls W w' := fun N hN W g s t h1 h2 => by
        have t := lcmp_calls g s.a s.len s.cap t.a t.len t.cap N (exD y n mn md) (crN y n mn md) (crD y n mn md).natAbs W h1 h2 hDp hN hDw (by rw [hrd]; exact HVR)
        rw [hrd] at t
        exact t
      have CP1 := Lib.hid (CP _ (hNw fp fl hpp hll))
      have CP2 := Lib.hid (CP _ (hNw fl fp hll hpp))
      have um := h.U.2.1
      unfold maxLen at um
      unfold Sy.v at *
      clear C0 hce h hl hp hx hi hbo z1 z2 z3 z4 HVK HVR hrd hDp hDw hNw CP hll hpp r1 r2 g1' g2'
      generalize exN y n mn md fp fl = LN at *
      generalize exN y n mn md fl fp = GN at *
      generalize exD y n mn md = DD at *
      generalize cbN y n mn md = fN at *
      generalize cbD y n mn md = fD at *
      generalize crN y n mn md = rN at *
      generalize crD y n mn md = rD at *
      generalize cmpI (LN * rD) (rN * DD) = k1 at *
      generalize cmpI (GN * rD) (rN * DD) = k2 at *
      generalize anyB (fun i => decide (fp i < fl i)) y.U.len = an at *
      generalize y.U.a = ua at *
      generalize y.U.len = un at *
      generalize y.U.cap = uc at *
      generalize y.R.a = ra at *
      generalize y.R.len = rn at *
      generalize y.R.cap = rc at *
      generalize y.B.a = ba at *
      generalize y.B.len = bn at *
      generalize y.B.cap = bc at *
      cases an
      case true =>
        go_enter Try.func14, Try.ntmps14
        go_wp2_with (first
          | (go_at_call 9; (with_reducible refine Calls.mono (C1.out _ ?_) ?_); (focus (repeat first | with_reducible exact Below.refl _ _ | with_reducible refine Below.setCell ?_ (by first | omega | (simp; done) | (simp; omega)) _ | with_reducible refine Below.alloc ?_ (by first | omega | (simp; done) | (simp; omega)) _ | with_reducible refine Below.drew ?_ | with_reducible refine Ext.on _ ?_ (by first | omega | (simp; done) | (simp; omega)))); rintro e _ ⟨sa, sc, rfl, hf, ⟨x, rfl⟩⟩; have xs := x.size; (try simp at xs); have HF := Lib.hid hf; clear hf; obtain ⟨hx0, c0, c1, c2⟩ := three_s ((x.below.block w.heap.size (by simp)).trans (heap_alloc_new w _)))
          | (go_at_call 33; (with_reducible refine Calls.mono (CBo.out _ ?_) ?_); (focus (repeat first | with_reducible exact Below.refl _ _ | with_reducible refine Below.setCell ?_ (by first | omega | (simp; done) | (simp; omega)) _ | with_reducible refine Below.alloc ?_ (by first | omega | (simp; done) | (simp; omega)) _ | with_reducible refine Below.drew ?_ | with_reducible refine Ext.on _ ?_ (by first | omega | (simp; done) | (simp; omega)))); rintro e _ ⟨rfl, ⟨x2, rfl⟩⟩; have x2s := x2.size; (try simp at x2s); have HR := Lib.hid ((x2.below.block x.val.heap.size (by simp)).trans (heap_alloc_new x.val _)))
          | (go_at_call 34; (with_reducible refine Calls.mono (EX1.out _ sa sc ?_ (HF.out.later (by repeat first | with_reducible exact Below.refl _ _ | with_reducible refine Below.setCell ?_ (by first | omega | (simp; done) | (simp; omega)) _ | with_reducible refine Below.alloc ?_ (by first | omega | (simp; done) | (simp; omega)) _ | with_reducible refine Below.drew ?_ | with_reducible refine Ext.on _ ?_ (by first | omega | (simp; done) | (simp; omega))))) ?_); (focus (repeat first | with_reducible exact Below.refl _ _ | with_reducible refine Below.setCell ?_ (by first | omega | (simp; done) | (simp; omega)) _ | with_reducible refine Below.alloc ?_ (by first | omega | (simp; done) | (simp; omega)) _ | with_reducible refine Below.drew ?_ | with_reducible refine Ext.on _ ?_ (by first | omega | (simp; done) | (simp; omega)))); rintro e _ ⟨g1, s1, t1, rfl, hs1, ht1, ⟨y1, rfl⟩⟩; have y1s := y1.size; have HS1 := Lib.hid hs1; have HT1 := Lib.hid ht1; clear hs1 ht1)
          | (go_at_call 34; (with_reducible refine Calls.mono (EX2.out _ sa sc ?_ (HF.out.later (by repeat first | with_reducible exact Below.refl _ _ | with_reducible refine Below.setCell ?_ (by first | omega | (simp; done) | (simp; omega)) _ | with_reducible refine Below.alloc ?_ (by first | omega | (simp; done) | (simp; omega)) _ | with_reducible refine Below.drew ?_ | with_reducible refine Ext.on _ ?_ (by first | omega | (simp; done) | (simp; omega))))) ?_); (focus (repeat first | with_reducible exact Below.refl _ _ | with_reducible refine Below.setCell ?_ (by first | omega | (simp; done) | (simp; omega)) _ | with_reducible refine Below.alloc ?_ (by first | omega | (simp; done) | (simp; omega)) _ | with_reducible refine Below.drew ?_ | with_reducible refine Ext.on _ ?_ (by first | omega | (simp; done) | (simp; omega)))); rintro e _ ⟨g2, s2, t2, rfl, hs2, ht2, ⟨y2, rfl⟩⟩; have y2s := y2.size; have HS2 := Lib.hid hs2; have HT2 := Lib.hid ht2; clear hs2 ht2)
          | (go_at_call 35; (with_reducible refine Calls.mono (CR.out _ ?_) ?_); (focus (repeat first | with_reducible exact Below.refl _ _ | with_reducible refine Below.setCell ?_ (by first | omega | (simp; done) | (simp; omega)) _ | with_reducible refine Below.alloc ?_ (by first | omega | (simp; done) | (simp; omega)) _ | with_reducible refine Below.drew ?_ | with_reducible refine Ext.on _ ?_ (by first | omega | (simp; done) | (simp; omega)))); rintro e _ ⟨rfl, ⟨y3, rfl⟩⟩; have y3s := y3.size; (try simp at y3s); have HB2 : Below x2.val.heap.size x2.val y3.val := (by repeat first | with_reducible exact Below.refl _ _ | with_reducible refine Below.setCell ?_ (by first | omega | (simp; done) | (simp; omega)) _ | with_reducible refine Below.alloc ?_ (by first | omega | (simp; done) | (simp; omega)) _ | with_reducible refine Below.drew ?_ | with_reducible refine Ext.on _ ?_ (by first | omega | (simp; done) | (simp; omega))); have HRy := Lib.hid ((HB2.block x.val.heap.size (by omega)).trans HR.out); obtain ⟨_, e0, e1⟩ := two_s HRy.out; have HSy := Lib.hid ((y3.below.block (y2.val.heap.size + 1) (by simp)).trans (heap_two1 y2.val _ _)); obtain ⟨_, m0, m1, m2⟩ := three_s HSy.out; obtain ⟨_, p0, p1, p2⟩ := three_s ((y3.below.block y2.val.heap.size (by simp; omega)).trans (heap_two0 y2.val _ _)))
          | (go_at_call 36; (with_reducible refine Calls.mono (CP1.out _ g1 s1 t1 (HS1.out.later (by repeat first | with_reducible exact Below.refl _ _ | with_reducible refine Below.setCell ?_ (by first | omega | (simp; done) | (simp; omega)) _ | with_reducible refine Below.alloc ?_ (by first | omega | (simp; done) | (simp; omega)) _ | with_reducible refine Below.drew ?_ | with_reducible refine Ext.on _ ?_ (by first | omega | (simp; done) | (simp; omega)))) (HT1.out.later (by repeat first | with_reducible exact Below.refl _ _ | with_reducible refine Below.setCell ?_ (by first | omega | (simp; done) | (simp; omega)) _ | with_reducible refine Below.alloc ?_ (by first | omega | (simp; done) | (simp; omega)) _ | with_reducible refine Below.drew ?_ | with_reducible refine Ext.on _ ?_ (by first | omega | (simp; done) | (simp; omega))))) ?_); rintro e _ ⟨rfl, ⟨y4, rfl⟩⟩; have y4s := y4.size; (try simp at y4s); obtain ⟨_, e0, e1⟩ := two_s ((y4.below.block x.val.heap.size (by omega)).trans HRy.out); obtain ⟨_, m0, m1, m2⟩ := three_s ((y4.below.block (y2.val.heap.size + 1) (by omega)).trans HSy.out))
          | (go_at_call 36; (with_reducible refine Calls.mono (CP2.out _ g2 s2 t2 (HS2.out.later (by repeat first | with_reducible exact Below.refl _ _ | with_reducible refine Below.setCell ?_ (by first | omega | (simp; done) | (simp; omega)) _ | with_reducible refine Below.alloc ?_ (by first | omega | (simp; done) | (simp; omega)) _ | with_reducible refine Below.drew ?_ | with_reducible refine Ext.on _ ?_ (by first | omega | (simp; done) | (simp; omega)))) (HT2.out.later (by repeat first | with_reducible exact Below.refl _ _ | with_reducible refine Below.setCell ?_ (by first | omega | (simp; done) | (simp; omega)) _ | with_reducible refine Below.alloc ?_ (by first | omega | (simp; done) | (simp; omega)) _ | with_reducible refine Below.drew ?_ | with_reducible refine Ext.on _ ?_ (by first | omega | (simp; done) | (simp; omega))))) ?_); rintro e _ ⟨rfl, ⟨y5, rfl⟩⟩; have y5s := y5.size; (try simp at y5s)))
        go_ret
        refine ⟨rfl, Cls.of ?_⟩
        repeat first | with_reducible exact Below.refl _ _ | with_reducible refine Below.setCell ?_ (by first | omega | (simp; done) | (simp; omega)) _ | with_reducible refine Below.alloc ?_ (by first | omega | (simp; done) | (simp; omega)) _ | with_reducible refine Below.drew ?_ | with_reducible refine Ext.on _ ?_ (by first | omega | (simp; done) | (simp; omega))
      case false =>
        by_cases hk1 : 0 < k1
        · have d3 : decide (0 < k1) = true := decide_eq_true hk1
          rw [d3]
          clear hk1
          go_enter Try.func14, Try.ntmps14
          go_wp2_with (first
            | (go_at_call 9; (with_reducible refine Calls.mono (C1.out _ ?_) ?_); (focus (repeat first | with_reducible exact Below.refl _ _ | with_reducible refine Below.setCell ?_ (by first | omega | (simp; done) | (simp; omega)) _ | with_reducible refine Below.alloc ?_ (by first | omega | (simp; done) | (simp; omega)) _ | with_reducible refine Below.drew ?_ | with_reducible refine Ext.on _ ?_ (by first | omega | (simp; done) | (simp; omega)))); rintro e _ ⟨sa, sc, rfl, hf, ⟨x, rfl⟩⟩; have xs := x.size; (try simp at xs); have HF := Lib.hid hf; clear hf; obtain ⟨hx0, c0, c1, c2⟩ := three_s ((x.below.block w.heap.size (by simp)).trans (heap_alloc_new w _)))
            | (go_at_call 33; (with_reducible refine Calls.mono (CBo.out _ ?_) ?_); (focus (repeat first | with_reducible exact Below.refl _ _ | with_reducible refine Below.setCell ?_ (by first | omega | (simp; done) | (simp; omega)) _ | with_reducible refine Below.alloc ?_ (by first | omega | (simp; done) | (simp; omega)) _ | with_reducible refine Below.drew ?_ | with_reducible refine Ext.on _ ?_ (by first | omega | (simp; done) | (simp; omega)))); rintro e _ ⟨rfl, ⟨x2, rfl⟩⟩; have x2s := x2.size; (try simp at x2s); have HR := Lib.hid ((x2.below.block x.val.heap.size (by simp)).trans (heap_alloc_new x.val _)))
            | (go_at_call 34; (with_reducible refine Calls.mono (EX1.out _ sa sc ?_ (HF.out.later (by repeat first | with_reducible exact Below.refl _ _ | with_reducible refine Below.setCell ?_ (by first | omega | (simp; done) | (simp; omega)) _ | with_reducible refine Below.alloc ?_ (by first | omega | (simp; done) | (simp; omega)) _ | with_reducible refine Below.drew ?_ | with_reducible refine Ext.on _ ?_ (by first | omega | (simp; done) | (simp; omega))))) ?_); (focus (repeat first | with_reducible exact Below.refl _ _ | with_reducible refine Below.setCell ?_ (by first | omega | (simp; done) | (simp; omega)) _ | with_reducible refine Below.alloc ?_ (by first | omega | (simp; done) | (simp; omega)) _ | with_reducible refine Below.drew ?_ | with_reducible refine Ext.on _ ?_ (by first | omega | (simp; done) | (simp; omega)))); rintro e _ ⟨g1, s1, t1, rfl, hs1, ht1, ⟨y1, rfl⟩⟩; have y1s := y1.size; have HS1 := Lib.hid hs1; have HT1 := Lib.hid ht1; clear hs1 ht1)
            | (go_at_call 34; (with_reducible refine Calls.mono (EX2.out _ sa sc ?_ (HF.out.later (by repeat first | with_reducible exact Below.refl _ _ | with_reducible refine Below.setCell ?_ (by first | omega | (simp; done) | (simp; omega)) _ | with_reducible refine Below.alloc ?_ (by first | omega | (simp; done) | (simp; omega)) _ | with_reducible refine Below.drew ?_ | with_reducible refine Ext.on _ ?_ (by first | omega | (simp; done) | (simp; omega))))) ?_); (focus (repeat first | with_reducible exact Below.refl _ _ | with_reducible refine Below.setCell ?_ (by first | omega | (simp; done) | (simp; omega)) _ | with_reducible refine Below.alloc ?_ (by first | omega | (simp; done) | (simp; omega)) _ | with_reducible refine Below.drew ?_ | with_reducible refine Ext.on _ ?_ (by first | omega | (simp; done) | (simp; omega)))); rintro e _ ⟨g2, s2, t2, rfl, hs2, ht2, ⟨y2, rfl⟩⟩; have y2s := y2.size; have HS2 := Lib.hid hs2; have HT2 := Lib.hid ht2; clear hs2 ht2)
            | (go_at_call 35; (with_reducible refine Calls.mono (CR.out _ ?_) ?_); (focus (repeat first | with_reducible exact Below.refl _ _ | with_reducible refine Below.setCell ?_ (by first | omega | (simp; done) | (simp; omega)) _ | with_reducible refine Below.alloc ?_ (by first | omega | (simp; done) | (simp; omega)) _ | with_reducible refine Below.drew ?_ | with_reducible refine Ext.on _ ?_ (by first | omega | (simp; done) | (simp; omega)))); rintro e _ ⟨rfl, ⟨y3, rfl⟩⟩; have y3s := y3.size; (try simp at y3s); have HB2 : Below x2.val.heap.size x2.val y3.val := (by repeat first | with_reducible exact Below.refl _ _ | with_reducible refine Below.setCell ?_ (by first | omega | (simp; done) | (simp; omega)) _ | with_reducible refine Below.alloc ?_ (by first | omega | (simp; done) | (simp; omega)) _ | with_reducible refine Below.drew ?_ | with_reducible refine Ext.on _ ?_ (by first | omega | (simp; done) | (simp; omega))); have HRy := Lib.hid ((HB2.block x.val.heap.size (by omega)).trans HR.out); obtain ⟨_, e0, e1⟩ := two_s HRy.out; have HSy := Lib.hid ((y3.below.block (y2.val.heap.size + 1) (by simp)).trans (heap_two1 y2.val _ _)); obtain ⟨_, m0, m1, m2⟩ := three_s HSy.out; obtain ⟨_, p0, p1, p2⟩ := three_s ((y3.below.block y2.val.heap.size (by simp; omega)).trans (heap_two0 y2.val _ _)))
            | (go_at_call 36; (with_reducible refine Calls.mono (CP1.out _ g1 s1 t1 (HS1.out.later (by repeat first | with_reducible exact Below.refl _ _ | with_reducible refine Below.setCell ?_ (by first | omega | (simp; done) | (simp; omega)) _ | with_reducible refine Below.alloc ?_ (by first | omega | (simp; done) | (simp; omega)) _ | with_reducible refine Below.drew ?_ | with_reducible refine Ext.on _ ?_ (by first | omega | (simp; done) | (simp; omega)))) (HT1.out.later (by repeat first | with_reducible exact Below.refl _ _ | with_reducible refine Below.setCell ?_ (by first | omega | (simp; done) | (simp; omega)) _ | with_reducible refine Below.alloc ?_ (by first | omega | (simp; done) | (simp; omega)) _ | with_reducible refine Below.drew ?_ | with_reducible refine Ext.on _ ?_ (by first | omega | (simp; done) | (simp; omega))))) ?_); rintro e _ ⟨rfl, ⟨y4, rfl⟩⟩; have y4s := y4.size; (try simp at y4s); obtain ⟨_, e0, e1⟩ := two_s ((y4.below.block x.val.heap.size (by omega)).trans HRy.out); obtain ⟨_, m0, m1, m2⟩ := three_s ((y4.below.block (y2.val.heap.size + 1) (by omega)).trans HSy.out))
            | (go_at_call 36; (with_reducible refine Calls.mono (CP2.out _ g2 s2 t2 (HS2.out.later (by repeat first | with_reducible exact Below.refl _ _ | with_reducible refine Below.setCell ?_ (by first | omega | (simp; done) | (simp; omega)) _ | with_reducible refine Below.alloc ?_ (by first | omega | (simp; done) | (simp; omega)) _ | with_reducible refine Below.drew ?_ | with_reducible refine Ext.on _ ?_ (by first | omega | (simp; done) | (simp; omega)))) (HT2.out.later (by repeat first | with_reducible exact Below.refl _ _ | with_reducible refine Below.setCell ?_ (by first | omega | (simp; done) | (simp; omega)) _ | with_reducible refine Below.alloc ?_ (by first | omega | (simp; done) | (simp; omega)) _ | with_reducible refine Below.drew ?_ | with_reducible refine Ext.on _ ?_ (by first | omega | (simp; done) | (simp; omega))))) ?_); rintro e _ ⟨rfl, ⟨y5, rfl⟩⟩; have y5s := y5.size; (try simp at y5s)))
          go_ret
          refine ⟨rfl, Cls.of ?_⟩
          repeat first | with_reducible exact Below.refl _ _ | with_reducible refine Below.setCell ?_ (by first | omega | (simp; done) | (simp; omega)) _ | with_reducible refine Below.alloc ?_ (by first | omega | (simp; done) | (simp; omega)) _ | with_reducible refine Below.drew ?_ | with_reducible refine Ext.on _ ?_ (by first | omega | (simp; done) | (simp; omega))
        · have d3 : decide (0 < k1) = false := decide_eq_false hk1
          rw [d3]
          clear hk1
          go_enter Try.func14, Try.ntmps14
          go_wp2_with (first
            | (go_at_call 9; (with_reducible refine Calls.mono (C1.out _ ?_) ?_); (focus (repeat first | with_reducible exact Below.refl _ _ | with_reducible refine Below.setCell ?_ (by first | omega | (simp; done) | (simp; omega)) _ | with_reducible refine Below.alloc ?_ (by first | omega | (simp; done) | (simp; omega)) _ | with_reducible refine Below.drew ?_ | with_reducible refine Ext.on _ ?_ (by first | omega | (simp; done) | (simp; omega)))); rintro e _ ⟨sa, sc, rfl, hf, ⟨x, rfl⟩⟩; have xs := x.size; (try simp at xs); have HF := Lib.hid hf; clear hf; obtain ⟨hx0, c0, c1, c2⟩ := three_s ((x.below.block w.heap.size (by simp)).trans (heap_alloc_new w _)))
            | (go_at_call 33; (with_reducible refine Calls.mono (CBo.out _ ?_) ?_); (focus (repeat first | with_reducible exact Below.refl _ _ | with_reducible refine Below.setCell ?_ (by first | omega | (simp; done) | (simp; omega)) _ | with_reducible refine Below.alloc ?_ (by first | omega | (simp; done) | (simp; omega)) _ | with_reducible refine Below.drew ?_ | with_reducible refine Ext.on _ ?_ (by first | omega | (simp; done) | (simp; omega)))); rintro e _ ⟨rfl, ⟨x2, rfl⟩⟩; have x2s := x2.size; (try simp at x2s); have HR := Lib.hid ((x2.below.block x.val.heap.size (by simp)).trans (heap_alloc_new x.val _)))
            | (go_at_call 34; (with_reducible refine Calls.mono (EX1.out _ sa sc ?_ (HF.out.later (by repeat first | with_reducible exact Below.refl _ _ | with_reducible refine Below.setCell ?_ (by first | omega | (simp; done) | (simp; omega)) _ | with_reducible refine Below.alloc ?_ (by first | omega | (simp; done) | (simp; omega)) _ | with_reducible refine Below.drew ?_ | with_reducible refine Ext.on _ ?_ (by first | omega | (simp; done) | (simp; omega))))) ?_); (focus (repeat first | with_reducible exact Below.refl _ _ | with_reducible refine Below.setCell ?_ (by first | omega | (simp; done) | (simp; omega)) _ | with_reducible refine Below.alloc ?_ (by first | omega | (simp; done) | (simp; omega)) _ | with_reducible refine Below.drew ?_ | with_reducible refine Ext.on _ ?_ (by first | omega | (simp; done) | (simp; omega)))); rintro e _ ⟨g1, s1, t1, rfl, hs1, ht1, ⟨y1, rfl⟩⟩; have y1s := y1.size; have HS1 := Lib.hid hs1; have HT1 := Lib.hid ht1; clear hs1 ht1)
            | (go_at_call 34; (with_reducible refine Calls.mono (EX2.out _ sa sc ?_ (HF.out.later (by repeat first | with_reducible exact Below.refl _ _ | with_reducible refine Below.setCell ?_ (by first | omega | (simp; done) | (simp; omega)) _ | with_reducible refine Below.alloc ?_ (by first | omega | (simp; done) | (simp; omega)) _ | with_reducible refine Below.drew ?_ | with_reducible refine Ext.on _ ?_ (by first | omega | (simp; done) | (simp; omega))))) ?_); (focus (repeat first | with_reducible exact Below.refl _ _ | with_reducible refine Below.setCell ?_ (by first | omega | (simp; done) | (simp; omega)) _ | with_reducible refine Below.alloc ?_ (by first | omega | (simp; done) | (simp; omega)) _ | with_reducible refine Below.drew ?_ | with_reducible refine Ext.on _ ?_ (by first | omega | (simp; done) | (simp; omega)))); rintro e _ ⟨g2, s2, t2, rfl, hs2, ht2, ⟨y2, rfl⟩⟩; have y2s := y2.size; have HS2 := Lib.hid hs2; have HT2 := Lib.hid ht2; clear hs2 ht2)
            | (go_at_call 35; (with_reducible refine Calls.mono (CR.out _ ?_) ?_); (focus (repeat first | with_reducible exact Below.refl _ _ | with_reducible refine Below.setCell ?_ (by first | omega | (simp; done) | (simp; omega)) _ | with_reducible refine Below.alloc ?_ (by first | omega | (simp; done) | (simp; omega)) _ | with_reducible refine Below.drew ?_ | with_reducible refine Ext.on _ ?_ (by first | omega | (simp; done) | (simp; omega)))); rintro e _ ⟨rfl, ⟨y3, rfl⟩⟩; have y3s := y3.size; (try simp at y3s); have HB2 : Below x2.val.heap.size x2.val y3.val := (by repeat first | with_reducible exact Below.refl _ _ | with_reducible refine Below.setCell ?_ (by first | omega | (simp; done) | (simp; omega)) _ | with_reducible refine Below.alloc ?_ (by first | omega | (simp; done) | (simp; omega)) _ | with_reducible refine Below.drew ?_ | with_reducible refine Ext.on _ ?_ (by first | omega | (simp; done) | (simp; omega))); have HRy := Lib.hid ((HB2.block x.val.heap.size (by omega)).trans HR.out); obtain ⟨_, e0, e1⟩ := two_s HRy.out; have HSy := Lib.hid ((y3.below.block (y2.val.heap.size + 1) (by simp)).trans (heap_two1 y2.val _ _)); obtain ⟨_, m0, m1, m2⟩ := three_s HSy.out; obtain ⟨_, p0, p1, p2⟩ := three_s ((y3.below.block y2.val.heap.size (by simp; omega)).trans (heap_two0 y2.val _ _)))
            | (go_at_call 36; (with_reducible refine Calls.mono (CP1.out _ g1 s1 t1 (HS1.out.later (by repeat first | with_reducible exact Below.refl _ _ | with_reducible refine Below.setCell ?_ (by first | omega | (simp; done) | (simp; omega)) _ | with_reducible refine Below.alloc ?_ (by first | omega | (simp; done) | (simp; omega)) _ | with_reducible refine Below.drew ?_ | with_reducible refine Ext.on _ ?_ (by first | omega | (simp; done) | (simp; omega)))) (HT1.out.later (by repeat first | with_reducible exact Below.refl _ _ | with_reducible refine Below.setCell ?_ (by first | omega | (simp; done) | (simp; omega)) _ | with_reducible refine Below.alloc ?_ (by first | omega | (simp; done) | (simp; omega)) _ | with_reducible refine Below.drew ?_ | with_reducible refine Ext.on _ ?_ (by first | omega | (simp; done) | (simp; omega))))) ?_); rintro e _ ⟨rfl, ⟨y4, rfl⟩⟩; have y4s := y4.size; (try simp at y4s); obtain ⟨_, e0, e1⟩ := two_s ((y4.below.block x.val.heap.size (by omega)).trans HRy.out); obtain ⟨_, m0, m1, m2⟩ := three_s ((y4.below.block (y2.val.heap.size + 1) (by omega)).trans HSy.out))
            | (go_at_call 36; (with_reducible refine Calls.mono (CP2.out _ g2 s2 t2 (HS2.out.later (by repeat first | with_reducible exact Below.refl _ _ | with_reducible refine Below.setCell ?_ (by first | omega | (simp; done) | (simp; omega)) _ | with_reducible refine Below.alloc ?_ (by first | omega | (simp; done) | (simp; omega)) _ | with_reducible refine Below.drew ?_ | with_reducible refine Ext.on _ ?_ (by first | omega | (simp; done) | (simp; omega)))) (HT2.out.later (by repeat first | with_reducible exact Below.refl _ _ | with_reducible refine Below.setCell ?_ (by first | omega | (simp; done) | (simp; omega)) _ | with_reducible refine Below.alloc ?_ (by first | omega | (simp; done) | (simp; omega)) _ | with_reducible refine Below.drew ?_ | with_reducible refine Ext.on _ ?_ (by first | omega | (simp; done) | (simp; omega))))) ?_); rintro e _ ⟨rfl, ⟨y5, rfl⟩⟩; have y5s := y5.size; (try simp at y5s)))
          go_ret
          refine ⟨rfl, Cls.of ?_⟩
          repeat first | with_reducible exact Below.refl _ _ | with_reducible refine Below.setCell ?_ (by first | omega | (simp; done) | (simp; omega)) _ | with_reducible refine Below.alloc ?_ (by first | omega | (simp; done) | (simp; omega)) _ | with_reducible refine Below.drew ?_ | with_reducible refine Ext.on _ ?_ (by first | omega | (simp; done) | (simp; omega))
end Go.Proofs.Ythbdkhmgopahbaa
