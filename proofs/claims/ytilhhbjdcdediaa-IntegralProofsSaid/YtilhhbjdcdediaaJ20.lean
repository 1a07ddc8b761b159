/-
  The program's CheckLattice. The program's bounds and crossed.
-/
import Derived.Test.YtilhhbjdcdediaaJ19
set_option linter.unusedVariables false
namespace Go.Proofs.Ytilhhbjdcdediaa
open Go Go.RowKit Go.Deep
/-- The numerators and denominators of a combination. -/
def cbN (y : Sy) (n : Nat) (mn md : Nat → Int) (k : Nat) : Int := frN (totN (fun i => y.co i k) mn (fdN md) n) (totD (fdN md) n)
def cbD (y : Sy) (n : Nat) (mn md : Nat → Int) (k : Nat) : Int := frD (totN (fun i => y.co i k) mn (fdN md) n) (totD (fdN md) n)
def crN (y : Sy) (n : Nat) (mn md : Nat → Int) : Int := frN (totN y.rt mn (fdN md) n) (totD (fdN md) n)
def crD (y : Sy) (n : Nat) (mn md : Nat → Int) : Int := frD (totN y.rt mn (fdN md) n) (totD (fdN md) n)
theorem CmbR.no {y : Sy} {n : Nat} {mn md : Nat → Int} {w w' : World} {e : Ending} (h : CmbR y n mn md w e w') (hc : cmE y n mn md ≠ 0) : e = .returned (.tuple #[.slice none 0 0, .agg #[.int .i64 0, .int .i64 0], .int .i64 (cmE y n mn md)]) ∧ Cls w w' := by
  obtain ⟨s, he, _, h8, hcl⟩ := h
  have := h8 hc
  subst this
  unfold cmN cmD at he
  rw [if_neg hc, if_neg hc] at he
  exact ⟨he, hcl⟩
theorem CmbR.yes {y : Sy} {n : Nat} {mn md : Nat → Int} {w w' : World} {e : Ending} (h : CmbR y n mn md w e w') (hc : cmE y n mn md = 0) : ∃ (a : Option Addr) (c : Nat), e = .returned (.tuple #[.slice a y.U.len c, .agg #[.int .i64 (crN y n mn md), .int .i64 (crD y n mn md)], .int .i64 0]) ∧ FrsA w' ⟨a, y.U.len, c⟩ (cbN y n mn md) (cbD y n mn md) ∧ Cls w w' := by
  obtain ⟨⟨a, l, c⟩, he, h0, _, hcl⟩ := h
  obtain ⟨hl, hf⟩ := h0 hc
  have hl' : l = y.U.len := hl
  subst hl'
  unfold cmN cmD at he
  rw [if_pos hc, if_pos hc, hc] at he
  exact ⟨a, c, he, hf, hcl⟩
set_option maxHeartbeats 4000000 in
set_option maxRecDepth 20000 in
theorem index_lat (a : Option Addr) (sn sc : Nat) (f g : Nat → Int) (p : Nat → Bool)  (w : World) (hs : FrsA w ⟨a, sn, sc⟩ f g) (C : ∀ (W : World), Below w.heap.size w W → ∀ j, j < sn → Calls Try.prog 31 #[.agg #[.int .i64 (f j), .int .i64 (g j)]] W fun e w' => e = .returned (.bool (p j)) ∧ Cls W w') :
    Calls Try.prog 64 #[.slice a sn sc, .func (.func 31) #[] #[]] w fun e w' => e = .returned (.int .i64 (fstI p 0 sn)) ∧ Cls w w' := by
  obtain ⟨hle, hmax, hh⟩ := hs
  simp only at hle hmax hh
  unfold maxLen at hmax
  have H := Lib.hid hh
  have HC := Lib.hid C
  clear hh C
  go_enter Try.func64, Try.ntmps64
  go_wp2_with fail
  go_loopw [8] (fun i wr => ∃ j : Nat, j ≤ sn ∧ i = .int .i64 j ∧ Hid (fstI p 0 sn = fstI p j (sn - j)) ∧ Cls w wr) (fun i _ => sn - (intOf i).toNat)
  case atStart => exact ⟨0, Nat.zero_le _, rfl, Lib.hid rfl, Cls.of (Below.refl _ _)⟩
  case round =>
    obtain ⟨j, hj, rfl, HE, x, rfl⟩ := hrel
    have xs := x.size
    by_cases hltj : j < sn
    · obtain ⟨b, off, ha, hb2, hc⟩ := H.out.resolve_left (by omega)
      subst ha
      have q0 := hc j hltj
      have hS : Hid (sn - j = (sn - (j + 1)) + 1) := Lib.hid (by omega)
      have C1 := Lib.hid (HC.out x.val x.below j hltj)
      clear hc HC H
      cases hbb : p j
      all_goals
        have HB := Lib.hid hbb
        rw [hbb] at C1
        clear hbb
        generalize f j = tj at q0 C1
        generalize g j = uj at q0 C1
        obtain ⟨q1, q2⟩ := q0
        go_wp2_with (go_at_call 31; ((with_reducible refine (Cls.call C1.out).mono ?_); rintro r _ ⟨rfl, y, rfl⟩))
      · go_roundw
        case rel => exact ⟨j + 1, by omega, by go_num, Lib.hid (by rw [HE.out, hS.out, fstI_go HB.out]), y, rfl⟩
        case measure => simp [intOf]; omega
      · go_ret
        exact ⟨ret_int (by rw [HE.out, hS.out, fstI_stop HB.out]), y, rfl⟩
    · have hz : Hid (sn - j = 0) := Lib.hid (by omega)
      go_wp2_with fail
      go_ret
      exact ⟨ret_int (by rw [HE.out, hz.out]; rfl), x, rfl⟩
set_option maxHeartbeats 4000000 in
set_option maxRecDepth 20000 in
theorem contains_lat (a : Option Addr) (sn sc : Nat) (f g : Nat → Int) (p : Nat → Bool)  (w : World) (hs : FrsA w ⟨a, sn, sc⟩ f g) (C : ∀ (W : World), Below w.heap.size w W → ∀ j, j < sn → Calls Try.prog 31 #[.agg #[.int .i64 (f j), .int .i64 (g j)]] W fun e w' => e = .returned (.bool (p j)) ∧ Cls W w') :
    Calls Try.prog 32 #[.slice a sn sc, .func (.func 31) #[] #[]] w fun e w' => e = .returned (.bool (anyB p sn)) ∧ Cls w w' := by
  have C1 := Lib.hid (index_lat a sn sc f g p  w hs C)
  clear hs C
  unfold anyB
  generalize fstI p 0 sn = n at C1 ⊢
  go_enter Try.func32, Try.ntmps32
  go_wp2_with (go_at_call 64; ((with_reducible refine C1.out.mono ?_); rintro r _ ⟨rfl, y, rfl⟩))
  go_ret
  exact ⟨ret_bool (by simp), y, rfl⟩
set_option maxHeartbeats 2000000 in
set_option maxRecDepth 20000 in
theorem broken_calls (n d : Int) (w : World) : Calls Try.prog 31 #[.agg #[.int .i64 n, .int .i64 d]] w fun e w' => e = .returned (.bool (d != 1)) ∧ Cls w w' := by
  go_enter Try.func31, Try.ntmps31
  go_wp2_with fail
  go_ret
  exact ⟨rfl, Cls.of (by repeat first | with_reducible exact Below.refl _ _ | with_reducible refine Below.setCell ?_ (by first | omega | (simp; done) | (simp; omega)) _ | with_reducible refine Below.alloc ?_ (by first | omega | (simp; done) | (simp; omega)) _ | with_reducible refine Below.drew ?_ | with_reducible refine Ext.on _ ?_ (by first | omega | (simp; done) | (simp; omega)))⟩
/-- Whether a combination shows that no whole numbers are a solution. -/
def laB (y : Sy) (n : Nat) (mn md : Nat → Int) : Bool := (cmE y n mn md == 0) && ((crD y n mn md != 1) && !anyB (fun k => cbD y n mn md k != 1) y.U.len)
set_option maxHeartbeats 8000000 in
set_option maxRecDepth 20000 in
theorem lLattice_calls (y : Sy) (a : Option Addr) (n c : Nat) (mn md : Nat → Int) (w : World) (h : SysA w y) (hx : FrsA w ⟨a, n, c⟩ mn md) (hi : ∀ i, i < n → In64 (mn i) ∧ In64 (md i)) (hn : n ≤ 90) :
    Calls Try.prog 12 #[y.v, .slice a n c] w fun e w' => e = .returned (.bool (laB y n mn md)) ∧ Cls w w' := by
  have C0 := Lib.hid (fun (W : World) (hb : Below w.heap.size w W) => lCombine_calls y a n c mn md W (h.later hb) (hx.later hb) hi hn)
  clear h hx hi
  unfold laB
  by_cases hce : cmE y n mn md = 0
  · have C1 : Hid (∀ W, Below w.heap.size w W → Calls Try.prog 9 #[y.v, .slice a n c] W fun e w' => ∃ (a : Option Addr) (c : Nat), e = .returned (.tuple #[.slice a y.U.len c, .agg #[.int .i64 (crN y n mn md), .int .i64 (crD y n mn md)], .int .i64 0]) ∧ FrsA w' ⟨a, y.U.len, c⟩ (cbN y n mn md) (cbD y n mn md) ∧ Cls W w') := Lib.hid fun W hb => (C0.out W hb).mono fun e w' hh => hh.yes hce
    have C2 : Hid (∀ (W : World) (sa : Option Addr) (sc : Nat), FrsA W ⟨sa, y.U.len, sc⟩ (cbN y n mn md) (cbD y n mn md) → Calls Try.prog 32 #[.slice sa y.U.len sc, .func (.func 31) #[] #[]] W fun e w' => e = .returned (.bool (anyB (fun k => cbD y n mn md k != 1) y.U.len)) ∧ Cls W w') := Lib.hid fun W sa sc hf =>
      contains_lat sa y.U.len sc (cbN y n mn md) (cbD y n mn md) (fun k => cbD y n mn md k != 1) W hf fun V hV j hj => broken_calls _ _ V
    rw [hce]
    unfold Sy.v at *
    clear C0 hce
    generalize cbN y n mn md = fN at *
    generalize crN y n mn md = rN at *
    generalize anyB (fun k => cbD y n mn md k != 1) y.U.len = an at *
    generalize cbD y n mn md = fD at *
    generalize crD y n mn md = rD at *
    generalize y.U.a = ua at *
    generalize y.U.len = un at *
    generalize y.U.cap = uc at *
    generalize y.R.a = ra at *
    generalize y.R.len = rn at *
    generalize y.R.cap = rc at *
    generalize y.B.a = ba at *
    generalize y.B.len = bn at *
    generalize y.B.cap = bc at *
    have CB := Lib.hid (fun W => broken_calls rN rD W)
    by_cases h1 : rD = 1
    · have d1 : (rD != 1) = false := by simp [h1]
      rw [d1] at CB ⊢
      clear C2 h1
      go_enter Try.func12, Try.ntmps12
      go_wp2_with (first | (go_at_call 9; (with_reducible refine Calls.mono (C1.out _ ?_) ?_); (focus (repeat first | with_reducible exact Below.refl _ _ | with_reducible refine Below.setCell ?_ (by first | omega | (simp; done) | (simp; omega)) _ | with_reducible refine Below.alloc ?_ (by first | omega | (simp; done) | (simp; omega)) _ | with_reducible refine Below.drew ?_ | with_reducible refine Ext.on _ ?_ (by first | omega | (simp; done) | (simp; omega)))); rintro e _ ⟨sa, sc, rfl, hf, ⟨x, rfl⟩⟩; have xs := x.size; (try simp at xs); have HF := Lib.hid hf; clear hf) | (go_at_call 31; (with_reducible refine Calls.mono (CB.out _) ?_); rintro e _ ⟨rfl, ⟨x2, rfl⟩⟩; have x2s := x2.size; (try simp at x2s)))
      go_ret
      refine ⟨rfl, Cls.of ?_⟩
      repeat first | with_reducible exact Below.refl _ _ | with_reducible refine Below.setCell ?_ (by first | omega | (simp; done) | (simp; omega)) _ | with_reducible refine Below.alloc ?_ (by first | omega | (simp; done) | (simp; omega)) _ | with_reducible refine Below.drew ?_ | with_reducible refine Ext.on _ ?_ (by first | omega | (simp; done) | (simp; omega))
    · have d1 : (rD != 1) = true := by simpa using h1
      rw [d1] at CB ⊢
      clear h1
      go_enter Try.func12, Try.ntmps12
      go_wp2_with (first | (go_at_call 9; (with_reducible refine Calls.mono (C1.out _ ?_) ?_); (focus (repeat first | with_reducible exact Below.refl _ _ | with_reducible refine Below.setCell ?_ (by first | omega | (simp; done) | (simp; omega)) _ | with_reducible refine Below.alloc ?_ (by first | omega | (simp; done) | (simp; omega)) _ | with_reducible refine Below.drew ?_ | with_reducible refine Ext.on _ ?_ (by first | omega | (simp; done) | (simp; omega)))); rintro e _ ⟨sa, sc, rfl, hf, ⟨x, rfl⟩⟩; have xs := x.size; (try simp at xs); have HF := Lib.hid hf; clear hf) | (go_at_call 31; (with_reducible refine Calls.mono (CB.out _) ?_); rintro e _ ⟨rfl, ⟨x2, rfl⟩⟩; have x2s := x2.size; (try simp at x2s)) | (go_at_call 32; (with_reducible refine Calls.mono (C2.out _ sa sc (HF.out.later (by repeat first | with_reducible exact Below.refl _ _ | with_reducible refine Below.setCell ?_ (by first | omega | (simp; done) | (simp; omega)) _ | with_reducible refine Below.alloc ?_ (by first | omega | (simp; done) | (simp; omega)) _ | with_reducible refine Below.drew ?_ | with_reducible refine Ext.on _ ?_ (by first | omega | (simp; done) | (simp; omega))))) ?_); rintro e _ ⟨rfl, ⟨x3, rfl⟩⟩; have x3s := x3.size; (try simp at x3s)))
      go_ret
      refine ⟨rfl, Cls.of ?_⟩
      repeat first | with_reducible exact Below.refl _ _ | with_reducible refine Below.setCell ?_ (by first | omega | (simp; done) | (simp; omega)) _ | with_reducible refine Below.alloc ?_ (by first | omega | (simp; done) | (simp; omega)) _ | with_reducible refine Below.drew ?_ | with_reducible refine Ext.on _ ?_ (by first | omega | (simp; done) | (simp; omega))
  · have C1 : Hid (∀ W, Below w.heap.size w W → Calls Try.prog 9 #[y.v, .slice a n c] W fun e w' => e = .returned (.tuple #[.slice none 0 0, .agg #[.int .i64 0, .int .i64 0], .int .i64 (cmE y n mn md)]) ∧ Cls W w') := Lib.hid fun W hb => (C0.out W hb).mono fun e w' hh => hh.no hce
    have d0 : (cmE y n mn md == 0) = false := by simpa using hce
    rw [d0]
    unfold Sy.v at *
    clear C0 hce
    generalize cmE y n mn md = ce at *
    generalize y.U.a = ua at *
    generalize y.U.len = un at *
    generalize y.U.cap = uc at *
    generalize y.R.a = ra at *
    generalize y.R.len = rn at *
    generalize y.R.cap = rc at *
    generalize y.B.a = ba at *
    generalize y.B.len = bn at *
    generalize y.B.cap = bc at *
    go_enter Try.func12, Try.ntmps12
    go_wp2_with (go_at_call 9; (with_reducible refine Calls.mono (C1.out _ ?_) ?_); (focus (repeat first | with_reducible exact Below.refl _ _ | with_reducible refine Below.setCell ?_ (by first | omega | (simp; done) | (simp; omega)) _ | with_reducible refine Below.alloc ?_ (by first | omega | (simp; done) | (simp; omega)) _ | with_reducible refine Below.drew ?_ | with_reducible refine Ext.on _ ?_ (by first | omega | (simp; done) | (simp; omega)))); rintro e _ ⟨rfl, ⟨x, rfl⟩⟩; have xs := x.size; (try simp at xs))
    go_ret
    refine ⟨rfl, Cls.of ?_⟩
    repeat first | with_reducible exact Below.refl _ _ | with_reducible refine Below.setCell ?_ (by first | omega | (simp; done) | (simp; omega)) _ | with_reducible refine Below.alloc ?_ (by first | omega | (simp; done) | (simp; omega)) _ | with_reducible refine Below.drew ?_ | with_reducible refine Ext.on _ ?_ (by first | omega | (simp; done) | (simp; omega))
end Go.Proofs.Ytilhhbjdcdediaa
set_option linter.unusedVariables false
namespace Go.Proofs.Ytilhhbjdcdediaa
open Go Go.RowKit Go.Deep
/-- Whether a list can be the bounds of m variables on one side. -/
def okL (m n : Nat) (f : Nat → Int) : Bool := decide (n = m) && !anyB (fun i => outB (-1000000000) 1000000000 (f i)) n
theorem okL_yes {m n : Nat} {f : Nat → Int} (h : n = m ∧ anyB (fun i => outB (-1000000000) 1000000000 (f i)) n = false) : okL m n f = true := by unfold okL; rw [h.2, decide_eq_true h.1]; rfl
set_option maxHeartbeats 8000000 in
set_option maxRecDepth 20000 in
theorem lbounds_calls (y : Sy) (la : Option Addr) (ln lc : Nat) (fl : Nat → Int) (pa : Option Addr) (pn pc : Nat) (fp : Nat → Int) (w : World) (h : SysA w y) (hl : IntsA w ⟨la, ln, lc⟩ fl) (hp : IntsA w ⟨pa, pn, pc⟩ fp) :
    Calls Try.prog 33 #[y.v, .slice la ln lc, .slice pa pn pc] w fun e w' => e = .returned (.bool (okL y.U.len ln fl && okL y.U.len pn fp)) ∧ Cls w w' := by
  have C1 := Lib.hid (fun (W : World) (hb : Below w.heap.size w W) => within_calls la ln lc fl (-1000000000) 1000000000 W (hl.later hb))
  have C2 := Lib.hid (fun (W : World) (hb : Below w.heap.size w W) => within_calls pa pn pc fp (-1000000000) 1000000000 W (hp.later hb))
  have lm := hl.2.1
  have pm := hp.2.1
  have um := h.U.2.1
  have lq := hl.1
  have pq := hp.1
  have uq := h.U.1
  unfold maxLen at lm pm um
  simp only at lq pq
  unfold Sy.v
  clear h hl hp
  generalize y.U.a = ua at *
  generalize y.U.len = un at *
  generalize y.U.cap = uc at *
  generalize y.R.a = ra at *
  generalize y.R.len = rn at *
  generalize y.R.cap = rc at *
  generalize y.B.a = ba at *
  generalize y.B.len = bn at *
  generalize y.B.cap = bc at *
  go_enter Try.func33, Try.ntmps33
  go_wp2_with fail
  go_loopw [13] (fun i wr => ∃ k : Nat, k ≤ 2 ∧ i = .int .i64 k ∧ Hid ((1 ≤ k → okL un ln fl = true) ∧ (2 ≤ k → okL un pn fp = true)) ∧ Cls ((w.alloc (.cells #[.slice ua un uc, .slice ra rn rc, .slice ba bn bc] 30)).alloc (.cells #[.slice la ln lc, .slice pa pn pc] 24)) wr) (fun i _ => 2 - (intOf i).toNat)
  case atStart => exact ⟨0, by omega, rfl, Lib.hid ⟨fun h => by omega, fun h => by omega⟩, Cls.of (by repeat first | with_reducible exact Below.refl _ _ | with_reducible refine Below.setCell ?_ (by first | omega | (simp; done) | (simp; omega)) _ | with_reducible refine Below.alloc ?_ (by first | omega | (simp; done) | (simp; omega)) _ | with_reducible refine Below.drew ?_ | with_reducible refine Ext.on _ ?_ (by first | omega | (simp; done) | (simp; omega)))⟩
  case round =>
    obtain ⟨k, hk, rfl, HE, x, rfl⟩ := hrel
    have xs := x.size
    simp at xs
    obtain ⟨hx0, c0, c1, c2⟩ := three_s ((x.below.block w.heap.size (by simp; omega)).trans (heap_two0 w _ _)); obtain ⟨hx1, z0, z1⟩ := two_s ((x.below.block (w.heap.size + 1) (by simp)).trans (heap_two1 w _ _))
    match k, hk, HE with
    | 0, _, HE =>
      clear C2
      by_cases hn : ln = un
      · have d1 : (((ln : Nat) : Int) != ((un : Nat) : Int)) = false := by simp; omega
        cases han : anyB (fun i => outB (-1000000000) 1000000000 (fl i)) ln
        · rw [han] at C1
          have HN := Lib.hid (And.intro hn han)
          clear han hn
          go_wp2_with (go_at_call 65; (with_reducible refine Calls.mono (C1.out _ ?_) ?_); (focus (repeat first | with_reducible exact Below.refl _ _ | with_reducible refine Below.setCell ?_ (by first | omega | (simp; done) | (simp; omega)) _ | with_reducible refine Below.alloc ?_ (by first | omega | (simp; done) | (simp; omega)) _ | with_reducible refine Below.drew ?_ | with_reducible refine Ext.on _ ?_ (by first | omega | (simp; done) | (simp; omega)))); rintro e _ ⟨rfl, hcy⟩; obtain ⟨x2, rfl⟩ := Cls.step x hcy)
          go_roundw
          case rel => exact ⟨1, by omega, by go_num, Lib.hid (⟨fun _ => okL_yes HN.out, fun h => by omega⟩), x2, rfl⟩
          case measure => simp [intOf]
        · have HV : Hid (okL un ln fl = false) := Lib.hid (by unfold okL; rw [han]; simp)
          rw [han] at C1
          clear han hn
          go_wp2_with (go_at_call 65; (with_reducible refine Calls.mono (C1.out _ ?_) ?_); (focus (repeat first | with_reducible exact Below.refl _ _ | with_reducible refine Below.setCell ?_ (by first | omega | (simp; done) | (simp; omega)) _ | with_reducible refine Below.alloc ?_ (by first | omega | (simp; done) | (simp; omega)) _ | with_reducible refine Below.drew ?_ | with_reducible refine Ext.on _ ?_ (by first | omega | (simp; done) | (simp; omega)))); rintro e _ ⟨rfl, hcy⟩; obtain ⟨x2, rfl⟩ := Cls.step x hcy)
          go_ret
          refine ⟨ret_bool (by rw [HV.out]; simp), Cls.of ?_⟩
          repeat first | with_reducible exact Below.refl _ _ | with_reducible refine Below.setCell ?_ (by first | omega | (simp; done) | (simp; omega)) _ | with_reducible refine Below.alloc ?_ (by first | omega | (simp; done) | (simp; omega)) _ | with_reducible refine Below.drew ?_ | with_reducible refine Ext.on _ ?_ (by first | omega | (simp; done) | (simp; omega))
      · have d1 : (((ln : Nat) : Int) != ((un : Nat) : Int)) = true := by simp; omega
        have HV : Hid (okL un ln fl = false) := Lib.hid (by unfold okL; rw [decide_eq_false hn]; simp)
        clear hn
        go_wp2_with fail
        go_ret
        refine ⟨ret_bool (by rw [HV.out]; simp), Cls.of ?_⟩
        repeat first | with_reducible exact Below.refl _ _ | with_reducible refine Below.setCell ?_ (by first | omega | (simp; done) | (simp; omega)) _ | with_reducible refine Below.alloc ?_ (by first | omega | (simp; done) | (simp; omega)) _ | with_reducible refine Below.drew ?_ | with_reducible refine Ext.on _ ?_ (by first | omega | (simp; done) | (simp; omega))
    | 1, _, HE =>
      have H1 := Lib.hid (HE.out.1 (Nat.le_refl _))
      clear C1 HE
      by_cases hn : pn = un
      · have d1 : (((pn : Nat) : Int) != ((un : Nat) : Int)) = false := by simp; omega
        cases han : anyB (fun i => outB (-1000000000) 1000000000 (fp i)) pn
        · rw [han] at C2
          have HN := Lib.hid (And.intro hn han)
          clear han hn
          go_wp2_with (go_at_call 65; (with_reducible refine Calls.mono (C2.out _ ?_) ?_); (focus (repeat first | with_reducible exact Below.refl _ _ | with_reducible refine Below.setCell ?_ (by first | omega | (simp; done) | (simp; omega)) _ | with_reducible refine Below.alloc ?_ (by first | omega | (simp; done) | (simp; omega)) _ | with_reducible refine Below.drew ?_ | with_reducible refine Ext.on _ ?_ (by first | omega | (simp; done) | (simp; omega)))); rintro e _ ⟨rfl, hcy⟩; obtain ⟨x2, rfl⟩ := Cls.step x hcy)
          go_roundw
          case rel => exact ⟨2, by omega, by go_num, Lib.hid (⟨fun _ => H1.out, fun _ => okL_yes HN.out⟩), x2, rfl⟩
          case measure => simp [intOf]
        · have HV : Hid (okL un pn fp = false) := Lib.hid (by unfold okL; rw [han]; simp)
          rw [han] at C2
          clear han hn
          go_wp2_with (go_at_call 65; (with_reducible refine Calls.mono (C2.out _ ?_) ?_); (focus (repeat first | with_reducible exact Below.refl _ _ | with_reducible refine Below.setCell ?_ (by first | omega | (simp; done) | (simp; omega)) _ | with_reducible refine Below.alloc ?_ (by first | omega | (simp; done) | (simp; omega)) _ | with_reducible refine Below.drew ?_ | with_reducible refine Ext.on _ ?_ (by first | omega | (simp; done) | (simp; omega)))); rintro e _ ⟨rfl, hcy⟩; obtain ⟨x2, rfl⟩ := Cls.step x hcy)
          go_ret
          refine ⟨ret_bool (by rw [HV.out]; simp), Cls.of ?_⟩
          repeat first | with_reducible exact Below.refl _ _ | with_reducible refine Below.setCell ?_ (by first | omega | (simp; done) | (simp; omega)) _ | with_reducible refine Below.alloc ?_ (by first | omega | (simp; done) | (simp; omega)) _ | with_reducible refine Below.drew ?_ | with_reducible refine Ext.on _ ?_ (by first | omega | (simp; done) | (simp; omega))
      · have d1 : (((pn : Nat) : Int) != ((un : Nat) : Int)) = true := by simp; omega
        have HV : Hid (okL un pn fp = false) := Lib.hid (by unfold okL; rw [decide_eq_false hn]; simp)
        clear hn
        go_wp2_with fail
        go_ret
        refine ⟨ret_bool (by rw [HV.out]; simp), Cls.of ?_⟩
        repeat first | with_reducible exact Below.refl _ _ | with_reducible refine Below.setCell ?_ (by first | omega | (simp; done) | (simp; omega)) _ | with_reducible refine Below.alloc ?_ (by first | omega | (simp; done) | (simp; omega)) _ | with_reducible refine Below.drew ?_ | with_reducible refine Ext.on _ ?_ (by first | omega | (simp; done) | (simp; omega))
    | 2, _, HE =>
      have H1 := Lib.hid (HE.out.1 (by omega))
      have H2 := Lib.hid (HE.out.2 (by omega))
      clear C1 C2 HE
      go_wp2_with fail
      go_ret
      refine ⟨ret_bool (by rw [H1.out, H2.out]; rfl), Cls.of ?_⟩
      repeat first | with_reducible exact Below.refl _ _ | with_reducible refine Below.setCell ?_ (by first | omega | (simp; done) | (simp; omega)) _ | with_reducible refine Below.alloc ?_ (by first | omega | (simp; done) | (simp; omega)) _ | with_reducible refine Below.drew ?_ | with_reducible refine Ext.on _ ?_ (by first | omega | (simp; done) | (simp; omega))
set_option maxHeartbeats 8000000 in
set_option maxRecDepth 20000 in
theorem lcrossed_calls (la : Option Addr) (n lc : Nat) (fl : Nat → Int) (pa : Option Addr) (pc : Nat) (fp : Nat → Int) (w : World) (hl : IntsA w ⟨la, n, lc⟩ fl) (hp : IntsA w ⟨pa, n, pc⟩ fp) :
    Calls Try.prog 35 #[.slice la n lc, .slice pa n pc] w fun e w' => e = .returned (.bool (anyB (fun i => decide (fp i < fl i)) n)) ∧ Cls w w' := by
  obtain ⟨hle, hmax, hh⟩ := hl
  obtain ⟨hle', hmax', hh'⟩ := hp
  simp only at hle hmax hh hle' hmax' hh'
  unfold maxLen at hmax hmax'
  have H := Lib.hid hh
  have H' := Lib.hid hh'
  clear hh hh'
  obtain ⟨p, hp⟩ : ∃ p : Nat → Bool, (fun i => decide (fp i < fl i)) = p := ⟨_, rfl⟩
  have EX : Hid (∀ i, decide (fp i < fl i) = p i) := Lib.hid fun i => congrFun hp i
  rw [hp]
  clear hp
  go_enter Try.func35, Try.ntmps35
  go_wp2_with fail
  go_loopw [8] (fun i wr => ∃ j : Nat, j ≤ n ∧ i = .int .i64 j ∧ Hid (fstI p 0 n = fstI p j (n - j)) ∧ Cls w wr) (fun i _ => n - (intOf i).toNat)
  case atStart => exact ⟨0, Nat.zero_le _, rfl, Lib.hid rfl, Cls.of (Below.refl _ _)⟩
  case round =>
    obtain ⟨j, hj, rfl, HE, x, rfl⟩ := hrel
    have xs := x.size
    by_cases hltj : j < n
    · obtain ⟨b, off, ha, hb2, hc⟩ := H.out.resolve_left (by omega)
      obtain ⟨bb, offb, ha', hb2', hc'⟩ := H'.out.resolve_left (by omega)
      subst ha ha'
      have q0 := hc j hltj
      have q1 := hc' j hltj
      have hbx : b < x.val.heap.size := by omega
      have hbx' : bb < x.val.heap.size := by omega
      have hS : Hid (n - j = (n - (j + 1)) + 1) := Lib.hid (by omega)
      have EXj := EX.out j
      clear hc hc' H H'
      generalize fl j = u at *
      generalize fp j = v at *
      cases hbb : p j
      · rw [hbb] at EXj
        have HN : Hid (fstI p 0 n = fstI p (j + 1) (n - (j + 1))) := Lib.hid (by rw [HE.out, hS.out, fstI_go hbb])
        clear hbb HE hS
        go_wp2_with fail
        refine wp_region_on (by kernel_rfl) (by kernel_rfl) ?_
        repeat (go_big_quiet_step (fail))
        refine wpQuiet_nil ?_
        rintro _ ⟨z, rfl⟩
        go_wp2_with fail
        go_roundw
        case rel => exact ⟨j + 1, by omega, by go_num, HN, z, rfl⟩
        case measure => simp [intOf]; omega
      · rw [hbb] at EXj
        have HV : Hid (anyB p n = true) := Lib.hid (anyB_iff.2 ⟨j, hltj, hbb⟩)
        clear hbb HE hS
        go_wp2_with fail
        refine wp_region_on (by kernel_rfl) (by kernel_rfl) ?_
        repeat (go_big_quiet_step (fail))
        refine wpQuiet_nil ?_
        rintro _ ⟨z, rfl⟩
        go_wp2_with fail
        go_ret
        exact ⟨ret_bool HV.out.symm, z, rfl⟩
    · have HV : Hid (anyB p n = false) := Lib.hid (by unfold anyB; rw [HE.out, show n - j = 0 by omega]; rfl)
      go_wp2_with fail
      go_ret
      exact ⟨ret_bool HV.out.symm, x, rfl⟩
end Go.Proofs.Ytilhhbjdcdediaa
