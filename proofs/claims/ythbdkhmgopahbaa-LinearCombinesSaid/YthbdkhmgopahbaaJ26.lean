/-
  The program's bounds and crossed. The program's extreme: the sum of a combination's coefficients times a bound each.
-/
import Derived.Test.YthbdkhmgopahbaaJ20
import Derived.Test.YthbdkhmgopahbaaJ19
import Derived.Test.YthbdkhmgopahbaaJ15
import Derived.Test.YthbdkhmgopahbaaJ12
set_option linter.unusedVariables false
namespace Go.Proofs.Ythbdkhmgopahbaa
open Go Go.RowKit Go.Deep
/-- Whether a list can be the bounds of m variables on one side. -/
def okL (m n : Nat) (f : Nat → Int) : Bool := decide (n = m) && !anyB (fun i => outB (-1000000000) 1000000000 (f i)) n
theorem okL_yes {m n : Nat} {f : Nat → Int} (h : n = m ∧ anyB (fun i => outB (-1000000000) 1000000000 (f i)) n = false) : okL m n f = true := by unfold okL; rw [h.2, decide_eq_true h.1]; rfl
set_option maxHeartbeats 8000000 in
set_option maxRecDepth 20000 in
theorem lbounds_calls (y : Sy) (la : Option Addr) (ln lc : Nat) (fl : Nat → Int) (pa : Option Addr) (pn pc : Nat) (fp : Nat → Int) (w : World) (h : SysA w y) (hl : IntsA w ⟨la, ln, lc⟩ fl) (hp : IntsA w ⟨pa, pn, pc⟩ fp) :
    Calls Try.prog 33 #[y.v, .slice la ln lc, .slice pa pn pc] w fun e w' => e = .returned (.bool (okL y.U.len ln fl && okL y.U.len pn fp)) ∧ Cls w w' := by
  have C1 := Lib.hid (fun (W : World) (hb : Below w.heap.size w W) => within_calls la ln lc fl (-1000000000) 1000000000 W (hl.later hb))
  have C2 := Lib.hid (fun (W : World) (hb : Below w.heap.size w W) => within_calls pa pn pc fp (-1000000000) 1000000000 W (hp.later hb))
  have lm := hl.2.1
  have pm := hp.2.1
  have um := h.U.2.1
  have lq := hl.1
  have pq := hp.1
  have uq := h.U.1
  unfold maxLen at lm pm um
  simp only at lq pq
  unfold Sy.v
  clear h hl hp
  generalize y.U.a = ua at *
  generalize y.U.len = un at *
  generalize y.U.cap = uc at *
  generalize y.R.a = ra at *
  generalize y.R.len = rn at *
  generalize y.R.cap = rc at *
  generalize y.B.a = ba at *
  generalize y.B.len = bn at *
  generalize y.B.cap = bc at *
  go_enter Try.func33, Try.ntmps33
  go_wp2_with fail
  go_loopw [13] (fun i wr => ∃ k : Nat, k ≤ 2 ∧ i = .int .i64 k ∧ Hid ((1 ≤ k → okL un ln fl = true) ∧ (2 ≤ k → okL un pn fp = true)) ∧ Cls ((w.alloc (.cells #[.slice ua un uc, .slice ra rn rc, .slice ba bn bc] 30)).alloc (.cells #[.slice la ln lc, .slice pa pn pc] 24)) wr) (fun i _ => 2 - (intOf i).toNat)
  case atStart => exact ⟨0, by omega, rfl, Lib.hid ⟨fun h => by omega, fun h => by omega⟩, Cls.of (by repeat first | with_reducible exact Below.refl _ _ | with_reducible refine Below.setCell ?_ (by first | omega | (simp; done) | (simp; omega)) _ | with_reducible refine Below.alloc ?_ (by first | omega | (simp; done) | (simp; omega)) _ | with_reducible refine Below.drew ?_ | with_reducible refine Ext.on _ ?_ (by first | omega | (simp; done) | (simp; omega)))⟩
  case round =>
    obtain ⟨k, hk, rfl, HE, x, rfl⟩ := hrel
    have xs := x.size
    simp at xs
    obtain ⟨hx0, c0, c1, c2⟩ := three_s ((x.below.block w.heap.size (by simp; omega)).trans (heap_two0 w _ _)); obtain ⟨hx1, z0, z1⟩ := two_s ((x.below.block (w.heap.size + 1) (by simp)).trans (heap_two1 w _ _))
    match k, hk, HE with
    | 0, _, HE =>
      clear C2
      by_cases hn : ln = un
      · have d1 : (((ln : Nat) : Int) != ((un : Nat) : Int)) = false := by simp; omega
        cases han : anyB (fun i => outB (-1000000000) 1000000000 (fl i)) ln
        · rw [han] at C1
          have HN := Lib.hid (And.intro hn han)
          clear han hn
          go_wp2_with (go_at_call 65; (with_reducible refine Calls.mono (C1.out _ ?_) ?_); (focus (repeat first | with_reducible exact Below.refl _ _ | with_reducible refine Below.setCell ?_ (by first | omega | (simp; done) | (simp; omega)) _ | with_reducible refine Below.alloc ?_ (by first | omega | (simp; done) | (simp; omega)) _ | with_reducible refine Below.drew ?_ | with_reducible refine Ext.on _ ?_ (by first | omega | (simp; done) | (simp; omega)))); rintro e _ ⟨rfl, hcy⟩; obtain ⟨x2, rfl⟩ := Cls.step x hcy)
          go_roundw
          case rel => exact ⟨1, by omega, by go_num, Lib.hid (⟨fun _ => okL_yes HN.out, fun h => by omega⟩), x2, rfl⟩
          case measure => simp [intOf]
        · have HV : Hid (okL un ln fl = false) := Lib.hid (by unfold okL; rw [han]; simp)
          rw [han] at C1
          clear han hn
          go_wp2_with (go_at_call 65; (with_reducible refine Calls.mono (C1.out _ ?_) ?_); (focus (repeat first | with_reducible exact Below.refl _ _ | with_reducible refine Below.setCell ?_ (by first | omega | (simp; done) | (simp; omega)) _ | with_reducible refine Below.alloc ?_ (by first | omega | (simp; done) | (simp; omega)) _ | with_reducible refine Below.drew ?_ | with_reducible refine Ext.on _ ?_ (by first | omega | (simp; done) | (simp; omega)))); rintro e _ ⟨rfl, hcy⟩; obtain ⟨x2, rfl⟩ := Cls.step x hcy)
          go_ret
          refine ⟨ret_bool (by rw [HV.out]; simp), Cls.of ?_⟩
          repeat first | with_reducible exact Below.refl _ _ | with_reducible refine Below.setCell ?_ (by first | omega | (simp; done) | (simp; omega)) _ | with_reducible refine Below.alloc ?_ (by first | omega | (simp; done) | (simp; omega)) _ | with_reducible refine Below.drew ?_ | with_reducible refine Ext.on _ ?_ (by first | omega | (simp; done) | (simp; omega))
      · have d1 : (((ln : Nat) : Int) != ((un : Nat) : Int)) = true := by simp; omega
        have HV : Hid (okL un ln fl = false) := Lib.hid (by unfold okL; rw [decide_eq_false hn]; simp)
        clear hn
        go_wp2_with fail
        go_ret
        refine ⟨ret_bool (by rw [HV.out]; simp), Cls.of ?_⟩
        repeat first | with_reducible exact Below.refl _ _ | with_reducible refine Below.setCell ?_ (by first | omega | (simp; done) | (simp; omega)) _ | with_reducible refine Below.alloc ?_ (by first | omega | (simp; done) | (simp; omega)) _ | with_reducible refine Below.drew ?_ | with_reducible refine Ext.on _ ?_ (by first | omega | (simp; done) | (simp; omega))
    | 1, _, HE =>
      have H1 := Lib.hid (HE.out.1 (Nat.le_refl _))
      clear C1 HE
      by_cases hn : pn = un
      · have d1 : (((pn : Nat) : Int) != ((un : Nat) : Int)) = false := by simp; omega
        cases han : anyB (fun i => outB (-1000000000) 1000000000 (fp i)) pn
        · rw [han] at C2
          have HN := Lib.hid (And.intro hn han)
          clear han hn
          go_wp2_with (go_at_call 65; (with_reducible refine Calls.mono (C2.out _ ?_) ?_); (focus (repeat first | with_reducible exact Below.refl _ _ | with_reducible refine Below.setCell ?_ (by first | omega | (simp; done) | (simp; omega)) _ | with_reducible refine Below.alloc ?_ (by first | omega | (simp; done) | (simp; omega)) _ | with_reducible refine Below.drew ?_ | with_reducible refine Ext.on _ ?_ (by first | omega | (simp; done) | (simp; omega)))); rintro e _ ⟨rfl, hcy⟩; obtain ⟨x2, rfl⟩ := Cls.step x hcy)
          go_roundw
          case rel => exact ⟨2, by omega, by go_num, Lib.hid (⟨fun _ => H1.out, fun _ => okL_yes HN.out⟩), x2, rfl⟩
          case measure => simp [intOf]
        · have HV : Hid (okL un pn fp = false) := Lib.hid (by unfold okL; rw [han]; simp)
          rw [han] at C2
          clear han hn
          go_wp2_with (go_at_call 65; (with_reducible refine Calls.mono (C2.out _ ?_) ?_); (focus (repeat first | with_reducible exact Below.refl _ _ | with_reducible refine Below.setCell ?_ (by first | omega | (simp; done) | (simp; omega)) _ | with_reducible refine Below.alloc ?_ (by first | omega | (simp; done) | (simp; omega)) _ | with_reducible refine Below.drew ?_ | with_reducible refine Ext.on _ ?_ (by first | omega | (simp; done) | (simp; omega)))); rintro e _ ⟨rfl, hcy⟩; obtain ⟨x2, rfl⟩ := Cls.step x hcy)
          go_ret
          refine ⟨ret_bool (by rw [HV.out]; simp), Cls.of ?_⟩
          repeat first | with_reducible exact Below.refl _ _ | with_reducible refine Below.setCell ?_ (by first | omega | (simp; done) | (simp; omega)) _ | with_reducible refine Below.alloc ?_ (by first | omega | (simp; done) | (simp; omega)) _ | with_reducible refine Below.drew ?_ | with_reducible refine Ext.on _ ?_ (by first | omega | (simp; done) | (simp; omega))
      · have d1 : (((pn : Nat) : Int) != ((un : Nat) : Int)) = true := by simp; omega
        have HV : Hid (okL un pn fp = false) := Lib.hid (by unfold okL; rw [decide_eq_false hn]; simp)
        clear hn
        go_wp2_with fail
        go_ret
        refine ⟨ret_bool (by rw [HV.out]; simp), Cls.of ?_⟩
        repeat first | with_reducible exact Below.refl _ _ | with_reducible refine Below.setCell ?_ (by first | omega | (simp; done) | (simp; omega)) _ | with_reducible refine Below.alloc ?_ (by first | omega | (simp; done) | (simp; omega)) _ | with_reducible refine Below.drew ?_ | with_reducible refine Ext.on _ ?_ (by first | omega | (simp; done) | (simp; omega))
    | 2, _, HE =>
      have H1 := Lib.hid (HE.out.1 (by omega))
      have H2 := Lib.hid (HE.out.2 (by omega))
      clear C1 C2 HE
      go_wp2_with fail
      go_ret
      refine ⟨ret_bool (by rw [H1.out, H2.out]; rfl), Cls.of ?_⟩
      repeat first | with_reducible exact Below.refl _ _ | with_reducible refine Below.setCell ?_ (by first | omega | (simp; done) | (simp; omega)) _ | with_reducible refine Below.alloc ?_ (by first | omega | (simp; done) | (simp; omega)) _ | with_reducible refine Below.drew ?_ | with_reducible refine Ext.on _ ?_ (by first | omega | (simp; done) | (simp; omega))
set_option maxHeartbeats 8000000 in
set_option maxRecDepth 20000 in
theorem lcrossed_calls (la : Option Addr) (n lc : Nat) (fl : Nat → Int) (pa : Option Addr) (pc : Nat) (fp : Nat → Int) (w : World) (hl : IntsA w ⟨la, n, lc⟩ fl) (hp : IntsA w ⟨pa, n, pc⟩ fp) :
    Calls Try.prog 35 #[.slice la n lc, .slice pa n pc] w fun e w' => e = .returned (.bool (anyB (fun i => decide (fp i < fl i)) n)) ∧ Cls w w' := by
  obtain ⟨hle, hmax, hh⟩ := hl
  obtain ⟨hle', hmax', hh'⟩ := hp
  simp only at hle hmax hh hle' hmax' hh'
  unfold maxLen at hmax hmax'
  have H := Lib.hid hh
  have H' := Lib.hid hh'
  clear hh hh'
  obtain ⟨p, hp⟩ : ∃ p : Nat → Bool, (fun i => decide (fp i < fl i)) = p := ⟨_, rfl⟩
  have EX : Hid (∀ i, decide (fp i < fl i) = p i) := Lib.hid fun i => congrFun hp i
  rw [hp]
  clear hp
  go_enter Try.func35, Try.ntmps35
  go_wp2_with fail
  go_loopw [8] (fun i wr => ∃ j : Nat, j ≤ n ∧ i = .int .i64 j ∧ Hid (fstI p 0 n = fstI p j (n - j)) ∧ Cls w wr) (fun i _ => n - (intOf i).toNat)
  case atStart => exact ⟨0, Nat.zero_le _, rfl, Lib.hid rfl, Cls.of (Below.refl _ _)⟩
  case round =>
    obtain ⟨j, hj, rfl, HE, x, rfl⟩ := hrel
    have xs := x.size
    by_cases hltj : j < n
    · obtain ⟨b, off, ha, hb2, hc⟩ := H.out.resolve_left (by omega)
      obtain ⟨bb, offb, ha', hb2', hc'⟩ := H'.out.resolve_left (by omega)
      subst ha ha'
      have q0 := hc j hltj
      have q1 := hc' j hltj
      have hbx : b < x.val.heap.size := by omega
      have hbx' : bb < x.val.heap.size := by omega
      have hS : Hid (n - j = (n - (j + 1)) + 1) := Lib.hid (by omega)
      have EXj := EX.out j
      clear hc hc' H H'
      generalize fl j = u at *
      generalize fp j = v at *
      cases hbb : p j
      · rw [hbb] at EXj
        have HN : Hid (fstI p 0 n = fstI p (j + 1) (n - (j + 1))) := Lib.hid (by rw [HE.out, hS.out, fstI_go hbb])
        clear hbb HE hS
        go_wp2_with fail
        refine wp_region_on (by kernel_rfl) (by kernel_rfl) ?_
        repeat (go_big_quiet_step (fail))
        refine wpQuiet_nil ?_
        rintro _ ⟨z, rfl⟩
        go_wp2_with fail
        go_roundw
        case rel => exact ⟨j + 1, by omega, by go_num, HN, z, rfl⟩
        case measure => simp [intOf]; omega
      · rw [hbb] at EXj
        have HV : Hid (anyB p n = true) := Lib.hid (anyB_iff.2 ⟨j, hltj, hbb⟩)
        clear hbb HE hS
        go_wp2_with fail
        refine wp_region_on (by kernel_rfl) (by kernel_rfl) ?_
        repeat (go_big_quiet_step (fail))
        refine wpQuiet_nil ?_
        rintro _ ⟨z, rfl⟩
        go_wp2_with fail
        go_ret
        exact ⟨ret_bool HV.out.symm, z, rfl⟩
    · have HV : Hid (anyB p n = false) := Lib.hid (by unfold anyB; rw [HE.out, show n - j = 0 by omega]; rfl)
      go_wp2_with fail
      go_ret
      exact ⟨ret_bool HV.out.symm, x, rfl⟩
end Go.Proofs.Ythbdkhmgopahbaa
set_option linter.unusedVariables false
namespace Go.Proofs.Ythbdkhmgopahbaa
open Go Go.RowKit Go.Deep
theorem rowI_congr {f g : Nat → Int} {n : Nat} (h : ∀ i, i < n → f i = g i) : rowI f n = rowI g n := by
  unfold rowI
  refine List.map_congr_left fun i hi => ?_
  rw [h i (List.mem_range.1 hi)]
theorem rowI_length (f : Nat → Int) (n : Nat) : (rowI f n).length = n := by simp [rowI]
theorem rowI_at (f : Nat → Int) {n i : Nat} (h : i < n) : (rowI f n)[i]? = some (.int .i64 (f i)) := by simp [rowI, h]
theorem rowI_set (f : Nat → Int) (n k : Nat) (v : Int) : (rowI f n).set k (.int .i64 v) = rowI (fun i => if i = k then v else f i) n := by
  refine List.ext_getElem? fun i => ?_
  by_cases hi : i < n
  · rw [rowI_at _ hi]
    by_cases hik : i = k
    · subst hik
      rw [List.getElem?_set_self (by rw [rowI_length]; exact hi)]
      simp
    · rw [List.getElem?_set_ne (fun e => hik e.symm), rowI_at _ hi]
      simp [hik]
  · rw [List.getElem?_eq_none (by simp [rowI_length]; omega), List.getElem?_eq_none (by simp [rowI_length]; omega)]
theorem rowI_one (f : Nat → Int) (n : Nat) : ∀ u ∈ rowI f n, u.oneCell' = true := by
  intro u hu
  simp [rowI] at hu
  obtain ⟨i, _, rfl⟩ := hu
  rfl
theorem IntsA.congr {w : World} {s : Sl} {f g : Nat → Int} (h : IntsA w s f) (e : ∀ i, i < s.len → f i = g i) : IntsA w s g := by
  obtain ⟨h1, h2, h3⟩ := h
  refine ⟨h1, h2, h3.imp id ?_⟩
  rintro ⟨b, off, ha, hb, hc⟩
  exact ⟨b, off, ha, hb, fun i hi => by rw [← e i hi]; exact hc i hi⟩
set_option maxHeartbeats 4000000 in
set_option maxRecDepth 100000 in
theorem lcloneI_calls (f : Nat → Int) (a : Option Addr) (n c : Nat) (w : World) (hs : IntsA w ⟨a, n, c⟩ f) (h2 : n ≤ 1000) :
    Calls Try.prog 66 #[.slice a n c] w fun e w' => ∃ s : Sl, e = .returned (.slice s.a s.len s.cap) ∧ s.len = n ∧ w'.ownsRow w.heap.size 2 1 (.slice s.a s.len s.cap) n (rowI f n) ∧ Cls w w' := by
  obtain ⟨hle, hmax, hh⟩ := hs
  simp only at hle hmax hh
  unfold maxLen at hmax
  have q : ∀ (w : World) (a : Option Addr) (n c n' c' : Nat), (binOp .eql 24 (.slice a n c) (.slice none n' c')).run Try.prog w = .ok (.bool a.isNone) w := fun w a n c n' c' => Lib.run_eql_slice_nil w _ _ a n c n' c' Try.underlying24
  cases a with
  | none =>
    have h0 : n = 0 := by
      rcases hh with h | ⟨b, off, ha, _⟩
      · exact h
      · cases ha
    subst h0
    clear hh
    go_enter Try.func66, Try.ntmps66
    go_wp2_with fail
    go_ret
    exact ⟨⟨none, 0, 0⟩, rfl, rfl, World.ownsRow_nil _ _ _ 1, Cls.of (by repeat first | with_reducible exact Below.refl _ _ | with_reducible refine Below.setCell ?_ (by first | omega | (simp; done) | (simp; omega)) _ | with_reducible refine Below.alloc ?_ (by first | omega | (simp; done) | (simp; omega)) _ | with_reducible refine Below.drew ?_ | with_reducible refine Ext.on _ ?_ (by first | omega | (simp; done) | (simp; omega)))⟩
  | some x =>
    obtain ⟨i0, hi, hz0, hz1, hz2⟩ := info_parts infoI
    have LN : Hid ((rowI f n).length = n * 1) := Lib.hid (by simp [rowI])
    have HC : Hid (∀ W, Below w.heap.size w W → ∀ j u, (rowI f n)[j]? = some u → W.cell? (x.add j) = some u) := Lib.hid fun W hW j u hj => by
      have hjn : j < n := by have h := (List.getElem?_eq_some_iff.1 hj).1; rwa [rowI_length] at h
      obtain ⟨b, off, ha, hb, hc⟩ := hh.resolve_left (by omega)
      cases ha
      rw [rowI_at _ hjn] at hj
      rw [add_none, hW.cell (p := ⟨b, off + j, none⟩) hb, hc j hjn, hj]
    clear hh
    go_enter Try.func66, Try.ntmps66
    go_wp2_with (at_builtin; refine wpList_append_own _ rfl _ _ 24 rfl w.heap.size 2 i0 (.int .i64 0) 1 8 Try.underlying24 hi hz0 hz1 hz2 rfl (by decide) _ _ _ rfl (World.ownsRow_made w #[] 0 (Nat.le_refl _) (Nat.zero_le _) (by simp)) x n c (rowI f n) rfl LN.out (HC.out _ ((Below.refl _ _).alloc (Nat.le_refl _) _)) (rowI_one f n) (by unfold maxLen; omega) (by omega) (by simp) ?_; intro v2 w2 hown2 hgrow2 _; rw [Nat.zero_add, List.nil_append] at hown2; have bel2 := (((Below.refl w.heap.size w).alloc (Nat.le_refl _) _).grown hgrow2 (by simp) (by intro k hk; exact Nat.le_of_eq (Option.some.inj hk))); clear hgrow2)
    go_ret
    obtain ⟨s, hv, hs1, _⟩ := IntsA.of_own hown2
    subst hv
    exact ⟨s, rfl, hs1, hown2, Cls.of bel2⟩
/-- What extreme multiplies with. -/
def exU (cN ng ps : Nat → Int) (k i : Nat) : Int := if i < k ∧ cN i < 0 then ng i else ps i
set_option maxHeartbeats 16000000 in
set_option maxRecDepth 20000 in
theorem lextreme_calls (ca : Option Addr) (n cc : Nat) (cN cD : Nat → Int) (na : Option Addr) (nc : Nat) (ng : Nat → Int) (pa : Option Addr) (pc : Nat) (ps : Nat → Int) (w : World) (hx : FrsA w ⟨ca, n, cc⟩ cN cD) (h1 : IntsA w ⟨na, n, nc⟩ ng) (h2 : IntsA w ⟨pa, n, pc⟩ ps) (hn : n ≤ 90)
    (k1 : ∀ i, i < n → (ng i).natAbs < 9223372036854775808) (k2 : ∀ i, i < n → (ps i).natAbs < 9223372036854775808) (hv : ∀ i, i < n → vaB (cN i) (cD i) = true) :
    Calls Try.prog 34 #[.slice ca n cc, .slice na n nc, .slice pa n pc] w (SumR w (totN (exU cN ng ps n) cN (fun i => (cD i).natAbs) n) (totD (fun i => (cD i).natAbs) n)) := by
  have C1 := Lib.hid (fun (W : World) (hb : Below w.heap.size w W) => lcloneI_calls ps pa n pc W (h2.later hb) (by omega))
  have C2 : Hid (∀ (W : World) (s : Sl), Below w.heap.size w W → s.len = n → IntsA W s (exU cN ng ps n) → Calls Try.prog 26 #[.slice s.a s.len s.cap, .slice ca n cc] W (SumR W (totN (exU cN ng ps n) cN (fun i => (cD i).natAbs) n) (totD (fun i => (cD i).natAbs) n))) := Lib.hid fun W s hb hl hs => by
    have t := total_calls s.a s.len s.cap (exU cN ng ps n) ca n cc cN cD W hs (hx.later hb) (by omega) (by omega) (fun i hi => by
      unfold exU
      split
      · exact k1 i (by omega)
      · exact k2 i (by omega)) (fun i hi => hv i (by omega))
    rw [show totN (exU cN ng ps n) cN (fun i => (cD i).natAbs) s.len = totN (exU cN ng ps n) cN (fun i => (cD i).natAbs) n by rw [hl], show totD (fun i => (cD i).natAbs) s.len = totD (fun i => (cD i).natAbs) n by rw [hl]] at t
    exact t
  obtain ⟨hle, hmax, hh⟩ := hx
  obtain ⟨hle1, hmax1, hh1⟩ := h1
  have hle2 := h2.1
  have hmax2 := h2.2.1
  simp only at hle hmax hh hle1 hmax1 hh1 hle2 hmax2
  unfold maxLen at hmax hmax1 hmax2
  have H := Lib.hid hh
  have H1 := Lib.hid hh1
  have E0 : Hid (rowI ps n = rowI (exU cN ng ps 0) n) := Lib.hid (rowI_congr fun i hi => by simp [exU])
  have ES : Hid (∀ k, cN k < 0 → (rowI (exU cN ng ps k) n).set k (.int .i64 (ng k)) = rowI (exU cN ng ps (k + 1)) n) := Lib.hid fun k hk => by
    rw [rowI_set]
    refine rowI_congr fun i hi => ?_
    by_cases hik : i = k
    · subst hik; simp [exU, hk]
    · have e : (i < k + 1) = (i < k) := by rw [eq_iff_iff]; omega
      simp [exU, hik, e]
  have EN : Hid (∀ k, ¬ cN k < 0 → rowI (exU cN ng ps k) n = rowI (exU cN ng ps (k + 1)) n) := Lib.hid fun k hk => rowI_congr fun i hi => by
    by_cases hik : i = k
    · subst hik; simp [exU, hk]
    · have e : (i < k + 1) = (i < k) := by rw [eq_iff_iff]; omega
      simp [exU, e]
  clear hh hh1 h2 k1 k2 hv
  generalize totN (exU cN ng ps n) cN (fun i => (cD i).natAbs) n = NN at *
  generalize totD (fun i => (cD i).natAbs) n = DD at *
  obtain ⟨RX, hRX⟩ : ∃ R : Nat → List Value, (fun k => rowI (exU cN ng ps k) n) = R := ⟨_, rfl⟩
  have eRX : ∀ k, rowI (exU cN ng ps k) n = RX k := fun k => congrFun hRX k
  have ROf : Hid (∀ k, rowI (exU cN ng ps k) n = RX k) := Lib.hid eRX
  simp only [eRX] at E0 ES EN
  clear hRX eRX
  go_enter Try.func34, Try.ntmps34
  go_wp2_with (go_at_call 66; (with_reducible refine Calls.mono (C1.out _ ?_) ?_); (focus (repeat first | with_reducible exact Below.refl _ _ | with_reducible refine Below.setCell ?_ (by first | omega | (simp; done) | (simp; omega)) _ | with_reducible refine Below.alloc ?_ (by first | omega | (simp; done) | (simp; omega)) _ | with_reducible refine Below.drew ?_ | with_reducible refine Ext.on _ ?_ (by first | omega | (simp; done) | (simp; omega)))); rintro e _ ⟨⟨sa, sl, sc⟩, rfl, hl, hown, ⟨y, rfl⟩⟩; have ys := y.size; (try simp at ys); have hl2 : n = sl := hl.symm; subst hl2; have HO := Lib.hid hown; clear hown)
  have HO2 : Hid (y.val.ownsRow (w.heap.size + 1) 2 1 (.slice sa n sc) n (RX 0)) := Lib.hid (by rw [← E0.out]; simpa using HO.out)
  clear HO E0
  go_loopw [14] (fun i wr => ∃ k : Nat, k ≤ n ∧ i = .int .i64 k ∧ Hid (wr.ownsRow (w.heap.size + 1) 2 1 (.slice sa n sc) n (RX k)) ∧ Hid (Below (w.heap.size + 1) (w.alloc (.cells #[.bool false, .slice none 0 0, .slice none 0 0] 60)) wr)) (fun i _ => n - (intOf i).toNat)
  case atStart => exact ⟨0, Nat.zero_le _, rfl, HO2, Lib.hid (by repeat first | with_reducible exact Below.refl _ _ | with_reducible refine Below.setCell ?_ (by first | omega | (simp; done) | (simp; omega)) _ | with_reducible refine Below.alloc ?_ (by first | omega | (simp; done) | (simp; omega)) _ | with_reducible refine Below.drew ?_ | with_reducible refine Ext.on _ ?_ (by first | omega | (simp; done) | (simp; omega)))⟩
  case round =>
    obtain ⟨k, hk, rfl, hown, HB⟩ := hrel
    have hbs := HB.out.size
    simp at hbs
    by_cases hlt : k < n
    · obtain ⟨b, off, ha, hb, hc⟩ := H.out.resolve_left (by omega)
      obtain ⟨b', off', ha', hb', hc'⟩ := H1.out.resolve_left (by omega)
      subst ha ha'
      obtain ⟨g, hsa⟩ : ∃ g, sa = some ⟨g, 0, none⟩ := by
        rcases hown.out.2 with ⟨h0, h1⟩ | ⟨g, cap, cur, h0, _⟩
        · omega
        · exact ⟨g, (Value.slice.inj h0).1⟩
      subst hsa
      have hg2 := hown.out.lt g rfl
      obtain ⟨r0, r1⟩ := hc k hlt
      have r2 := hc' k hlt
      have q0 := (HB.out.cell (p := ⟨b, off + k * 2, none⟩) (by simp; omega)).trans (((Below.refl w.heap.size w).alloc (Nat.le_refl _) _).cell (p := ⟨b, off + k * 2, none⟩) hb |>.trans r0)
      have q1 := (HB.out.cell (p := ⟨b, off + k * 2 + 1, none⟩) (by simp; omega)).trans (((Below.refl w.heap.size w).alloc (Nat.le_refl _) _).cell (p := ⟨b, off + k * 2 + 1, none⟩) hb |>.trans r1)
      have q2 := (HB.out.cell (p := ⟨b', off' + k, none⟩) (by simp; omega)).trans (((Below.refl w.heap.size w).alloc (Nat.le_refl _) _).cell (p := ⟨b', off' + k, none⟩) hb' |>.trans r2)
      have z0 := hown.out.cellAt k (by omega)
      rw [← ROf.out, rowI_at _ hlt] at z0
      have z1 := hown.out.frozenAt k
      have hbx : b < wr.heap.size := by omega
      have hbx' : b' < wr.heap.size := by omega
      have hkk : (k : Int) < (n : Int) := by omega
      generalize exU cN ng ps k k = old at *
      clear hc hc' r0 r1 r2
      by_cases hz : cN k < 0
      · have d1 : decide (cN k < 0) = true := decide_eq_true hz
        have ESk := Lib.hid (ES.out k hz)
        have HS : Hid (∀ W, Below wr.heap.size wr W → (W.setCell ⟨g, k, none⟩ (.int .i64 (ng k))).ownsRow (w.heap.size + 1) 2 1 (.slice (some ⟨g, 0, none⟩) n sc) n (RX (k + 1))) := Lib.hid (fun W hW => by
          have := ((own_later' hown.out hW).stored k (.int .i64 (ng k))).1
          rwa [ESk.out] at this)
        clear ES EN C1 C2 H H1 hz hown ESk
        generalize cN k = u at *
        generalize cD k = v at *
        generalize ng k = x at *
        go_wp2_with fail
        go_roundw
        case rel => exact ⟨k + 1, by omega, by go_num, Lib.hid (own_later' (HS.out wr (Below.refl _ _)) ((Below.refl _ _).alloc (Nat.le_refl _) _)), Lib.hid ((HB.out.setCell hg2.1 _).alloc (by simp; omega) _)⟩
        case measure => simp [intOf]; omega
      · have d1 : decide (cN k < 0) = false := decide_eq_false hz
        have ENk := Lib.hid (EN.out k (by omega))
        clear ES EN C1 C2 H H1 hz
        generalize cN k = u at *
        generalize cD k = v at *
        go_wp2_with fail
        go_roundw
        case rel => exact ⟨k + 1, by omega, by go_num, Lib.hid (by rw [← ENk.out]; exact own_later' hown.out ((Below.refl _ _).alloc (Nat.le_refl _) _)), Lib.hid (HB.out.alloc (by omega) _)⟩
        case measure => simp [intOf]; omega
    · obtain rfl : k = n := by omega
      obtain ⟨⟨a1, n1, c1⟩, hv1, hs1, hs2⟩ := IntsA.of_own (f := exU cN ng ps k) (by rw [ROf.out]; exact hown.out)
      simp only [Value.slice.injEq] at hv1
      obtain ⟨rfl, rfl, rfl⟩ := hv1
      have HS2 := Lib.hid hs2
      have HT := Lib.hid ((HB.out.block w.heap.size (by omega)).trans (heap_alloc_new w _))
      have HW : Hid (Below w.heap.size w wr) := Lib.hid (((Below.refl _ _).alloc (Nat.le_refl _) _).trans (HB.out.mono (by omega)))
      have hwl : w.heap.size < wr.heap.size := by omega
      clear hs1 hs2 hown ES EN C1 H H1
      go_wp2_with (go_at_call 26; (with_reducible refine Calls.mono (C2.out _ ⟨sa, k, sc⟩ HW.out rfl HS2.out) ?_); rintro e _ ⟨g, s, t, rfl, hs, ht, ⟨y2, rfl⟩⟩; have y2s := y2.size; have HT0 := Lib.hid ((y2.below.block w.heap.size hwl).trans HT.out); obtain ⟨_, _, _, _, e0, e1, e2⟩ := three_n HT0.out; have HSS := Lib.hid hs; have HTT := Lib.hid ht; clear hs ht)
      refine ret_ex rfl ⟨.agg #[.bool g, .slice s.a s.len s.cap, .slice t.a t.len t.cap], by simp [results, Try.results34, go_sem, e0, e1, e2], ⟨g, s, t, rfl, ⟨NatAt.store3 HSS.out.1 HT0.out _ _ _, HSS.out.2⟩, NatAt.store3 HTT.out HT0.out _ _ _, Cls.of (below3 (Ext.on y2 HW.out (by omega)) (Nat.le_refl _) _ _ _)⟩⟩
end Go.Proofs.Ythbdkhmgopahbaa
