/-
  The law of combinations of any systems with any bounds, walked.
-/
import Derived.Test.YtilhhbjdcdediaaJ23
import Derived.Test.YtilhhbjdcdediaaJ31
import Derived.Test.YtilhhbjdcdediaaJ32
import Derived.Test.YtilhhbjdcdediaaJ30
import Derived.WalkKit
set_option linter.unusedVariables false
namespace Go.Proofs.Ytilhhbjdcdediaa
open Go Go.RowKit Go.Deep
set_option maxRecDepth 100000 in
theorem la_lit (q1 q2 r q3 : Nat) : laB (litS q1 q2 r q3 1 2 1) 1 (fun _ => 1) (fun _ => 2) = true := by kernel_rfl
theorem lit_calls (W : World) (q1 q2 r q3 q : Nat) (h1 : IntAt W q1 1) (h2 : RowAt1 W q2 r) (h3 : IntAt W r 2) (h4 : IntAt W q3 1) (h5 : W.heap[q]? = some (.cells #[.int .i64 1, .int .i64 2] 34)) :
    Calls Try.prog 12 #[.agg #[.slice (some ⟨q1, 0, none⟩) 1 1, .slice (some ⟨q2, 0, none⟩) 1 1, .slice (some ⟨q3, 0, none⟩) 1 1], .slice (some ⟨q, 0, none⟩) 1 1] W fun e w' => e = .returned (.bool true) ∧ Cls W w' := by
  have := lLattice_calls (litS q1 q2 r q3 1 2 1) (some ⟨q, 0, none⟩) 1 1 (fun _ => 1) (fun _ => 2) W (lit_sys h1 h2 h3 h4) (lit_frs h5) (fun i hi => ⟨(by unfold In64; omega), (by unfold In64; omega)⟩) (by decide)
  rw [la_lit] at this
  exact this
set_option maxHeartbeats 32000000 in
set_option maxRecDepth 20000 in
theorem linearRaw_walk (y : Sy) (s : Sl) (mn md : Nat → Int) (l : Sl) (fl : Nat → Int) (u : Sl) (fp : Nat → Int) (w : World) (h : SysA w y) (hx : FrsA w s mn md ∧ ∀ i, i < s.len → In64 (mn i) ∧ In64 (md i)) (hl : IntsA w l fl ∧ ∀ i, i < l.len → In64 (fl i)) (hp : IntsA w u fp ∧ ∀ i, i < u.len → In64 (fp i)) :
    Calls Try.prog 4 #[y.v, .slice s.a s.len s.cap, .slice l.a l.len l.cap, .slice u.a u.len u.cap] w fun e w' => e = .returned (.bool true) ∧ Below w.heap.size w w' := by
  obtain ⟨a, n, c⟩ := s
  obtain ⟨la, ln, lc⟩ := l
  obtain ⟨pa, pn, pc⟩ := u
  simp only at hx hl hp ⊢
  obtain ⟨hx, hi⟩ := hx
  obtain ⟨hl, _⟩ := hl
  obtain ⟨hp, _⟩ := hp
  have hnc := hx.1
  have hcm := hx.2.1
  have lnc := hl.1
  have lcm := hl.2.1
  have pnc := hp.1
  have pcm := hp.2.1
  unfold maxLen at hcm lcm pcm
  simp only at hnc hcm lnc lcm pnc pcm
  have C1 := Lib.hid (fun (W : World) (hb : Below w.heap.size w W) => Few_calls y W (h.later hb))
  have C2 := Lib.hid (fun (hn : n ≤ 12) (W : World) (hb : Below w.heap.size w W) => (lCombine_calls y a n c mn md W (h.later hb) (hx.later hb) hi (by omega)).mono fun e w' hh => CmbR.frs hh)
  have C3 := Lib.hid (fun (hn : n ≤ 12) (W : World) (hb : Below w.heap.size w W) => (rCombine_calls y a n c mn md W (h.later hb) (hx.later hb) hi (by omega)).mono fun e w' hh => CmbR.frs hh)
  have C4 := Lib.hid (fun (hn : n ≤ 12) (hF : FewOk y) (W : World) (hb : Below w.heap.size w W) => lCheckBounds_calls y la ln lc fl pa pn pc fp a n c mn md W (h.later hb) (hl.later hb) (hp.later hb) (hx.later hb) hi (by omega) (by have := hF.1; omega))
  have C5 := Lib.hid (fun (hn : n ≤ 12) (hF : FewOk y) (W : World) (hb : Below w.heap.size w W) => rCheckBounds_calls y la ln lc fl pa pn pc fp a n c mn md W (h.later hb) (hl.later hb) (hp.later hb) (hx.later hb) hi (by omega) (by have := hF.1; omega))
  have C6 := Lib.hid (fun (hn : n ≤ 12) (W : World) (hb : Below w.heap.size w W) => lLattice_calls y a n c mn md W (h.later hb) (hx.later hb) hi (by omega))
  have C7 := Lib.hid (fun (hn : n ≤ 12) (W : World) (hb : Below w.heap.size w W) => rLattice_calls y a n c mn md W (fun W' hb' => rCombine_calls y a n c mn md W' (h.later (hb.trans (hb'.mono hb.size))) (hx.later (hb.trans (hb'.mono hb.size))) hi (by omega)))
  have CLI := Lib.hid lit_calls
  clear h hx hi hl hp
  by_cases h1 : n ≤ 12
  case neg =>
    have d0 : decide ((12 : Int) < ((n : Nat) : Int)) = true := decide_eq_true (by omega)
    unfold Sy.v at *
    clear C2 C3 C4 C5 C6 C7 CLI
    generalize y.U.a = ua at *
    generalize y.U.len = un at *
    generalize y.U.cap = uc at *
    generalize y.R.a = ra at *
    generalize y.R.len = rn at *
    generalize y.R.cap = rc at *
    generalize y.B.a = ba at *
    generalize y.B.len = bn at *
    generalize y.B.cap = bc at *
    go_enter Try.func4, Try.ntmps4
    go_wp2_with (go_at_call 16; (with_reducible refine Calls.mono (C1.out _ ?_) ?_); (focus (repeat first | with_reducible exact Below.refl _ _ | with_reducible refine Below.setCell ?_ (by first | omega | (simp; done) | (simp; omega)) _ | with_reducible refine Below.alloc ?_ (by first | omega | (simp; done) | (simp; omega)) _ | with_reducible refine Below.drew ?_ | with_reducible refine Ext.on _ ?_ (by first | omega | (simp; done) | (simp; omega)))); rintro e _ ⟨fb, rfl, hfb, ⟨x, rfl⟩⟩; have xs := x.size; (try simp at xs); have HFB := Lib.hid hfb; clear hfb; obtain ⟨hx0, c0, c1, c2⟩ := three_s ((x.below.block w.heap.size (by simp)).trans (heap_alloc_new w _)))
    all_goals
      go_ret
      refine ⟨rfl, ?_⟩
      repeat first | with_reducible exact Below.refl _ _ | with_reducible refine Below.setCell ?_ (by first | omega | (simp; done) | (simp; omega)) _ | with_reducible refine Below.alloc ?_ (by first | omega | (simp; done) | (simp; omega)) _ | with_reducible refine Below.drew ?_ | with_reducible refine Ext.on _ ?_ (by first | omega | (simp; done) | (simp; omega))
  by_cases h2 : ln ≤ 12
  case neg =>
    have d0 : decide ((12 : Int) < ((n : Nat) : Int)) = false := decide_eq_false (by omega)
    have d1 : decide ((12 : Int) < ((ln : Nat) : Int)) = true := decide_eq_true (by omega)
    unfold Sy.v at *
    clear C2 C3 C4 C5 C6 C7 CLI
    generalize y.U.a = ua at *
    generalize y.U.len = un at *
    generalize y.U.cap = uc at *
    generalize y.R.a = ra at *
    generalize y.R.len = rn at *
    generalize y.R.cap = rc at *
    generalize y.B.a = ba at *
    generalize y.B.len = bn at *
    generalize y.B.cap = bc at *
    go_enter Try.func4, Try.ntmps4
    go_wp2_with (go_at_call 16; (with_reducible refine Calls.mono (C1.out _ ?_) ?_); (focus (repeat first | with_reducible exact Below.refl _ _ | with_reducible refine Below.setCell ?_ (by first | omega | (simp; done) | (simp; omega)) _ | with_reducible refine Below.alloc ?_ (by first | omega | (simp; done) | (simp; omega)) _ | with_reducible refine Below.drew ?_ | with_reducible refine Ext.on _ ?_ (by first | omega | (simp; done) | (simp; omega)))); rintro e _ ⟨fb, rfl, hfb, ⟨x, rfl⟩⟩; have xs := x.size; (try simp at xs); have HFB := Lib.hid hfb; clear hfb; obtain ⟨hx0, c0, c1, c2⟩ := three_s ((x.below.block w.heap.size (by simp)).trans (heap_alloc_new w _)))
    all_goals
      go_ret
      refine ⟨rfl, ?_⟩
      repeat first | with_reducible exact Below.refl _ _ | with_reducible refine Below.setCell ?_ (by first | omega | (simp; done) | (simp; omega)) _ | with_reducible refine Below.alloc ?_ (by first | omega | (simp; done) | (simp; omega)) _ | with_reducible refine Below.drew ?_ | with_reducible refine Ext.on _ ?_ (by first | omega | (simp; done) | (simp; omega))
  by_cases h3 : pn ≤ 12
  case neg =>
    have d0 : decide ((12 : Int) < ((n : Nat) : Int)) = false := decide_eq_false (by omega)
    have d1 : decide ((12 : Int) < ((ln : Nat) : Int)) = false := decide_eq_false (by omega)
    have d2 : decide ((12 : Int) < ((pn : Nat) : Int)) = true := decide_eq_true (by omega)
    unfold Sy.v at *
    clear C2 C3 C4 C5 C6 C7 CLI
    generalize y.U.a = ua at *
    generalize y.U.len = un at *
    generalize y.U.cap = uc at *
    generalize y.R.a = ra at *
    generalize y.R.len = rn at *
    generalize y.R.cap = rc at *
    generalize y.B.a = ba at *
    generalize y.B.len = bn at *
    generalize y.B.cap = bc at *
    go_enter Try.func4, Try.ntmps4
    go_wp2_with (go_at_call 16; (with_reducible refine Calls.mono (C1.out _ ?_) ?_); (focus (repeat first | with_reducible exact Below.refl _ _ | with_reducible refine Below.setCell ?_ (by first | omega | (simp; done) | (simp; omega)) _ | with_reducible refine Below.alloc ?_ (by first | omega | (simp; done) | (simp; omega)) _ | with_reducible refine Below.drew ?_ | with_reducible refine Ext.on _ ?_ (by first | omega | (simp; done) | (simp; omega)))); rintro e _ ⟨fb, rfl, hfb, ⟨x, rfl⟩⟩; have xs := x.size; (try simp at xs); have HFB := Lib.hid hfb; clear hfb; obtain ⟨hx0, c0, c1, c2⟩ := three_s ((x.below.block w.heap.size (by simp)).trans (heap_alloc_new w _)))
    all_goals
      go_ret
      refine ⟨rfl, ?_⟩
      repeat first | with_reducible exact Below.refl _ _ | with_reducible refine Below.setCell ?_ (by first | omega | (simp; done) | (simp; omega)) _ | with_reducible refine Below.alloc ?_ (by first | omega | (simp; done) | (simp; omega)) _ | with_reducible refine Below.drew ?_ | with_reducible refine Ext.on _ ?_ (by first | omega | (simp; done) | (simp; omega))
  have d0 : decide ((12 : Int) < ((n : Nat) : Int)) = false := decide_eq_false (by omega)
  have d1 : decide ((12 : Int) < ((ln : Nat) : Int)) = false := decide_eq_false (by omega)
  have d2 : decide ((12 : Int) < ((pn : Nat) : Int)) = false := decide_eq_false (by omega)
  have D2 := Lib.hid (C2.out h1)
  have D3 := Lib.hid (C3.out h1)
  have D4 := Lib.hid (C4.out h1)
  have D5 := Lib.hid (C5.out h1)
  have D6 := Lib.hid (C6.out h1)
  have D7 := Lib.hid (C7.out h1)
  clear C2 C3 C4 C5 C6 C7
  have hlen : ∃ L, (if cmE y n mn md = 0 then y.U.len else 0) = L := ⟨_, rfl⟩
  obtain ⟨L, hL⟩ := hlen
  rw [hL] at D2 D3
  unfold Sy.v at *
  clear hL
  generalize cmE y n mn md = ce at *
  generalize cmN y n mn md = cn at *
  generalize cmD y n mn md = cd at *
  generalize cbN y n mn md = cF at *
  generalize cbD y n mn md = cG at *
  generalize cbB y n mn md ln fl pn fp = cb at *
  generalize laB y n mn md = lb at *
  generalize y.U.a = ua at *
  generalize y.U.len = un at *
  generalize y.U.cap = uc at *
  generalize y.R.a = ra at *
  generalize y.R.len = rn at *
  generalize y.R.cap = rc at *
  generalize y.B.a = ba at *
  generalize y.B.len = bn at *
  generalize y.B.cap = bc at *
  go_enter Try.func4, Try.ntmps4
  go_wp2_with (first
    | (go_at_call 16; (with_reducible refine Calls.mono (C1.out _ ?_) ?_); (focus (repeat first | with_reducible exact Below.refl _ _ | with_reducible refine Below.setCell ?_ (by first | omega | (simp; done) | (simp; omega)) _ | with_reducible refine Below.alloc ?_ (by first | omega | (simp; done) | (simp; omega)) _ | with_reducible refine Below.drew ?_ | with_reducible refine Ext.on _ ?_ (by first | omega | (simp; done) | (simp; omega)))); rintro e _ ⟨fb, rfl, hfb, ⟨x, rfl⟩⟩; have xs := x.size; (try simp at xs); have HFB := Lib.hid hfb; clear hfb; obtain ⟨hx0, c0, c1, c2⟩ := three_s ((x.below.block w.heap.size (by simp)).trans (heap_alloc_new w _)))
    | (go_at_call 9; (with_reducible refine Calls.mono (D2.out _ ?_) ?_); (focus (repeat first | with_reducible exact Below.refl _ _ | with_reducible refine Below.setCell ?_ (by first | omega | (simp; done) | (simp; omega)) _ | with_reducible refine Below.alloc ?_ (by first | omega | (simp; done) | (simp; omega)) _ | with_reducible refine Below.drew ?_ | with_reducible refine Ext.on _ ?_ (by first | omega | (simp; done) | (simp; omega)))); rintro e _ ⟨s1, rfl, hl1, hf1, ⟨z1, rfl⟩⟩; have z1s := z1.size; obtain ⟨hx0, c0, c1, c2⟩ := three_s ((z1.below.block w.heap.size (by omega)).trans ((x.below.block w.heap.size (by simp)).trans (heap_alloc_new w _))); have HF1 := Lib.hid hf1; have HL1 := Lib.hid hl1; clear hf1 hl1)
    | (go_at_call 10; (with_reducible refine Calls.mono (D3.out _ ?_) ?_); (focus (repeat first | with_reducible exact Below.refl _ _ | with_reducible refine Below.setCell ?_ (by first | omega | (simp; done) | (simp; omega)) _ | with_reducible refine Below.alloc ?_ (by first | omega | (simp; done) | (simp; omega)) _ | with_reducible refine Below.drew ?_ | with_reducible refine Ext.on _ ?_ (by first | omega | (simp; done) | (simp; omega)))); rintro e _ ⟨s2, rfl, hl2, hf2, ⟨z2, rfl⟩⟩; have z2s := z2.size; (try simp at z2s); have HF2 := Lib.hid hf2; have HL2 := Lib.hid hl2; clear hf2 hl2))
  · have HF := HFB.out (by assumption)
    have D4 := Lib.hid (D4.out HF)
    have D5 := Lib.hid (D5.out HF)
    obtain ⟨e1, f1, g1⟩ := s1
    obtain ⟨e2, f2, g2⟩ := s2
    have hl1 := HL1.out
    have hl2 := HL2.out
    simp only at hl1 hl2
    have hl1' := hl1.symm
    have hl2' := hl2.symm
    clear hl1 hl2 HL1 HL2
    subst hl1'
    subst hl2'
    refine wp_at (fun W => Below w.heap.size w W ∧ W.heap[w.heap.size]? = some (.cells #[.slice ua un uc, .slice ra rn rc, .slice ba bn bc] 30) ∧ W.heap[z1.val.heap.size]? = some (.cells #[.int .i64 cn, .int .i64 cd] 34) ∧ W.heap[z2.val.heap.size]? = some (.cells #[.int .i64 cn, .int .i64 cd] 34) ∧ FrsA W ⟨e1, L, g1⟩ cF cG ∧ FrsA W ⟨e2, L, g2⟩ cF cG ∧ z2.val.heap.size < W.heap.size) ⟨(by repeat first | with_reducible exact Below.refl _ _ | with_reducible refine Below.setCell ?_ (by first | omega | (simp; done) | (simp; omega)) _ | with_reducible refine Below.alloc ?_ (by first | omega | (simp; done) | (simp; omega)) _ | with_reducible refine Below.drew ?_ | with_reducible refine Ext.on _ ?_ (by first | omega | (simp; done) | (simp; omega))), ?_, ?_, heap_alloc_new _ _, (HF1.out.later (by repeat first | with_reducible exact Below.refl _ _ | with_reducible refine Below.setCell ?_ (by first | omega | (simp; done) | (simp; omega)) _ | with_reducible refine Below.alloc ?_ (by first | omega | (simp; done) | (simp; omega)) _ | with_reducible refine Below.drew ?_ | with_reducible refine Ext.on _ ?_ (by first | omega | (simp; done) | (simp; omega)))), HF2.out.later (by repeat first | with_reducible exact Below.refl _ _ | with_reducible refine Below.setCell ?_ (by first | omega | (simp; done) | (simp; omega)) _ | with_reducible refine Below.alloc ?_ (by first | omega | (simp; done) | (simp; omega)) _ | with_reducible refine Below.drew ?_ | with_reducible refine Ext.on _ ?_ (by first | omega | (simp; done) | (simp; omega))), by simp⟩ ?_
    · rw [Below.heap_alloc _ _ _ (by omega), z2.below.block _ (by simp; omega), Below.heap_alloc _ _ _ (by omega), z1.below.block _ (by omega), x.below.block _ (by simp)]
      exact heap_alloc_new w _
    · rw [Below.heap_alloc _ _ _ (by omega), z2.below.block _ (by simp)]
      exact heap_alloc_new z1.val _
    rintro W5 ⟨hB5, hs5, ha5, hb5, hc5, hd5, he5⟩
    have HB5 := Lib.hid hB5
    have hB5s := hB5.size
    obtain ⟨hx0, c0, c1, c2⟩ := three_s hs5
    obtain ⟨hx1, _, _, a0, a1⟩ := two_n ha5
    obtain ⟨hx2, _, _, b0, b1⟩ := two_n hb5
    have CS := Lib.hid (fun (W : World) (hb : Below W5.heap.size W5 W) => same_calls e1 L g1 e2 g2 cF cG W (hc5.later hb) (hd5.later hb))
    clear hB5 hs5 ha5 hb5 hc5 hd5 HF1 HF2 HFB HF D2 D3 C1
    refine wp_region_inv (x := (⟨W5, Below.refl _ _⟩ : Ext W5)) (fun j u W => match j with
    | 0 => u = .slice e1 L g1
    | 1 => u = .slice e2 L g2
    | 2 => u = .bool true
    | 3 => u = .bool true
    | 4 => u = .agg #[.int .i64 cn, .int .i64 cd]
    | 5 => u = .agg #[.int .i64 cn, .int .i64 cd]
    | 6 => u = .bool true
    | 7 => u = .bool true
    | 8 => u = .bool true
    | 9 => u = .int .i64 ce
    | 10 => u = .int .i64 ce
    | 11 => u = .bool true
    | 12 => u = .bool true
    | 13 => u = .bool true
    | 14 => u = .agg #[.slice ua un uc, .slice ra rn rc, .slice ba bn bc]
    | 15 => u = .slice la ln lc
    | 16 => u = .slice pa pn pc
    | 17 => u = .slice a n c
    | 18 => u = .bool cb
    | 19 => u = .agg #[.slice ua un uc, .slice ra rn rc, .slice ba bn bc]
    | 20 => u = .slice la ln lc
    | 21 => u = .slice pa pn pc
    | 22 => u = .slice a n c
    | 23 => u = .bool cb
    | 24 => u = .bool true
    | 25 => u = .bool true
    | 26 => u = .bool true
    | 27 => u = .agg #[.slice ua un uc, .slice ra rn rc, .slice ba bn bc]
    | 28 => u = .slice a n c
    | 29 => u = .bool lb
    | 30 => u = .agg #[.slice ua un uc, .slice ra rn rc, .slice ba bn bc]
    | 31 => u = .slice a n c
    | 32 => u = .bool lb
    | 33 => u = .bool true
    | 34 => u = .bool true
    | 35 => u = .bool true
    | 36 => ∃ q : Nat, u = .slice (some ⟨q, 0, none⟩) 1 1 ∧ IntAt W q 1
    | 37 => ∃ q : Nat, u = .slice (some ⟨q, 0, none⟩) 1 1 ∧ IntAt W q 2
    | 38 => ∃ q r : Nat, u = .slice (some ⟨q, 0, none⟩) 1 1 ∧ RowAt1 W q r ∧ IntAt W r 2
    | 39 => ∃ q : Nat, u = .slice (some ⟨q, 0, none⟩) 1 1 ∧ IntAt W q 1
    | 40 => ∃ q1 q2 r q3 : Nat, u = .agg #[.slice (some ⟨q1, 0, none⟩) 1 1, .slice (some ⟨q2, 0, none⟩) 1 1, .slice (some ⟨q3, 0, none⟩) 1 1] ∧ IntAt W q1 1 ∧ RowAt1 W q2 r ∧ IntAt W r 2 ∧ IntAt W q3 1
    | 41 => u = .agg #[.int .i64 1, .int .i64 2]
    | 42 => ∃ q : Nat, u = .slice (some ⟨q, 0, none⟩) 1 1 ∧ W.heap[q]? = some (.cells #[.int .i64 1, .int .i64 2] 34)
    | 43 => u = .bool true
    | 44 => u = .bool true
    | 45 => u = .bool true
    | _ => True) 92 (by kernel_rfl) rfl (by kernel_rfl) (fun j u W1 W2 hcc => by
    match j with
    | 0 => exact id
    | 1 => exact id
    | 2 => exact id
    | 3 => exact id
    | 4 => exact id
    | 5 => exact id
    | 6 => exact id
    | 7 => exact id
    | 8 => exact id
    | 9 => exact id
    | 10 => exact id
    | 11 => exact id
    | 12 => exact id
    | 13 => exact id
    | 14 => exact id
    | 15 => exact id
    | 16 => exact id
    | 17 => exact id
    | 18 => exact id
    | 19 => exact id
    | 20 => exact id
    | 21 => exact id
    | 22 => exact id
    | 23 => exact id
    | 24 => exact id
    | 25 => exact id
    | 26 => exact id
    | 27 => exact id
    | 28 => exact id
    | 29 => exact id
    | 30 => exact id
    | 31 => exact id
    | 32 => exact id
    | 33 => exact id
    | 34 => exact id
    | 35 => exact id
    | 36 => rintro ⟨q, h1, h2⟩; exact ⟨q, h1, h2.later hcc.below⟩
    | 37 => rintro ⟨q, h1, h2⟩; exact ⟨q, h1, h2.later hcc.below⟩
    | 38 => rintro ⟨q, r, h1, h2, h3⟩; exact ⟨q, r, h1, h2.later hcc.below, h3.later hcc.below⟩
    | 39 => rintro ⟨q, h1, h2⟩; exact ⟨q, h1, h2.later hcc.below⟩
    | 40 => rintro ⟨q1, q2, r, q3, h1, h2, h3, h4, h5⟩; exact ⟨q1, q2, r, q3, h1, h2.later hcc.below, h3.later hcc.below, h4.later hcc.below, h5.later hcc.below⟩
    | 41 => exact id
    | 42 => rintro ⟨q, h1, h2⟩; exact ⟨q, h1, at_later h2 hcc.below⟩
    | 43 => exact id
    | 44 => exact id
    | 45 => exact id
    | _ + 46 => exact id) ?_
    refine inv_step (fun W hW hd K hK => ?_) (fun v0 aq hq => ?_)
    · obtain ⟨y, rfl⟩ := hW
      have ys := y.size
      have HK := Lib.hid hK
      clear hd hK
      go_wp2_with fail
      exact HK.out _ _ rfl ⟨⟨y, rfl⟩, ⟨⟨y.val, Below.refl _ _⟩, rfl⟩⟩ rfl trivial
    simp only [Act.put, List.setIfInBounds_toArray, List.set_cons_zero, List.set_cons_succ] at hq
    subst hq
    refine inv_step (fun W hW hd K hK => ?_) (fun v1 aq hq => ?_)
    · obtain ⟨y, rfl⟩ := hW
      have ys := y.size
      have HK := Lib.hid hK
      clear hd hK
      go_wp2_with fail
      exact HK.out _ _ rfl ⟨⟨y, rfl⟩, ⟨⟨y.val, Below.refl _ _⟩, rfl⟩⟩ rfl trivial
    simp only [Act.put, List.setIfInBounds_toArray, List.set_cons_zero, List.set_cons_succ] at hq
    subst hq
    refine inv_step (fun W hW hd K hK => ?_) (fun v2 aq hq => ?_)
    · obtain ⟨y, rfl⟩ := hW
      have ys := y.size
      have HK := Lib.hid hK
      obtain rfl : v0 = .slice e1 L g1 := hd 0 (by kernel_rfl)
      obtain rfl : v1 = .slice e2 L g2 := hd 1 (by kernel_rfl)
      clear hd hK
      go_wp2_with (go_at_call 11; (with_reducible refine Calls.mono (CS.out y.val y.below) ?_); rintro e _ ⟨rfl, ⟨z, rfl⟩⟩)
      exact HK.out _ _ rfl ⟨Cls.step y ⟨z, rfl⟩, ⟨z, rfl⟩⟩ rfl trivial
    simp only [Act.put, List.setIfInBounds_toArray, List.set_cons_zero, List.set_cons_succ] at hq
    subst hq
    refine inv_step (fun W hW hd K hK => ?_) (fun v3 aq hq => ?_)
    · obtain ⟨y, rfl⟩ := hW
      have ys := y.size
      have HK := Lib.hid hK
      obtain rfl : v2 = .bool true := hd 2 (by kernel_rfl)
      clear hd hK
      go_wp2_with fail
      exact HK.out _ _ rfl ⟨⟨y, rfl⟩, ⟨⟨y.val, Below.refl _ _⟩, rfl⟩⟩ rfl trivial
    simp only [Act.put, List.setIfInBounds_toArray, List.set_cons_zero, List.set_cons_succ] at hq
    subst hq
    refine inv_step (fun W hW hd K hK => ?_) (fun v4 aq hq => ?_)
    · obtain ⟨y, rfl⟩ := hW
      have ys := y.size
      have HK := Lib.hid hK
      obtain rfl : v3 = .bool true := hd 3 (by kernel_rfl)
      clear hd hK
      go_wp2_with fail
      exact HK.out _ _ rfl ⟨⟨y, rfl⟩, ⟨⟨y.val, Below.refl _ _⟩, rfl⟩⟩ rfl trivial
    simp only [Act.put, List.setIfInBounds_toArray, List.set_cons_zero, List.set_cons_succ] at hq
    subst hq
    refine inv_step (fun W hW hd K hK => ?_) (fun v5 aq hq => ?_)
    · obtain ⟨y, rfl⟩ := hW
      have ys := y.size
      have HK := Lib.hid hK
      obtain rfl : v3 = .bool true := hd 3 (by kernel_rfl)
      clear hd hK
      go_wp2_with fail
      exact HK.out _ _ rfl ⟨⟨y, rfl⟩, ⟨⟨y.val, Below.refl _ _⟩, rfl⟩⟩ rfl trivial
    simp only [Act.put, List.setIfInBounds_toArray, List.set_cons_zero, List.set_cons_succ] at hq
    subst hq
    refine inv_step (fun W hW hd K hK => ?_) (fun v6 aq hq => ?_)
    · obtain ⟨y, rfl⟩ := hW
      have ys := y.size
      have HK := Lib.hid hK
      obtain rfl : v3 = .bool true := hd 3 (by kernel_rfl)
      obtain rfl : v4 = .agg #[.int .i64 cn, .int .i64 cd] := hd 4 (by kernel_rfl)
      obtain rfl : v5 = .agg #[.int .i64 cn, .int .i64 cd] := hd 5 (by kernel_rfl)
      clear hd hK
      go_wp2_with fail
      exact HK.out _ _ rfl ⟨⟨y, rfl⟩, ⟨⟨y.val, Below.refl _ _⟩, rfl⟩⟩ rfl trivial
    simp only [Act.put, List.setIfInBounds_toArray, List.set_cons_zero, List.set_cons_succ] at hq
    subst hq
    refine inv_step (fun W hW hd K hK => ?_) (fun v7 aq hq => ?_)
    · obtain ⟨y, rfl⟩ := hW
      have ys := y.size
      have HK := Lib.hid hK
      obtain rfl : v3 = .bool true := hd 3 (by kernel_rfl)
      obtain rfl : v6 = .bool true := hd 6 (by kernel_rfl)
      clear hd hK
      go_wp2_with fail
      exact HK.out _ _ rfl ⟨⟨y, rfl⟩, ⟨⟨y.val, Below.refl _ _⟩, rfl⟩⟩ rfl trivial
    simp only [Act.put, List.setIfInBounds_toArray, List.set_cons_zero, List.set_cons_succ] at hq
    subst hq
    refine inv_step (fun W hW hd K hK => ?_) (fun v8 aq hq => ?_)
    · obtain ⟨y, rfl⟩ := hW
      have ys := y.size
      have HK := Lib.hid hK
      obtain rfl : v7 = .bool true := hd 7 (by kernel_rfl)
      clear hd hK
      go_wp2_with fail
      exact HK.out _ _ rfl ⟨⟨y, rfl⟩, ⟨⟨y.val, Below.refl _ _⟩, rfl⟩⟩ rfl trivial
    simp only [Act.put, List.setIfInBounds_toArray, List.set_cons_zero, List.set_cons_succ] at hq
    subst hq
    refine inv_step (fun W hW hd K hK => ?_) (fun v9 aq hq => ?_)
    · obtain ⟨y, rfl⟩ := hW
      have ys := y.size
      have HK := Lib.hid hK
      obtain rfl : v8 = .bool true := hd 8 (by kernel_rfl)
      clear hd hK
      go_wp2_with fail
      exact HK.out _ _ rfl ⟨⟨y, rfl⟩, ⟨⟨y.val, Below.refl _ _⟩, rfl⟩⟩ rfl trivial
    simp only [Act.put, List.setIfInBounds_toArray, List.set_cons_zero, List.set_cons_succ] at hq
    subst hq
    refine inv_step (fun W hW hd K hK => ?_) (fun v10 aq hq => ?_)
    · obtain ⟨y, rfl⟩ := hW
      have ys := y.size
      have HK := Lib.hid hK
      obtain rfl : v8 = .bool true := hd 8 (by kernel_rfl)
      clear hd hK
      go_wp2_with fail
      exact HK.out _ _ rfl ⟨⟨y, rfl⟩, ⟨⟨y.val, Below.refl _ _⟩, rfl⟩⟩ rfl trivial
    simp only [Act.put, List.setIfInBounds_toArray, List.set_cons_zero, List.set_cons_succ] at hq
    subst hq
    refine inv_step (fun W hW hd K hK => ?_) (fun v11 aq hq => ?_)
    · obtain ⟨y, rfl⟩ := hW
      have ys := y.size
      have HK := Lib.hid hK
      obtain rfl : v8 = .bool true := hd 8 (by kernel_rfl)
      obtain rfl : v9 = .int .i64 ce := hd 9 (by kernel_rfl)
      obtain rfl : v10 = .int .i64 ce := hd 10 (by kernel_rfl)
      clear hd hK
      go_wp2_with fail
      exact HK.out _ _ rfl ⟨⟨y, rfl⟩, ⟨⟨y.val, Below.refl _ _⟩, rfl⟩⟩ rfl trivial
    simp only [Act.put, List.setIfInBounds_toArray, List.set_cons_zero, List.set_cons_succ] at hq
    subst hq
    refine inv_step (fun W hW hd K hK => ?_) (fun v12 aq hq => ?_)
    · obtain ⟨y, rfl⟩ := hW
      have ys := y.size
      have HK := Lib.hid hK
      obtain rfl : v8 = .bool true := hd 8 (by kernel_rfl)
      obtain rfl : v11 = .bool true := hd 11 (by kernel_rfl)
      clear hd hK
      go_wp2_with fail
      exact HK.out _ _ rfl ⟨⟨y, rfl⟩, ⟨⟨y.val, Below.refl _ _⟩, rfl⟩⟩ rfl trivial
    simp only [Act.put, List.setIfInBounds_toArray, List.set_cons_zero, List.set_cons_succ] at hq
    subst hq
    refine inv_step (fun W hW hd K hK => ?_) (fun v13 aq hq => ?_)
    · obtain ⟨y, rfl⟩ := hW
      have ys := y.size
      have HK := Lib.hid hK
      obtain rfl : v12 = .bool true := hd 12 (by kernel_rfl)
      clear hd hK
      go_wp2_with fail
      exact HK.out _ _ rfl ⟨⟨y, rfl⟩, ⟨⟨y.val, Below.refl _ _⟩, rfl⟩⟩ rfl trivial
    simp only [Act.put, List.setIfInBounds_toArray, List.set_cons_zero, List.set_cons_succ] at hq
    subst hq
    refine inv_step (fun W hW hd K hK => ?_) (fun v14 aq hq => ?_)
    · obtain ⟨y, rfl⟩ := hW
      have ys := y.size
      have HK := Lib.hid hK
      obtain rfl : v13 = .bool true := hd 13 (by kernel_rfl)
      clear hd hK
      go_wp2_with fail
      exact HK.out _ _ rfl ⟨⟨y, rfl⟩, ⟨⟨y.val, Below.refl _ _⟩, rfl⟩⟩ rfl trivial
    simp only [Act.put, List.setIfInBounds_toArray, List.set_cons_zero, List.set_cons_succ] at hq
    subst hq
    refine inv_step (fun W hW hd K hK => ?_) (fun v15 aq hq => ?_)
    · obtain ⟨y, rfl⟩ := hW
      have ys := y.size
      have HK := Lib.hid hK
      obtain rfl : v13 = .bool true := hd 13 (by kernel_rfl)
      clear hd hK
      go_wp2_with fail
      exact HK.out _ _ rfl ⟨⟨y, rfl⟩, ⟨⟨y.val, Below.refl _ _⟩, rfl⟩⟩ rfl trivial
    simp only [Act.put, List.setIfInBounds_toArray, List.set_cons_zero, List.set_cons_succ] at hq
    subst hq
    refine inv_step (fun W hW hd K hK => ?_) (fun v16 aq hq => ?_)
    · obtain ⟨y, rfl⟩ := hW
      have ys := y.size
      have HK := Lib.hid hK
      obtain rfl : v13 = .bool true := hd 13 (by kernel_rfl)
      clear hd hK
      go_wp2_with fail
      exact HK.out _ _ rfl ⟨⟨y, rfl⟩, ⟨⟨y.val, Below.refl _ _⟩, rfl⟩⟩ rfl trivial
    simp only [Act.put, List.setIfInBounds_toArray, List.set_cons_zero, List.set_cons_succ] at hq
    subst hq
    refine inv_step (fun W hW hd K hK => ?_) (fun v17 aq hq => ?_)
    · obtain ⟨y, rfl⟩ := hW
      have ys := y.size
      have HK := Lib.hid hK
      obtain rfl : v13 = .bool true := hd 13 (by kernel_rfl)
      clear hd hK
      go_wp2_with fail
      exact HK.out _ _ rfl ⟨⟨y, rfl⟩, ⟨⟨y.val, Below.refl _ _⟩, rfl⟩⟩ rfl trivial
    simp only [Act.put, List.setIfInBounds_toArray, List.set_cons_zero, List.set_cons_succ] at hq
    subst hq
    refine inv_step (fun W hW hd K hK => ?_) (fun v18 aq hq => ?_)
    · obtain ⟨y, rfl⟩ := hW
      have ys := y.size
      have HK := Lib.hid hK
      obtain rfl : v13 = .bool true := hd 13 (by kernel_rfl)
      obtain rfl : v14 = .agg #[.slice ua un uc, .slice ra rn rc, .slice ba bn bc] := hd 14 (by kernel_rfl)
      obtain rfl : v15 = .slice la ln lc := hd 15 (by kernel_rfl)
      obtain rfl : v16 = .slice pa pn pc := hd 16 (by kernel_rfl)
      obtain rfl : v17 = .slice a n c := hd 17 (by kernel_rfl)
      clear hd hK
      go_wp2_with (go_at_call 14; (with_reducible refine Calls.mono (D4.out y.val (y.on HB5.out (by omega))) ?_); rintro e _ ⟨rfl, ⟨z, rfl⟩⟩)
      exact HK.out _ _ rfl ⟨Cls.step y ⟨z, rfl⟩, ⟨z, rfl⟩⟩ rfl trivial
    simp only [Act.put, List.setIfInBounds_toArray, List.set_cons_zero, List.set_cons_succ] at hq
    subst hq
    refine inv_step (fun W hW hd K hK => ?_) (fun v19 aq hq => ?_)
    · obtain ⟨y, rfl⟩ := hW
      have ys := y.size
      have HK := Lib.hid hK
      obtain rfl : v13 = .bool true := hd 13 (by kernel_rfl)
      clear hd hK
      go_wp2_with fail
      exact HK.out _ _ rfl ⟨⟨y, rfl⟩, ⟨⟨y.val, Below.refl _ _⟩, rfl⟩⟩ rfl trivial
    simp only [Act.put, List.setIfInBounds_toArray, List.set_cons_zero, List.set_cons_succ] at hq
    subst hq
    refine inv_step (fun W hW hd K hK => ?_) (fun v20 aq hq => ?_)
    · obtain ⟨y, rfl⟩ := hW
      have ys := y.size
      have HK := Lib.hid hK
      obtain rfl : v13 = .bool true := hd 13 (by kernel_rfl)
      clear hd hK
      go_wp2_with fail
      exact HK.out _ _ rfl ⟨⟨y, rfl⟩, ⟨⟨y.val, Below.refl _ _⟩, rfl⟩⟩ rfl trivial
    simp only [Act.put, List.setIfInBounds_toArray, List.set_cons_zero, List.set_cons_succ] at hq
    subst hq
    refine inv_step (fun W hW hd K hK => ?_) (fun v21 aq hq => ?_)
    · obtain ⟨y, rfl⟩ := hW
      have ys := y.size
      have HK := Lib.hid hK
      obtain rfl : v13 = .bool true := hd 13 (by kernel_rfl)
      clear hd hK
      go_wp2_with fail
      exact HK.out _ _ rfl ⟨⟨y, rfl⟩, ⟨⟨y.val, Below.refl _ _⟩, rfl⟩⟩ rfl trivial
    simp only [Act.put, List.setIfInBounds_toArray, List.set_cons_zero, List.set_cons_succ] at hq
    subst hq
    refine inv_step (fun W hW hd K hK => ?_) (fun v22 aq hq => ?_)
    · obtain ⟨y, rfl⟩ := hW
      have ys := y.size
      have HK := Lib.hid hK
      obtain rfl : v13 = .bool true := hd 13 (by kernel_rfl)
      clear hd hK
      go_wp2_with fail
      exact HK.out _ _ rfl ⟨⟨y, rfl⟩, ⟨⟨y.val, Below.refl _ _⟩, rfl⟩⟩ rfl trivial
    simp only [Act.put, List.setIfInBounds_toArray, List.set_cons_zero, List.set_cons_succ] at hq
    subst hq
    refine inv_step (fun W hW hd K hK => ?_) (fun v23 aq hq => ?_)
    · obtain ⟨y, rfl⟩ := hW
      have ys := y.size
      have HK := Lib.hid hK
      obtain rfl : v13 = .bool true := hd 13 (by kernel_rfl)
      obtain rfl : v19 = .agg #[.slice ua un uc, .slice ra rn rc, .slice ba bn bc] := hd 19 (by kernel_rfl)
      obtain rfl : v20 = .slice la ln lc := hd 20 (by kernel_rfl)
      obtain rfl : v21 = .slice pa pn pc := hd 21 (by kernel_rfl)
      obtain rfl : v22 = .slice a n c := hd 22 (by kernel_rfl)
      clear hd hK
      go_wp2_with (go_at_call 15; (with_reducible refine Calls.mono (D5.out y.val (y.on HB5.out (by omega))) ?_); rintro e _ ⟨rfl, ⟨z, rfl⟩⟩)
      exact HK.out _ _ rfl ⟨Cls.step y ⟨z, rfl⟩, ⟨z, rfl⟩⟩ rfl trivial
    simp only [Act.put, List.setIfInBounds_toArray, List.set_cons_zero, List.set_cons_succ] at hq
    subst hq
    refine inv_step (fun W hW hd K hK => ?_) (fun v24 aq hq => ?_)
    · obtain ⟨y, rfl⟩ := hW
      have ys := y.size
      have HK := Lib.hid hK
      obtain rfl : v13 = .bool true := hd 13 (by kernel_rfl)
      obtain rfl : v18 = .bool cb := hd 18 (by kernel_rfl)
      obtain rfl : v23 = .bool cb := hd 23 (by kernel_rfl)
      clear hd hK
      go_wp2_with fail
      exact HK.out _ _ rfl ⟨⟨y, rfl⟩, ⟨⟨y.val, Below.refl _ _⟩, rfl⟩⟩ rfl trivial
    simp only [Act.put, List.setIfInBounds_toArray, List.set_cons_zero, List.set_cons_succ] at hq
    subst hq
    refine inv_step (fun W hW hd K hK => ?_) (fun v25 aq hq => ?_)
    · obtain ⟨y, rfl⟩ := hW
      have ys := y.size
      have HK := Lib.hid hK
      obtain rfl : v13 = .bool true := hd 13 (by kernel_rfl)
      obtain rfl : v24 = .bool true := hd 24 (by kernel_rfl)
      clear hd hK
      go_wp2_with fail
      exact HK.out _ _ rfl ⟨⟨y, rfl⟩, ⟨⟨y.val, Below.refl _ _⟩, rfl⟩⟩ rfl trivial
    simp only [Act.put, List.setIfInBounds_toArray, List.set_cons_zero, List.set_cons_succ] at hq
    subst hq
    refine inv_step (fun W hW hd K hK => ?_) (fun v26 aq hq => ?_)
    · obtain ⟨y, rfl⟩ := hW
      have ys := y.size
      have HK := Lib.hid hK
      obtain rfl : v25 = .bool true := hd 25 (by kernel_rfl)
      clear hd hK
      go_wp2_with fail
      exact HK.out _ _ rfl ⟨⟨y, rfl⟩, ⟨⟨y.val, Below.refl _ _⟩, rfl⟩⟩ rfl trivial
    simp only [Act.put, List.setIfInBounds_toArray, List.set_cons_zero, List.set_cons_succ] at hq
    subst hq
    refine inv_step (fun W hW hd K hK => ?_) (fun v27 aq hq => ?_)
    · obtain ⟨y, rfl⟩ := hW
      have ys := y.size
      have HK := Lib.hid hK
      obtain rfl : v26 = .bool true := hd 26 (by kernel_rfl)
      clear hd hK
      go_wp2_with fail
      exact HK.out _ _ rfl ⟨⟨y, rfl⟩, ⟨⟨y.val, Below.refl _ _⟩, rfl⟩⟩ rfl trivial
    simp only [Act.put, List.setIfInBounds_toArray, List.set_cons_zero, List.set_cons_succ] at hq
    subst hq
    refine inv_step (fun W hW hd K hK => ?_) (fun v28 aq hq => ?_)
    · obtain ⟨y, rfl⟩ := hW
      have ys := y.size
      have HK := Lib.hid hK
      obtain rfl : v26 = .bool true := hd 26 (by kernel_rfl)
      clear hd hK
      go_wp2_with fail
      exact HK.out _ _ rfl ⟨⟨y, rfl⟩, ⟨⟨y.val, Below.refl _ _⟩, rfl⟩⟩ rfl trivial
    simp only [Act.put, List.setIfInBounds_toArray, List.set_cons_zero, List.set_cons_succ] at hq
    subst hq
    refine inv_step (fun W hW hd K hK => ?_) (fun v29 aq hq => ?_)
    · obtain ⟨y, rfl⟩ := hW
      have ys := y.size
      have HK := Lib.hid hK
      obtain rfl : v26 = .bool true := hd 26 (by kernel_rfl)
      obtain rfl : v27 = .agg #[.slice ua un uc, .slice ra rn rc, .slice ba bn bc] := hd 27 (by kernel_rfl)
      obtain rfl : v28 = .slice a n c := hd 28 (by kernel_rfl)
      clear hd hK
      go_wp2_with (go_at_call 12; (with_reducible refine Calls.mono (D6.out y.val (y.on HB5.out (by omega))) ?_); rintro e _ ⟨rfl, ⟨z, rfl⟩⟩)
      exact HK.out _ _ rfl ⟨Cls.step y ⟨z, rfl⟩, ⟨z, rfl⟩⟩ rfl trivial
    simp only [Act.put, List.setIfInBounds_toArray, List.set_cons_zero, List.set_cons_succ] at hq
    subst hq
    refine inv_step (fun W hW hd K hK => ?_) (fun v30 aq hq => ?_)
    · obtain ⟨y, rfl⟩ := hW
      have ys := y.size
      have HK := Lib.hid hK
      obtain rfl : v26 = .bool true := hd 26 (by kernel_rfl)
      clear hd hK
      go_wp2_with fail
      exact HK.out _ _ rfl ⟨⟨y, rfl⟩, ⟨⟨y.val, Below.refl _ _⟩, rfl⟩⟩ rfl trivial
    simp only [Act.put, List.setIfInBounds_toArray, List.set_cons_zero, List.set_cons_succ] at hq
    subst hq
    refine inv_step (fun W hW hd K hK => ?_) (fun v31 aq hq => ?_)
    · obtain ⟨y, rfl⟩ := hW
      have ys := y.size
      have HK := Lib.hid hK
      obtain rfl : v26 = .bool true := hd 26 (by kernel_rfl)
      clear hd hK
      go_wp2_with fail
      exact HK.out _ _ rfl ⟨⟨y, rfl⟩, ⟨⟨y.val, Below.refl _ _⟩, rfl⟩⟩ rfl trivial
    simp only [Act.put, List.setIfInBounds_toArray, List.set_cons_zero, List.set_cons_succ] at hq
    subst hq
    refine inv_step (fun W hW hd K hK => ?_) (fun v32 aq hq => ?_)
    · obtain ⟨y, rfl⟩ := hW
      have ys := y.size
      have HK := Lib.hid hK
      obtain rfl : v26 = .bool true := hd 26 (by kernel_rfl)
      obtain rfl : v30 = .agg #[.slice ua un uc, .slice ra rn rc, .slice ba bn bc] := hd 30 (by kernel_rfl)
      obtain rfl : v31 = .slice a n c := hd 31 (by kernel_rfl)
      clear hd hK
      go_wp2_with (go_at_call 13; (with_reducible refine Calls.mono (D7.out y.val (y.on HB5.out (by omega))) ?_); rintro e _ ⟨rfl, ⟨z, rfl⟩⟩)
      exact HK.out _ _ rfl ⟨Cls.step y ⟨z, rfl⟩, ⟨z, rfl⟩⟩ rfl trivial
    simp only [Act.put, List.setIfInBounds_toArray, List.set_cons_zero, List.set_cons_succ] at hq
    subst hq
    refine inv_step (fun W hW hd K hK => ?_) (fun v33 aq hq => ?_)
    · obtain ⟨y, rfl⟩ := hW
      have ys := y.size
      have HK := Lib.hid hK
      obtain rfl : v26 = .bool true := hd 26 (by kernel_rfl)
      obtain rfl : v29 = .bool lb := hd 29 (by kernel_rfl)
      obtain rfl : v32 = .bool lb := hd 32 (by kernel_rfl)
      clear hd hK
      go_wp2_with fail
      exact HK.out _ _ rfl ⟨⟨y, rfl⟩, ⟨⟨y.val, Below.refl _ _⟩, rfl⟩⟩ rfl trivial
    simp only [Act.put, List.setIfInBounds_toArray, List.set_cons_zero, List.set_cons_succ] at hq
    subst hq
    refine inv_step (fun W hW hd K hK => ?_) (fun v34 aq hq => ?_)
    · obtain ⟨y, rfl⟩ := hW
      have ys := y.size
      have HK := Lib.hid hK
      obtain rfl : v26 = .bool true := hd 26 (by kernel_rfl)
      obtain rfl : v33 = .bool true := hd 33 (by kernel_rfl)
      clear hd hK
      go_wp2_with fail
      exact HK.out _ _ rfl ⟨⟨y, rfl⟩, ⟨⟨y.val, Below.refl _ _⟩, rfl⟩⟩ rfl trivial
    simp only [Act.put, List.setIfInBounds_toArray, List.set_cons_zero, List.set_cons_succ] at hq
    subst hq
    refine inv_step (fun W hW hd K hK => ?_) (fun v35 aq hq => ?_)
    · obtain ⟨y, rfl⟩ := hW
      have ys := y.size
      have HK := Lib.hid hK
      obtain rfl : v34 = .bool true := hd 34 (by kernel_rfl)
      clear hd hK
      go_wp2_with fail
      exact HK.out _ _ rfl ⟨⟨y, rfl⟩, ⟨⟨y.val, Below.refl _ _⟩, rfl⟩⟩ rfl trivial
    simp only [Act.put, List.setIfInBounds_toArray, List.set_cons_zero, List.set_cons_succ] at hq
    subst hq
    refine inv_step (fun W hW hd K hK => ?_) (fun v36 aq hq => ?_)
    · obtain ⟨y, rfl⟩ := hW
      have ys := y.size
      have HK := Lib.hid hK
      obtain rfl : v35 = .bool true := hd 35 (by kernel_rfl)
      clear hd hK
      go_wp2_with fail
      exact HK.out _ _ rfl ⟨Cls.step y (Cls.of ((Below.refl _ _).alloc (Nat.le_refl _) _)), Cls.of ((Below.refl _ _).alloc (Nat.le_refl _) _)⟩ ⟨y.val.heap.size, rfl, heap_alloc_new _ _⟩ trivial
    simp only [Act.put, List.setIfInBounds_toArray, List.set_cons_zero, List.set_cons_succ] at hq
    subst hq
    refine inv_step (fun W hW hd K hK => ?_) (fun v37 aq hq => ?_)
    · obtain ⟨y, rfl⟩ := hW
      have ys := y.size
      have HK := Lib.hid hK
      obtain rfl : v35 = .bool true := hd 35 (by kernel_rfl)
      clear hd hK
      go_wp2_with fail
      exact HK.out _ _ rfl ⟨Cls.step y (Cls.of ((Below.refl _ _).alloc (Nat.le_refl _) _)), Cls.of ((Below.refl _ _).alloc (Nat.le_refl _) _)⟩ ⟨y.val.heap.size, rfl, heap_alloc_new _ _⟩ trivial
    simp only [Act.put, List.setIfInBounds_toArray, List.set_cons_zero, List.set_cons_succ] at hq
    subst hq
    refine inv_step (fun W hW hd K hK => ?_) (fun v38 aq hq => ?_)
    · obtain ⟨y, rfl⟩ := hW
      have ys := y.size
      have HK := Lib.hid hK
      obtain rfl : v35 = .bool true := hd 35 (by kernel_rfl)
      obtain ⟨q9, rfl, h9⟩ : ∃ q : Nat, v37 = .slice (some ⟨q, 0, none⟩) 1 1 ∧ IntAt y.val q 2 := hd 37 (by kernel_rfl)
      clear hd hK
      go_wp2_with fail
      exact HK.out _ _ rfl ⟨Cls.step y (Cls.of ((Below.refl _ _).alloc (Nat.le_refl _) _)), Cls.of ((Below.refl _ _).alloc (Nat.le_refl _) _)⟩ ⟨y.val.heap.size, q9, rfl, heap_alloc_new _ _, h9.later ((Below.refl _ _).alloc (Nat.le_refl _) _)⟩ trivial
    simp only [Act.put, List.setIfInBounds_toArray, List.set_cons_zero, List.set_cons_succ] at hq
    subst hq
    refine inv_step (fun W hW hd K hK => ?_) (fun v39 aq hq => ?_)
    · obtain ⟨y, rfl⟩ := hW
      have ys := y.size
      have HK := Lib.hid hK
      obtain rfl : v35 = .bool true := hd 35 (by kernel_rfl)
      clear hd hK
      go_wp2_with fail
      exact HK.out _ _ rfl ⟨Cls.step y (Cls.of ((Below.refl _ _).alloc (Nat.le_refl _) _)), Cls.of ((Below.refl _ _).alloc (Nat.le_refl _) _)⟩ ⟨y.val.heap.size, rfl, heap_alloc_new _ _⟩ trivial
    simp only [Act.put, List.setIfInBounds_toArray, List.set_cons_zero, List.set_cons_succ] at hq
    subst hq
    refine inv_step (fun W hW hd K hK => ?_) (fun v40 aq hq => ?_)
    · obtain ⟨y, rfl⟩ := hW
      have ys := y.size
      have HK := Lib.hid hK
      obtain rfl : v35 = .bool true := hd 35 (by kernel_rfl)
      obtain ⟨qA, rfl, hA⟩ : ∃ q : Nat, v36 = .slice (some ⟨q, 0, none⟩) 1 1 ∧ IntAt y.val q 1 := hd 36 (by kernel_rfl)
      obtain ⟨qR, rR, rfl, hR1, hR2⟩ : ∃ q r : Nat, v38 = .slice (some ⟨q, 0, none⟩) 1 1 ∧ RowAt1 y.val q r ∧ IntAt y.val r 2 := hd 38 (by kernel_rfl)
      obtain ⟨qC, rfl, hC⟩ : ∃ q : Nat, v39 = .slice (some ⟨q, 0, none⟩) 1 1 ∧ IntAt y.val q 1 := hd 39 (by kernel_rfl)
      clear hd hK
      go_wp2_with fail
      exact HK.out _ _ rfl ⟨⟨y, rfl⟩, ⟨⟨y.val, Below.refl _ _⟩, rfl⟩⟩ ⟨qA, qR, rR, qC, rfl, hA, hR1, hR2, hC⟩ trivial
    simp only [Act.put, List.setIfInBounds_toArray, List.set_cons_zero, List.set_cons_succ] at hq
    subst hq
    refine inv_step (fun W hW hd K hK => ?_) (fun v41 aq hq => ?_)
    · obtain ⟨y, rfl⟩ := hW
      have ys := y.size
      have HK := Lib.hid hK
      obtain rfl : v35 = .bool true := hd 35 (by kernel_rfl)
      clear hd hK
      go_wp2_with fail
      exact HK.out _ _ rfl ⟨⟨y, rfl⟩, ⟨⟨y.val, Below.refl _ _⟩, rfl⟩⟩ rfl trivial
    simp only [Act.put, List.setIfInBounds_toArray, List.set_cons_zero, List.set_cons_succ] at hq
    subst hq
    refine inv_step (fun W hW hd K hK => ?_) (fun v42 aq hq => ?_)
    · obtain ⟨y, rfl⟩ := hW
      have ys := y.size
      have HK := Lib.hid hK
      obtain rfl : v35 = .bool true := hd 35 (by kernel_rfl)
      obtain rfl : v41 = .agg #[.int .i64 1, .int .i64 2] := hd 41 (by kernel_rfl)
      clear hd hK
      go_wp2_with fail
      exact HK.out _ _ rfl ⟨Cls.step y (Cls.of ((Below.refl _ _).alloc (Nat.le_refl _) _)), Cls.of ((Below.refl _ _).alloc (Nat.le_refl _) _)⟩ ⟨y.val.heap.size, rfl, heap_alloc_new _ _⟩ trivial
    simp only [Act.put, List.setIfInBounds_toArray, List.set_cons_zero, List.set_cons_succ] at hq
    subst hq
    refine inv_step (fun W hW hd K hK => ?_) (fun v43 aq hq => ?_)
    · obtain ⟨y, rfl⟩ := hW
      have ys := y.size
      have HK := Lib.hid hK
      obtain rfl : v35 = .bool true := hd 35 (by kernel_rfl)
      obtain ⟨q1, q2, r1, q3, rfl, k1, k2, k3, k4⟩ : ∃ q1 q2 r q3 : Nat, v40 = .agg #[.slice (some ⟨q1, 0, none⟩) 1 1, .slice (some ⟨q2, 0, none⟩) 1 1, .slice (some ⟨q3, 0, none⟩) 1 1] ∧ IntAt y.val q1 1 ∧ RowAt1 y.val q2 r ∧ IntAt y.val r 2 ∧ IntAt y.val q3 1 := hd 40 (by kernel_rfl)
      obtain ⟨qF, rfl, hF⟩ : ∃ q : Nat, v42 = .slice (some ⟨q, 0, none⟩) 1 1 ∧ y.val.heap[q]? = some (.cells #[.int .i64 1, .int .i64 2] 34) := hd 42 (by kernel_rfl)
      clear hd hK
      go_wp2_with (go_at_call 12; (with_reducible refine Calls.mono (CLI.out y.val q1 q2 r1 q3 qF k1 k2 k3 k4 hF) ?_); rintro e _ ⟨rfl, ⟨z, rfl⟩⟩)
      exact HK.out _ _ rfl ⟨Cls.step y ⟨z, rfl⟩, ⟨z, rfl⟩⟩ rfl trivial
    simp only [Act.put, List.setIfInBounds_toArray, List.set_cons_zero, List.set_cons_succ] at hq
    subst hq
    refine inv_step (fun W hW hd K hK => ?_) (fun v44 aq hq => ?_)
    · obtain ⟨y, rfl⟩ := hW
      have ys := y.size
      have HK := Lib.hid hK
      obtain rfl : v35 = .bool true := hd 35 (by kernel_rfl)
      obtain rfl : v43 = .bool true := hd 43 (by kernel_rfl)
      clear hd hK
      go_wp2_with fail
      exact HK.out _ _ rfl ⟨⟨y, rfl⟩, ⟨⟨y.val, Below.refl _ _⟩, rfl⟩⟩ rfl trivial
    simp only [Act.put, List.setIfInBounds_toArray, List.set_cons_zero, List.set_cons_succ] at hq
    subst hq
    refine inv_step (fun W hW hd K hK => ?_) (fun v45 aq hq => ?_)
    · obtain ⟨y, rfl⟩ := hW
      have ys := y.size
      have HK := Lib.hid hK
      obtain rfl : v44 = .bool true := hd 44 (by kernel_rfl)
      clear hd hK
      go_wp2_with fail
      exact HK.out _ _ rfl ⟨⟨y, rfl⟩, ⟨⟨y.val, Below.refl _ _⟩, rfl⟩⟩ rfl trivial
    simp only [Act.put, List.setIfInBounds_toArray, List.set_cons_zero, List.set_cons_succ] at hq
    subst hq
    refine inv_nil fun W hW hT hR => ?_
    obtain ⟨y, rfl⟩ := hW
    have ys := y.size
    obtain rfl : v45 = .bool true := hT 45 (by decide)
    clear hT hR
    go_wp2_with fail
    go_ret
    exact ⟨rfl, y.on HB5.out (by omega)⟩
  · go_ret
    refine ⟨rfl, ?_⟩
    repeat first | with_reducible exact Below.refl _ _ | with_reducible refine Below.setCell ?_ (by first | omega | (simp; done) | (simp; omega)) _ | with_reducible refine Below.alloc ?_ (by first | omega | (simp; done) | (simp; omega)) _ | with_reducible refine Below.drew ?_ | with_reducible refine Ext.on _ ?_ (by first | omega | (simp; done) | (simp; omega))
end Go.Proofs.Ytilhhbjdcdediaa
