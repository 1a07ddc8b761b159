/-
  The law of proofs, walked.
-/
import Derived.Test.YtilhhbjdcdediaaL05
import Derived.WalkKit
set_option linter.unusedVariables false
namespace Go.Proofs.Ytilhhbjdcdediaa
open Go Go.RowKit Go.Deep
/-- The proof that halves a row. -/
def hfP (q : Nat) : Pf := .mk 2 ⟨some ⟨q, 0, none⟩, 1, 1⟩ (fun _ => 1) (fun _ => 2) 0 0 ⟨none, 0, 0⟩ []
set_option maxRecDepth 100000 in
theorem cp_lit (q1 q2 r q3 q : Nat) : cpB (litS q1 q2 r q3 5 2 3) (hfP q) = true := by kernel_rfl
theorem hf_at {W : World} {q : Nat} (h : W.heap[q]? = some (.cells #[.int .i64 1, .int .i64 2] 34)) : PfA W (hfP q) :=
  .mk _ (lit_frs h) (fun i hi => ⟨(by show In64 1; unfold In64; omega), (by show In64 2; unfold In64; omega)⟩) (by show In64 2; unfold In64; omega) (by show In64 0; unfold In64; omega) (by show In64 0; unfold In64; omega) rfl (Nat.le_refl _) (Nat.zero_le _) (.inl rfl) (fun i hi => absurd hi (Nat.not_lt_zero _))
theorem hlit_calls (W : World) (q1 q2 r q3 q : Nat) (h1 : IntAt W q1 5) (h2 : RowAt1 W q2 r) (h3 : IntAt W r 2) (h4 : IntAt W q3 3) (h5 : W.heap[q]? = some (.cells #[.int .i64 1, .int .i64 2] 34)) :
    Calls Try.prog 20 #[.agg #[.slice (some ⟨q1, 0, none⟩) 1 1, .slice (some ⟨q2, 0, none⟩) 1 1, .slice (some ⟨q3, 0, none⟩) 1 1], .agg #[.int .i64 2, .slice (some ⟨q, 0, none⟩) 1 1, .int .i64 0, .int .i64 0, .slice none 0 0]] W fun e w' => e = .returned (.bool true) ∧ Cls W w' := by
  have hs : SmallP 31 (hfP q) := ⟨(by show 0 ≤ 3; decide), (by show 1 ≤ 12; decide), fun i hi => absurd hi (Nat.not_lt_zero _)⟩
  have := iCheckProof_calls (hfP q) (litS q1 q2 r q3 5 2 3) W hs (hf_at h5) (lit_sys h1 h2 h3 h4) (by show 1 ≤ 15; decide)
  rw [cp_lit] at this
  exact this
set_option maxHeartbeats 8000000 in
set_option maxRecDepth 20000 in
theorem FewP_calls (p : Pf) (w : World) (h : PfA w p) : Calls Try.prog 19 #[p.val] w fun e w' => ∃ b, e = .returned (.bool b) ∧ (b = true → SmallP 31 p) ∧ Cls w w' := by
  have C1 := Lib.hid (fun (W : World) (hb : Below w.heap.size w W) => few_calls 31 p 0 W rfl (h.later hb))
  unfold Pf.val at *
  clear h
  generalize p.kind = pk at *
  generalize p.mu = mu at *
  generalize p.v = pv at *
  generalize p.bd = pb at *
  generalize p.ks = ks at *
  go_enter Try.func19, Try.ntmps19
  go_wp2_with (go_at_call 46; (with_reducible refine Calls.mono (C1.out _ ?_) ?_); (focus (repeat first | with_reducible exact Below.refl _ _ | with_reducible refine Below.setCell ?_ (by first | omega | (simp; done) | (simp; omega)) _ | with_reducible refine Below.alloc ?_ (by first | omega | (simp; done) | (simp; omega)) _ | with_reducible refine Below.drew ?_ | with_reducible refine Ext.on _ ?_ (by first | omega | (simp; done) | (simp; omega)))); rintro e _ ⟨fb, rfl, hfb, ⟨x, rfl⟩⟩; have HFB := Lib.hid hfb; clear hfb)
  go_ret
  refine ⟨fb, rfl, HFB.out, Cls.of ?_⟩
  repeat first | with_reducible exact Below.refl _ _ | with_reducible refine Below.setCell ?_ (by first | omega | (simp; done) | (simp; omega)) _ | with_reducible refine Below.alloc ?_ (by first | omega | (simp; done) | (simp; omega)) _ | with_reducible refine Below.drew ?_ | with_reducible refine Ext.on _ ?_ (by first | omega | (simp; done) | (simp; omega))
set_option maxHeartbeats 32000000 in
set_option maxRecDepth 20000 in
theorem integralProofs_walk (y : Sy) (p : Pf) (w : World) (h : SysA w y) (hp : PfA w p) :
    Calls Try.prog 6 #[y.v, p.val] w fun e w' => e = .returned (.bool true) ∧ Below w.heap.size w w' := by
  have C1 := Lib.hid (fun (W : World) (hb : Below w.heap.size w W) => Few_calls y W (h.later hb))
  have C2 := Lib.hid (fun (W : World) (hb : Below w.heap.size w W) => FewP_calls p W (hp.later hb))
  have E1 := Lib.hid (fun (hF : FewOk y) (hs : SmallP 31 p) (W : World) (hb : Below w.heap.size w W) => iCheckProof_calls p y W hs (hp.later hb) (h.later hb) (by have := hF.1; omega))
  have E2 := Lib.hid (fun (hF : FewOk y) (hs : SmallP 31 p) (W : World) (hb : Below w.heap.size w W) => rCheckProof_calls p y W hs (hp.later hb) (h.later hb) (by have := hF.1; omega))
  have E3 := Lib.hid (fun (hs : SmallP 31 p) (W : World) (hb : Below w.heap.size w W) => iSize_calls p W (hp.later hb) (by have := small_sz3 31 p hp hs; omega))
  have E4 := Lib.hid (fun (hs : SmallP 31 p) (W : World) (hb : Below w.heap.size w W) => rSize_calls p W (hp.later hb) (by have := small_sz3 31 p hp hs; omega))
  have CLI := Lib.hid hlit_calls
  clear h hp
  obtain ⟨SM, hSM⟩ : ∃ q : Prop, SmallP 31 p = q := ⟨_, rfl⟩
  rw [hSM] at C2 E1 E2 E3 E4
  clear hSM
  generalize cpB y p = cp at *
  generalize szP p = sp at *
  unfold Sy.v Pf.val at *
  generalize p.kind = pk at *
  generalize p.mu = mu at *
  generalize p.v = pv at *
  generalize p.bd = pb at *
  generalize p.ks = ks at *
  generalize y.U.a = ua at *
  generalize y.U.len = un at *
  generalize y.U.cap = uc at *
  generalize y.R.a = ra at *
  generalize y.R.len = rn at *
  generalize y.R.cap = rc at *
  generalize y.B.a = ba at *
  generalize y.B.len = bn at *
  generalize y.B.cap = bc at *
  go_enter Try.func6, Try.ntmps6
  go_wp2_with (first
  | (go_at_call 16; (with_reducible refine Calls.mono (C1.out _ ?_) ?_); (focus (repeat first | with_reducible exact Below.refl _ _ | with_reducible refine Below.setCell ?_ (by first | omega | (simp; done) | (simp; omega)) _ | with_reducible refine Below.alloc ?_ (by first | omega | (simp; done) | (simp; omega)) _ | with_reducible refine Below.drew ?_ | with_reducible refine Ext.on _ ?_ (by first | omega | (simp; done) | (simp; omega)))); rintro e _ ⟨fb, rfl, hfb, ⟨x, rfl⟩⟩; have xs := x.size; (try simp at xs); have HFB := Lib.hid hfb; clear hfb; obtain ⟨hx1, p0, p1, p2, p3, p4⟩ := five_s ((x.below.block _ (by simp)).trans (heap_two1 w (.cells #[.slice ua un uc, .slice ra rn rc, .slice ba bn bc] 30) (.cells #[.int .i64 pk, .slice mu.a mu.len mu.cap, .int .i64 pv, .int .i64 pb, .slice ks.a ks.len ks.cap] 48))))
  | (go_at_call 19; (with_reducible refine Calls.mono (C2.out _ ?_) ?_); (focus (repeat first | with_reducible exact Below.refl _ _ | with_reducible refine Below.setCell ?_ (by first | omega | (simp; done) | (simp; omega)) _ | with_reducible refine Below.alloc ?_ (by first | omega | (simp; done) | (simp; omega)) _ | with_reducible refine Below.drew ?_ | with_reducible refine Ext.on _ ?_ (by first | omega | (simp; done) | (simp; omega)))); rintro e _ ⟨fp, rfl, hfp, ⟨x2, rfl⟩⟩; have x2s := x2.size; have HFP := Lib.hid hfp; clear hfp))
  · go_ret
    refine ⟨rfl, ?_⟩
    repeat first | with_reducible exact Below.refl _ _ | with_reducible refine Below.setCell ?_ (by first | omega | (simp; done) | (simp; omega)) _ | with_reducible refine Below.alloc ?_ (by first | omega | (simp; done) | (simp; omega)) _ | with_reducible refine Below.drew ?_ | with_reducible refine Ext.on _ ?_ (by first | omega | (simp; done) | (simp; omega))
  · have HF := HFB.out (by assumption)
    have HS := HFP.out (by simp_all)
    obtain rfl : fb = true := by assumption
    obtain rfl : fp = true := by simp_all
    have D1 := Lib.hid (E1.out HF HS)
    have D2 := Lib.hid (E2.out HF HS)
    have D3 := Lib.hid (E3.out HS)
    have D4 := Lib.hid (E4.out HS)
    obtain ⟨Q, hQ⟩ : ∃ Q, x2.val.heap.size = Q := ⟨_, rfl⟩
    refine wp_at (fun W => Below w.heap.size w W ∧ W.heap[w.heap.size]? = some (.cells #[.slice ua un uc, .slice ra rn rc, .slice ba bn bc] 30) ∧ W.heap[w.heap.size + 1]? = some (.cells #[.int .i64 pk, .slice mu.a mu.len mu.cap, .int .i64 pv, .int .i64 pb, .slice ks.a ks.len ks.cap] 48) ∧ W.heap[x2.val.heap.size]? = some (.cells #[.int .i64 1, .int .i64 2] 34) ∧ W.heap[x2.val.heap.size + 1]? = some (.cells #[.int .i64 2, .slice (some ⟨x2.val.heap.size, 0, none⟩) 1 1, .int .i64 0, .int .i64 0, .slice none 0 0] 48)) ⟨(by repeat first | with_reducible exact Below.refl _ _ | with_reducible refine Below.setCell ?_ (by first | omega | (simp; done) | (simp; omega)) _ | with_reducible refine Below.alloc ?_ (by first | omega | (simp; done) | (simp; omega)) _ | with_reducible refine Below.drew ?_ | with_reducible refine Ext.on _ ?_ (by first | omega | (simp; done) | (simp; omega))), ?_, ?_, heap_two0 x2.val _ _, heap_two1 x2.val _ _⟩ ?_
    · rw [Below.heap_alloc _ _ _ (by simp; omega), Below.heap_alloc _ _ _ (by omega), x2.below.block _ (by omega), x.below.block _ (by simp; omega)]
      exact heap_two0 w _ _
    · rw [Below.heap_alloc _ _ _ (by simp; omega), Below.heap_alloc _ _ _ (by omega), x2.below.block _ (by omega), x.below.block _ (by simp)]
      exact heap_two1 w _ _
    rw [hQ]
    clear hx1 p0 p1 p2 p3 p4 xs x2s C1 C2 E1 E2 E3 E4 HFB HFP HF HS hQ
    rintro W5 ⟨hB5, hs5, hf5, hq5, hh5⟩
    have HB5 := Lib.hid hB5
    have HFQ := Lib.hid hq5
    have hB5s := hB5.size
    obtain ⟨hx0, c0, c1, c2⟩ := three_s hs5
    obtain ⟨hx1, p0, p1, p2, p3, p4⟩ := five_s hf5
    obtain ⟨hx2, g0, g1, g2, g3, g4⟩ := five_s hh5
    clear hB5 hs5 hf5 hq5 hh5
    refine wp_region_inv (x := (⟨W5, Below.refl _ _⟩ : Ext W5)) (fun j u W => match j with
  | 0 => u = .agg #[.slice ua un uc, .slice ra rn rc, .slice ba bn bc]
  | 1 => u = .agg #[.int .i64 pk, .slice mu.a mu.len mu.cap, .int .i64 pv, .int .i64 pb, .slice ks.a ks.len ks.cap]
  | 2 => u = .bool cp
  | 3 => u = .agg #[.slice ua un uc, .slice ra rn rc, .slice ba bn bc]
  | 4 => u = .agg #[.int .i64 pk, .slice mu.a mu.len mu.cap, .int .i64 pv, .int .i64 pb, .slice ks.a ks.len ks.cap]
  | 5 => u = .bool cp
  | 6 => u = .bool true
  | 7 => u = .bool true
  | 8 => u = .agg #[.int .i64 pk, .slice mu.a mu.len mu.cap, .int .i64 pv, .int .i64 pb, .slice ks.a ks.len ks.cap]
  | 9 => u = .int .i64 (sp : Int)
  | 10 => u = .agg #[.int .i64 pk, .slice mu.a mu.len mu.cap, .int .i64 pv, .int .i64 pb, .slice ks.a ks.len ks.cap]
  | 11 => u = .int .i64 (sp : Int)
  | 12 => u = .bool true
  | 13 => u = .bool true
  | 14 => u = .bool true
  | 15 => ∃ q : Nat, u = .slice (some ⟨q, 0, none⟩) 1 1 ∧ IntAt W q 5
  | 16 => ∃ q : Nat, u = .slice (some ⟨q, 0, none⟩) 1 1 ∧ IntAt W q 2
  | 17 => ∃ q r : Nat, u = .slice (some ⟨q, 0, none⟩) 1 1 ∧ RowAt1 W q r ∧ IntAt W r 2
  | 18 => ∃ q : Nat, u = .slice (some ⟨q, 0, none⟩) 1 1 ∧ IntAt W q 3
  | 19 => ∃ q1 q2 r q3 : Nat, u = .agg #[.slice (some ⟨q1, 0, none⟩) 1 1, .slice (some ⟨q2, 0, none⟩) 1 1, .slice (some ⟨q3, 0, none⟩) 1 1] ∧ IntAt W q1 5 ∧ RowAt1 W q2 r ∧ IntAt W r 2 ∧ IntAt W q3 3
  | 20 => u = .agg #[.int .i64 2, .slice (some ⟨Q, 0, none⟩) 1 1, .int .i64 0, .int .i64 0, .slice none 0 0]
  | 21 => u = .bool true
  | 22 => u = .bool true
  | 23 => u = .bool true
  | _ => True) 40 (by kernel_rfl) rfl (by kernel_rfl) (fun j u W1 W2 hcc => by
  match j with
  | 0 => exact id
  | 1 => exact id
  | 2 => exact id
  | 3 => exact id
  | 4 => exact id
  | 5 => exact id
  | 6 => exact id
  | 7 => exact id
  | 8 => exact id
  | 9 => exact id
  | 10 => exact id
  | 11 => exact id
  | 12 => exact id
  | 13 => exact id
  | 14 => exact id
  | 15 => rintro ⟨q, h1, h2⟩; exact ⟨q, h1, h2.later hcc.below⟩
  | 16 => rintro ⟨q, h1, h2⟩; exact ⟨q, h1, h2.later hcc.below⟩
  | 17 => rintro ⟨q, r, h1, h2, h3⟩; exact ⟨q, r, h1, h2.later hcc.below, h3.later hcc.below⟩
  | 18 => rintro ⟨q, h1, h2⟩; exact ⟨q, h1, h2.later hcc.below⟩
  | 19 => rintro ⟨q1, q2, r, q3, h1, h2, h3, h4, h5⟩; exact ⟨q1, q2, r, q3, h1, h2.later hcc.below, h3.later hcc.below, h4.later hcc.below, h5.later hcc.below⟩
  | 20 => exact id
  | 21 => exact id
  | 22 => exact id
  | 23 => exact id
  | _ + 24 => exact id) ?_
    refine inv_step (fun W hW hd K hK => ?_) (fun v0 aq hq => ?_)
    · obtain ⟨y, rfl⟩ := hW
      have ys := y.size
      have HK := Lib.hid hK
      clear hd hK
      go_wp2_with fail
      exact HK.out _ _ rfl ⟨⟨y, rfl⟩, ⟨⟨y.val, Below.refl _ _⟩, rfl⟩⟩ rfl trivial
    simp only [Act.put, List.setIfInBounds_toArray, List.set_cons_zero, List.set_cons_succ] at hq
    subst hq
    refine inv_step (fun W hW hd K hK => ?_) (fun v1 aq hq => ?_)
    · obtain ⟨y, rfl⟩ := hW
      have ys := y.size
      have HK := Lib.hid hK
      clear hd hK
      go_wp2_with fail
      exact HK.out _ _ rfl ⟨⟨y, rfl⟩, ⟨⟨y.val, Below.refl _ _⟩, rfl⟩⟩ rfl trivial
    simp only [Act.put, List.setIfInBounds_toArray, List.set_cons_zero, List.set_cons_succ] at hq
    subst hq
    refine inv_step (fun W hW hd K hK => ?_) (fun v2 aq hq => ?_)
    · obtain ⟨y, rfl⟩ := hW
      have ys := y.size
      have HK := Lib.hid hK
      obtain rfl : v0 = .agg #[.slice ua un uc, .slice ra rn rc, .slice ba bn bc] := hd 0 (by kernel_rfl)
      obtain rfl : v1 = .agg #[.int .i64 pk, .slice mu.a mu.len mu.cap, .int .i64 pv, .int .i64 pb, .slice ks.a ks.len ks.cap] := hd 1 (by kernel_rfl)
      clear hd hK
      go_wp2_with (go_at_call 20; (with_reducible refine Calls.mono (D1.out y.val (y.on HB5.out (by omega))) ?_); rintro e _ ⟨rfl, ⟨z, rfl⟩⟩)
      exact HK.out _ _ rfl ⟨Cls.step y ⟨z, rfl⟩, ⟨z, rfl⟩⟩ rfl trivial
    simp only [Act.put, List.setIfInBounds_toArray, List.set_cons_zero, List.set_cons_succ] at hq
    subst hq
    refine inv_step (fun W hW hd K hK => ?_) (fun v3 aq hq => ?_)
    · obtain ⟨y, rfl⟩ := hW
      have ys := y.size
      have HK := Lib.hid hK
      clear hd hK
      go_wp2_with fail
      exact HK.out _ _ rfl ⟨⟨y, rfl⟩, ⟨⟨y.val, Below.refl _ _⟩, rfl⟩⟩ rfl trivial
    simp only [Act.put, List.setIfInBounds_toArray, List.set_cons_zero, List.set_cons_succ] at hq
    subst hq
    refine inv_step (fun W hW hd K hK => ?_) (fun v4 aq hq => ?_)
    · obtain ⟨y, rfl⟩ := hW
      have ys := y.size
      have HK := Lib.hid hK
      clear hd hK
      go_wp2_with fail
      exact HK.out _ _ rfl ⟨⟨y, rfl⟩, ⟨⟨y.val, Below.refl _ _⟩, rfl⟩⟩ rfl trivial
    simp only [Act.put, List.setIfInBounds_toArray, List.set_cons_zero, List.set_cons_succ] at hq
    subst hq
    refine inv_step (fun W hW hd K hK => ?_) (fun v5 aq hq => ?_)
    · obtain ⟨y, rfl⟩ := hW
      have ys := y.size
      have HK := Lib.hid hK
      obtain rfl : v3 = .agg #[.slice ua un uc, .slice ra rn rc, .slice ba bn bc] := hd 3 (by kernel_rfl)
      obtain rfl : v4 = .agg #[.int .i64 pk, .slice mu.a mu.len mu.cap, .int .i64 pv, .int .i64 pb, .slice ks.a ks.len ks.cap] := hd 4 (by kernel_rfl)
      clear hd hK
      go_wp2_with (go_at_call 21; (with_reducible refine Calls.mono (D2.out y.val (y.on HB5.out (by omega))) ?_); rintro e _ ⟨rfl, ⟨z, rfl⟩⟩)
      exact HK.out _ _ rfl ⟨Cls.step y ⟨z, rfl⟩, ⟨z, rfl⟩⟩ rfl trivial
    simp only [Act.put, List.setIfInBounds_toArray, List.set_cons_zero, List.set_cons_succ] at hq
    subst hq
    refine inv_step (fun W hW hd K hK => ?_) (fun v6 aq hq => ?_)
    · obtain ⟨y, rfl⟩ := hW
      have ys := y.size
      have HK := Lib.hid hK
      obtain rfl : v2 = .bool cp := hd 2 (by kernel_rfl)
      obtain rfl : v5 = .bool cp := hd 5 (by kernel_rfl)
      clear hd hK
      go_wp2_with fail
      exact HK.out _ _ rfl ⟨⟨y, rfl⟩, ⟨⟨y.val, Below.refl _ _⟩, rfl⟩⟩ rfl trivial
    simp only [Act.put, List.setIfInBounds_toArray, List.set_cons_zero, List.set_cons_succ] at hq
    subst hq
    refine inv_step (fun W hW hd K hK => ?_) (fun v7 aq hq => ?_)
    · obtain ⟨y, rfl⟩ := hW
      have ys := y.size
      have HK := Lib.hid hK
      obtain rfl : v6 = .bool true := hd 6 (by kernel_rfl)
      clear hd hK
      go_wp2_with fail
      exact HK.out _ _ rfl ⟨⟨y, rfl⟩, ⟨⟨y.val, Below.refl _ _⟩, rfl⟩⟩ rfl trivial
    simp only [Act.put, List.setIfInBounds_toArray, List.set_cons_zero, List.set_cons_succ] at hq
    subst hq
    refine inv_step (fun W hW hd K hK => ?_) (fun v8 aq hq => ?_)
    · obtain ⟨y, rfl⟩ := hW
      have ys := y.size
      have HK := Lib.hid hK
      obtain rfl : v7 = .bool true := hd 7 (by kernel_rfl)
      clear hd hK
      go_wp2_with fail
      exact HK.out _ _ rfl ⟨⟨y, rfl⟩, ⟨⟨y.val, Below.refl _ _⟩, rfl⟩⟩ rfl trivial
    simp only [Act.put, List.setIfInBounds_toArray, List.set_cons_zero, List.set_cons_succ] at hq
    subst hq
    refine inv_step (fun W hW hd K hK => ?_) (fun v9 aq hq => ?_)
    · obtain ⟨y, rfl⟩ := hW
      have ys := y.size
      have HK := Lib.hid hK
      obtain rfl : v7 = .bool true := hd 7 (by kernel_rfl)
      obtain rfl : v8 = .agg #[.int .i64 pk, .slice mu.a mu.len mu.cap, .int .i64 pv, .int .i64 pb, .slice ks.a ks.len ks.cap] := hd 8 (by kernel_rfl)
      clear hd hK
      go_wp2_with (go_at_call 22; (with_reducible refine Calls.mono (D3.out y.val (y.on HB5.out (by omega))) ?_); rintro e _ ⟨rfl, ⟨z, rfl⟩⟩)
      exact HK.out _ _ rfl ⟨Cls.step y ⟨z, rfl⟩, ⟨z, rfl⟩⟩ rfl trivial
    simp only [Act.put, List.setIfInBounds_toArray, List.set_cons_zero, List.set_cons_succ] at hq
    subst hq
    refine inv_step (fun W hW hd K hK => ?_) (fun v10 aq hq => ?_)
    · obtain ⟨y, rfl⟩ := hW
      have ys := y.size
      have HK := Lib.hid hK
      obtain rfl : v7 = .bool true := hd 7 (by kernel_rfl)
      clear hd hK
      go_wp2_with fail
      exact HK.out _ _ rfl ⟨⟨y, rfl⟩, ⟨⟨y.val, Below.refl _ _⟩, rfl⟩⟩ rfl trivial
    simp only [Act.put, List.setIfInBounds_toArray, List.set_cons_zero, List.set_cons_succ] at hq
    subst hq
    refine inv_step (fun W hW hd K hK => ?_) (fun v11 aq hq => ?_)
    · obtain ⟨y, rfl⟩ := hW
      have ys := y.size
      have HK := Lib.hid hK
      obtain rfl : v7 = .bool true := hd 7 (by kernel_rfl)
      obtain rfl : v10 = .agg #[.int .i64 pk, .slice mu.a mu.len mu.cap, .int .i64 pv, .int .i64 pb, .slice ks.a ks.len ks.cap] := hd 10 (by kernel_rfl)
      clear hd hK
      go_wp2_with (go_at_call 23; (with_reducible refine Calls.mono (D4.out y.val (y.on HB5.out (by omega))) ?_); rintro e _ ⟨rfl, ⟨z, rfl⟩⟩)
      exact HK.out _ _ rfl ⟨Cls.step y ⟨z, rfl⟩, ⟨z, rfl⟩⟩ rfl trivial
    simp only [Act.put, List.setIfInBounds_toArray, List.set_cons_zero, List.set_cons_succ] at hq
    subst hq
    refine inv_step (fun W hW hd K hK => ?_) (fun v12 aq hq => ?_)
    · obtain ⟨y, rfl⟩ := hW
      have ys := y.size
      have HK := Lib.hid hK
      obtain rfl : v7 = .bool true := hd 7 (by kernel_rfl)
      obtain rfl : v9 = .int .i64 (sp : Int) := hd 9 (by kernel_rfl)
      obtain rfl : v11 = .int .i64 (sp : Int) := hd 11 (by kernel_rfl)
      clear hd hK
      go_wp2_with fail
      exact HK.out _ _ rfl ⟨⟨y, rfl⟩, ⟨⟨y.val, Below.refl _ _⟩, rfl⟩⟩ rfl trivial
    simp only [Act.put, List.setIfInBounds_toArray, List.set_cons_zero, List.set_cons_succ] at hq
    subst hq
    refine inv_step (fun W hW hd K hK => ?_) (fun v13 aq hq => ?_)
    · obtain ⟨y, rfl⟩ := hW
      have ys := y.size
      have HK := Lib.hid hK
      obtain rfl : v7 = .bool true := hd 7 (by kernel_rfl)
      obtain rfl : v12 = .bool true := hd 12 (by kernel_rfl)
      clear hd hK
      go_wp2_with fail
      exact HK.out _ _ rfl ⟨⟨y, rfl⟩, ⟨⟨y.val, Below.refl _ _⟩, rfl⟩⟩ rfl trivial
    simp only [Act.put, List.setIfInBounds_toArray, List.set_cons_zero, List.set_cons_succ] at hq
    subst hq
    refine inv_step (fun W hW hd K hK => ?_) (fun v14 aq hq => ?_)
    · obtain ⟨y, rfl⟩ := hW
      have ys := y.size
      have HK := Lib.hid hK
      obtain rfl : v13 = .bool true := hd 13 (by kernel_rfl)
      clear hd hK
      go_wp2_with fail
      exact HK.out _ _ rfl ⟨⟨y, rfl⟩, ⟨⟨y.val, Below.refl _ _⟩, rfl⟩⟩ rfl trivial
    simp only [Act.put, List.setIfInBounds_toArray, List.set_cons_zero, List.set_cons_succ] at hq
    subst hq
    refine inv_step (fun W hW hd K hK => ?_) (fun v15 aq hq => ?_)
    · obtain ⟨y, rfl⟩ := hW
      have ys := y.size
      have HK := Lib.hid hK
      obtain rfl : v14 = .bool true := hd 14 (by kernel_rfl)
      clear hd hK
      go_wp2_with fail
      exact HK.out _ _ rfl ⟨Cls.step y (Cls.of ((Below.refl _ _).alloc (Nat.le_refl _) _)), Cls.of ((Below.refl _ _).alloc (Nat.le_refl _) _)⟩ ⟨y.val.heap.size, rfl, heap_alloc_new _ _⟩ trivial
    simp only [Act.put, List.setIfInBounds_toArray, List.set_cons_zero, List.set_cons_succ] at hq
    subst hq
    refine inv_step (fun W hW hd K hK => ?_) (fun v16 aq hq => ?_)
    · obtain ⟨y, rfl⟩ := hW
      have ys := y.size
      have HK := Lib.hid hK
      obtain rfl : v14 = .bool true := hd 14 (by kernel_rfl)
      clear hd hK
      go_wp2_with fail
      exact HK.out _ _ rfl ⟨Cls.step y (Cls.of ((Below.refl _ _).alloc (Nat.le_refl _) _)), Cls.of ((Below.refl _ _).alloc (Nat.le_refl _) _)⟩ ⟨y.val.heap.size, rfl, heap_alloc_new _ _⟩ trivial
    simp only [Act.put, List.setIfInBounds_toArray, List.set_cons_zero, List.set_cons_succ] at hq
    subst hq
    refine inv_step (fun W hW hd K hK => ?_) (fun v17 aq hq => ?_)
    · obtain ⟨y, rfl⟩ := hW
      have ys := y.size
      have HK := Lib.hid hK
      obtain rfl : v14 = .bool true := hd 14 (by kernel_rfl)
      obtain ⟨q9, rfl, h9⟩ : ∃ q : Nat, v16 = .slice (some ⟨q, 0, none⟩) 1 1 ∧ IntAt y.val q 2 := hd 16 (by kernel_rfl)
      clear hd hK
      go_wp2_with fail
      exact HK.out _ _ rfl ⟨Cls.step y (Cls.of ((Below.refl _ _).alloc (Nat.le_refl _) _)), Cls.of ((Below.refl _ _).alloc (Nat.le_refl _) _)⟩ ⟨y.val.heap.size, q9, rfl, heap_alloc_new _ _, h9.later ((Below.refl _ _).alloc (Nat.le_refl _) _)⟩ trivial
    simp only [Act.put, List.setIfInBounds_toArray, List.set_cons_zero, List.set_cons_succ] at hq
    subst hq
    refine inv_step (fun W hW hd K hK => ?_) (fun v18 aq hq => ?_)
    · obtain ⟨y, rfl⟩ := hW
      have ys := y.size
      have HK := Lib.hid hK
      obtain rfl : v14 = .bool true := hd 14 (by kernel_rfl)
      clear hd hK
      go_wp2_with fail
      exact HK.out _ _ rfl ⟨Cls.step y (Cls.of ((Below.refl _ _).alloc (Nat.le_refl _) _)), Cls.of ((Below.refl _ _).alloc (Nat.le_refl _) _)⟩ ⟨y.val.heap.size, rfl, heap_alloc_new _ _⟩ trivial
    simp only [Act.put, List.setIfInBounds_toArray, List.set_cons_zero, List.set_cons_succ] at hq
    subst hq
    refine inv_step (fun W hW hd K hK => ?_) (fun v19 aq hq => ?_)
    · obtain ⟨y, rfl⟩ := hW
      have ys := y.size
      have HK := Lib.hid hK
      obtain rfl : v14 = .bool true := hd 14 (by kernel_rfl)
      obtain ⟨qA, rfl, hA⟩ : ∃ q : Nat, v15 = .slice (some ⟨q, 0, none⟩) 1 1 ∧ IntAt y.val q 5 := hd 15 (by kernel_rfl)
      obtain ⟨qR, rR, rfl, hR1, hR2⟩ : ∃ q r : Nat, v17 = .slice (some ⟨q, 0, none⟩) 1 1 ∧ RowAt1 y.val q r ∧ IntAt y.val r 2 := hd 17 (by kernel_rfl)
      obtain ⟨qC, rfl, hC⟩ : ∃ q : Nat, v18 = .slice (some ⟨q, 0, none⟩) 1 1 ∧ IntAt y.val q 3 := hd 18 (by kernel_rfl)
      clear hd hK
      go_wp2_with fail
      exact HK.out _ _ rfl ⟨⟨y, rfl⟩, ⟨⟨y.val, Below.refl _ _⟩, rfl⟩⟩ ⟨qA, qR, rR, qC, rfl, hA, hR1, hR2, hC⟩ trivial
    simp only [Act.put, List.setIfInBounds_toArray, List.set_cons_zero, List.set_cons_succ] at hq
    subst hq
    refine inv_step (fun W hW hd K hK => ?_) (fun v20 aq hq => ?_)
    · obtain ⟨y, rfl⟩ := hW
      have ys := y.size
      have HK := Lib.hid hK
      obtain rfl : v14 = .bool true := hd 14 (by kernel_rfl)
      clear hd hK
      go_wp2_with fail
      exact HK.out _ _ rfl ⟨⟨y, rfl⟩, ⟨⟨y.val, Below.refl _ _⟩, rfl⟩⟩ rfl trivial
    simp only [Act.put, List.setIfInBounds_toArray, List.set_cons_zero, List.set_cons_succ] at hq
    subst hq
    refine inv_step (fun W hW hd K hK => ?_) (fun v21 aq hq => ?_)
    · obtain ⟨y, rfl⟩ := hW
      have ys := y.size
      have HK := Lib.hid hK
      obtain rfl : v14 = .bool true := hd 14 (by kernel_rfl)
      obtain ⟨q1, q2, r1, q3, rfl, k1, k2, k3, k4⟩ : ∃ q1 q2 r q3 : Nat, v19 = .agg #[.slice (some ⟨q1, 0, none⟩) 1 1, .slice (some ⟨q2, 0, none⟩) 1 1, .slice (some ⟨q3, 0, none⟩) 1 1] ∧ IntAt y.val q1 5 ∧ RowAt1 y.val q2 r ∧ IntAt y.val r 2 ∧ IntAt y.val q3 3 := hd 19 (by kernel_rfl)
      obtain rfl : v20 = .agg #[.int .i64 2, .slice (some ⟨Q, 0, none⟩) 1 1, .int .i64 0, .int .i64 0, .slice none 0 0] := hd 20 (by kernel_rfl)
      clear hd hK
      go_wp2_with (go_at_call 20; (with_reducible refine Calls.mono (CLI.out y.val q1 q2 r1 q3 Q k1 k2 k3 k4 (at_later HFQ.out y.below)) ?_); rintro e _ ⟨rfl, ⟨z, rfl⟩⟩)
      exact HK.out _ _ rfl ⟨Cls.step y ⟨z, rfl⟩, ⟨z, rfl⟩⟩ rfl trivial
    simp only [Act.put, List.setIfInBounds_toArray, List.set_cons_zero, List.set_cons_succ] at hq
    subst hq
    refine inv_step (fun W hW hd K hK => ?_) (fun v22 aq hq => ?_)
    · obtain ⟨y, rfl⟩ := hW
      have ys := y.size
      have HK := Lib.hid hK
      obtain rfl : v14 = .bool true := hd 14 (by kernel_rfl)
      obtain rfl : v21 = .bool true := hd 21 (by kernel_rfl)
      clear hd hK
      go_wp2_with fail
      exact HK.out _ _ rfl ⟨⟨y, rfl⟩, ⟨⟨y.val, Below.refl _ _⟩, rfl⟩⟩ rfl trivial
    simp only [Act.put, List.setIfInBounds_toArray, List.set_cons_zero, List.set_cons_succ] at hq
    subst hq
    refine inv_step (fun W hW hd K hK => ?_) (fun v23 aq hq => ?_)
    · obtain ⟨y, rfl⟩ := hW
      have ys := y.size
      have HK := Lib.hid hK
      obtain rfl : v22 = .bool true := hd 22 (by kernel_rfl)
      clear hd hK
      go_wp2_with fail
      exact HK.out _ _ rfl ⟨⟨y, rfl⟩, ⟨⟨y.val, Below.refl _ _⟩, rfl⟩⟩ rfl trivial
    simp only [Act.put, List.setIfInBounds_toArray, List.set_cons_zero, List.set_cons_succ] at hq
    subst hq
    refine inv_nil fun W hW hT hR => ?_
    obtain ⟨y, rfl⟩ := hW
    have ys := y.size
    obtain rfl : v23 = .bool true := hT 23 (by decide)
    clear hT hR
    go_wp2_with fail
    go_ret
    exact ⟨rfl, y.on HB5.out (by omega)⟩
  · go_ret
    refine ⟨rfl, ?_⟩
    repeat first | with_reducible exact Below.refl _ _ | with_reducible refine Below.setCell ?_ (by first | omega | (simp; done) | (simp; omega)) _ | with_reducible refine Below.alloc ?_ (by first | omega | (simp; done) | (simp; omega)) _ | with_reducible refine Below.drew ?_ | with_reducible refine Ext.on _ ?_ (by first | omega | (simp; done) | (simp; omega))
end Go.Proofs.Ytilhhbjdcdediaa
