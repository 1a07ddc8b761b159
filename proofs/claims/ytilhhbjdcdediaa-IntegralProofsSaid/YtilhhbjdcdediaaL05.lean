/-
  The program's and the reference's CheckProof.
-/
import Derived.Test.YtilhhbjdcdediaaL03
import Derived.Test.YtilhhbjdcdediaaL04
set_option linter.unusedVariables false
namespace Go.Proofs.Ytilhhbjdcdediaa
open Go Go.RowKit Go.Deep
theorem small_sz3 {w : World} : ∀ (n : Nat) (p : Pf), PfA w p → SmallP n p → 2 * szP p + 1 ≤ 3 ^ n
  | 0, _, _, h => h.elim
  | n + 1, p, hp, h => by
    obtain ⟨h1, h2, h3⟩ := h
    have hl := hp.lens.1
    have k1 : ∀ i, i < p.kids.length → szP (p.kids.getD i Pf.z) ≤ (3 ^ n - 1) / 2 := fun i hi => by have := small_sz3 n _ (hp.kid (by omega)) (h3 i (by omega)); omega
    have a1 := szL_le p.kids k1
    have e1 : szP p = 1 + szL p.kids := by cases p; rfl
    have hpos : 1 ≤ 3 ^ n := by have := Nat.pow_le_pow_left (show 1 ≤ 3 by decide) n; rwa [Nat.one_pow] at this
    have h5 : p.kids.length * ((3 ^ n - 1) / 2) ≤ 3 * ((3 ^ n - 1) / 2) := Nat.mul_le_mul_right _ (by omega)
    rw [Nat.pow_succ]
    generalize 3 ^ n = t at *
    omega
theorem zeros_ints {W : World} {b n : Nat} (h : W.heap[b]? = some (.cells (madeCells #[.int .i64 0] n) 2)) (hn : n ≤ 1000) : IntsA W ⟨some ⟨b, 0, none⟩, n, n⟩ (fun _ => 0) :=
  ⟨Nat.le_refl _, by show n ≤ maxLen; unfold maxLen; omega, .inr ⟨b, 0, rfl, (Array.getElem?_eq_some_iff.1 h).1, fun i hi => by
    have hi' : i < n := hi
    rw [cell_of_row _ _ _ _ _ _ h, Nat.zero_add]
    simp [madeCells, hi', Nat.mod_one]⟩⟩
set_option maxHeartbeats 8000000 in
set_option maxRecDepth 20000 in
theorem root_calls (y : Sy) (w : World) (h : SysA w y) (hun : y.U.len ≤ 1000) :
    Calls Try.prog 49 #[y.v] w fun e w' => ∃ b : Nat, e = .returned (.agg #[.slice (some ⟨b, 0, none⟩) y.U.len y.U.len, .slice y.U.a y.U.len y.U.cap, .int .i64 1]) ∧ IntsA w' ⟨some ⟨b, 0, none⟩, y.U.len, y.U.len⟩ (fun _ => 0) ∧ Cls w w' := by
  have um := h.U.2.1
  have ul := h.U.1
  unfold maxLen at um
  have hmk := make_ints y.U.len (by omega)
  unfold Sy.v
  clear h
  generalize y.U.a = ua at *
  generalize y.U.len = un at *
  generalize y.U.cap = uc at *
  generalize y.R.a = ra at *
  generalize y.R.len = rn at *
  generalize y.R.cap = rc at *
  generalize y.B.a = ba at *
  generalize y.B.len = bn at *
  generalize y.B.cap = bc at *
  go_enter Try.func49, Try.ntmps49
  go_wp2_with fail
  go_region
  all_goals
    go_wp2_with fail
    obtain ⟨t0, t1, t2⟩ := three_at w (.cells #[.slice ua un uc, .slice ra rn rc, .slice ba bn bc] 30) (.cells #[.slice (some ⟨w.heap.size + 1 + 1, 0, none⟩) un un, .slice ua un uc, .int .i64 1] 88) (.cells (madeCells #[.int .i64 0] un) 2)
    refine ret_ex rfl ⟨.agg #[.slice (some ⟨w.heap.size + 1 + 1, 0, none⟩) un un, .slice ua un uc, .int .i64 1], by simp [results, Try.results49, go_sem], ⟨w.heap.size + 1 + 1, rfl, zeros_ints t2 hun, Cls.of ?_⟩⟩
    repeat first | with_reducible exact Below.refl _ _ | with_reducible refine Below.setCell ?_ (by first | omega | (simp; done) | (simp; omega)) _ | with_reducible refine Below.alloc ?_ (by first | omega | (simp; done) | (simp; omega)) _ | with_reducible refine Below.drew ?_ | with_reducible refine Ext.on _ ?_ (by first | omega | (simp; done) | (simp; omega))
/-- Whether a proof is right for a system. -/
def cpB (y : Sy) (p : Pf) : Bool := (vaS y == 0) && (decide (szP p ≤ 2000) && rtP y p (fun _ => 0) y.up)
set_option maxHeartbeats 32000000 in
set_option maxRecDepth 20000 in
theorem iCheckProof_calls (p : Pf) (y : Sy) (w : World) (hs : SmallP 31 p) (h : PfA w p) (hy : SysA w y) (hun : y.U.len ≤ 15) :
    Calls Try.prog 20 #[y.v, p.val] w fun e w' => e = .returned (.bool (cpB y p)) ∧ Cls w w' := by
  have hz := small_sz3 31 p h hs
  have CV := Lib.hid (fun (W : World) (hb : Below w.heap.size w W) => lValid_calls y W (hy.later hb))
  have CC := Lib.hid (fun (W : World) (hb : Below w.heap.size w W) => count_calls p 2000 W (h.later hb) (by omega))
  have CRT := Lib.hid (fun (W : World) (hb : Below w.heap.size w W) => root_calls y W (hy.later hb) (by omega))
  have CR := Lib.hid (fun (W : World) (b : Nat) (hb : Below w.heap.size w W) (hh : IntsA W ⟨some ⟨b, 0, none⟩, y.U.len, y.U.len⟩ (fun _ => 0)) => iRight_calls 31 p y (some ⟨b, 0, none⟩) y.U.len (fun _ => 0) y.U.a y.U.cap y.up 1 W hs (h.later hb) (hy.later hb) hh (hy.U.later hb) hun (by omega) (by omega))
  obtain ⟨n1, n2, n3, n4⟩ := cnP_of 2000 0 p
  rw [Nat.zero_add] at n1 n2 n3
  unfold cpB
  generalize rtP y p (fun _ => 0) y.up = rt at *
  generalize szP p = sp at *
  generalize cnP 2000 0 p = cn at *
  unfold Sy.v Pf.val at *
  clear h hy hs hz
  generalize p.kind = pk at *
  generalize p.mu = mu at *
  generalize p.v = pv at *
  generalize p.bd = pb at *
  generalize p.ks = ks at *
  by_cases hv : vaS y = 0
  case neg =>
    have e0 : (vaS y == 0) = false := by simpa using hv
    rw [e0]
    clear CC CRT CR
    generalize vaS y = va at *
    generalize y.U.a = ua at *
    generalize y.U.len = un at *
    generalize y.U.cap = uc at *
    generalize y.R.a = ra at *
    generalize y.R.len = rn at *
    generalize y.R.cap = rc at *
    generalize y.B.a = ba at *
    generalize y.B.len = bn at *
    generalize y.B.cap = bc at *
    go_enter Try.func20, Try.ntmps20
    go_wp2_with fail
    refine wp_at (fun W => Below w.heap.size w W ∧ W.heap[w.heap.size]? = some (.cells #[.slice ua un uc, .slice ra rn rc, .slice ba bn bc] 30) ∧ W.heap[w.heap.size + 1]? = some (.cells #[.int .i64 pk, .slice mu.a mu.len mu.cap, .int .i64 pv, .int .i64 pb, .slice ks.a ks.len ks.cap] 48)) ⟨(by repeat first | with_reducible exact Below.refl _ _ | with_reducible refine Below.setCell ?_ (by first | omega | (simp; done) | (simp; omega)) _ | with_reducible refine Below.alloc ?_ (by first | omega | (simp; done) | (simp; omega)) _ | with_reducible refine Below.drew ?_ | with_reducible refine Ext.on _ ?_ (by first | omega | (simp; done) | (simp; omega))), heap_two0 w _ _, heap_two1 w _ _⟩ ?_
    rintro W5 ⟨hB5, hs5, hf5⟩
    have HB5 := Lib.hid hB5
    have hB5s := hB5.size
    obtain ⟨hx0, c0, c1, c2⟩ := three_s hs5
    obtain ⟨hx1, p0, p1, p2, p3, p4⟩ := five_s hf5
    clear hB5 hs5 hf5

    refine wp_region_inv (x := (⟨W5, Below.refl _ _⟩ : Ext W5)) (fun j u W => match j with
      | 0 => u = .agg #[.slice ua un uc, .slice ra rn rc, .slice ba bn bc]
      | 1 => u = .int .i64 va
      | 2 => u = .bool false
      | 3 => u = .bool false
      | 4 => u = undef
      | 5 => u = undef
      | 6 => u = undef
      | 7 => u = .bool false
      | 8 => u = .bool false
      | 9 => u = undef
      | 10 => u = undef
      | 11 => u = undef
      | 12 => u = undef
      | 13 => u = undef
      | 14 => u = .bool false
      | 15 => u = .bool false
      | _ => True) 20 (by kernel_rfl) rfl (by kernel_rfl) (fun j u W1 W2 hcc => by
      match j with
      | 0 => exact id
      | 1 => exact id
      | 2 => exact id
      | 3 => exact id
      | 4 => exact id
      | 5 => exact id
      | 6 => exact id
      | 7 => exact id
      | 8 => exact id
      | 9 => exact id
      | 10 => exact id
      | 11 => exact id
      | 12 => exact id
      | 13 => exact id
      | 14 => exact id
      | 15 => exact id
      | _ + 16 => exact id) ?_
    refine inv_step (fun W hW hd K hK => ?_) (fun v0 aq hq => ?_)
    · obtain ⟨y0, rfl⟩ := hW
      have ys := y0.size
      have HK := Lib.hid hK
      clear hd hK
      go_wp2_with fail
      exact HK.out _ _ rfl ⟨⟨y0, rfl⟩, ⟨⟨y0.val, Below.refl _ _⟩, rfl⟩⟩ rfl trivial
    simp only [Act.put, List.setIfInBounds_toArray, List.set_cons_zero, List.set_cons_succ] at hq
    subst hq
    refine inv_step (fun W hW hd K hK => ?_) (fun v1 aq hq => ?_)
    · obtain ⟨y0, rfl⟩ := hW
      have ys := y0.size
      have HK := Lib.hid hK
      obtain rfl : v0 = .agg #[.slice ua un uc, .slice ra rn rc, .slice ba bn bc] := hd 0 (by kernel_rfl)
      clear hd hK
      go_wp2_with (go_at_call 24; (with_reducible refine Calls.mono (CV.out y0.val (y0.on HB5.out (by omega))) ?_); rintro e _ ⟨rfl, ⟨z, rfl⟩⟩)
      exact HK.out _ _ rfl ⟨Cls.step y0 ⟨z, rfl⟩, ⟨z, rfl⟩⟩ rfl trivial
    simp only [Act.put, List.setIfInBounds_toArray, List.set_cons_zero, List.set_cons_succ] at hq
    subst hq
    refine inv_step (fun W hW hd K hK => ?_) (fun v2 aq hq => ?_)
    · obtain ⟨y0, rfl⟩ := hW
      have ys := y0.size
      have HK := Lib.hid hK
      obtain rfl : v1 = .int .i64 va := hd 1 (by kernel_rfl)
      clear hd hK
      go_wp2_with fail
      exact HK.out _ _ rfl ⟨⟨y0, rfl⟩, ⟨⟨y0.val, Below.refl _ _⟩, rfl⟩⟩ rfl trivial
    simp only [Act.put, List.setIfInBounds_toArray, List.set_cons_zero, List.set_cons_succ] at hq
    subst hq
    refine inv_step (fun W hW hd K hK => ?_) (fun v3 aq hq => ?_)
    · obtain ⟨y0, rfl⟩ := hW
      have ys := y0.size
      have HK := Lib.hid hK
      obtain rfl : v2 = .bool false := hd 2 (by kernel_rfl)
      clear hd hK
      go_wp2_with fail
      exact HK.out _ _ rfl ⟨⟨y0, rfl⟩, ⟨⟨y0.val, Below.refl _ _⟩, rfl⟩⟩ rfl trivial
    simp only [Act.put, List.setIfInBounds_toArray, List.set_cons_zero, List.set_cons_succ] at hq
    subst hq
    refine inv_step (fun W hW hd K hK => ?_) (fun v4 aq hq => ?_)
    · obtain ⟨y0, rfl⟩ := hW
      have ys := y0.size
      have HK := Lib.hid hK
      obtain rfl : v3 = .bool false := hd 3 (by kernel_rfl)
      clear hd hK
      go_wp2_with fail
      exact HK.out _ _ rfl ⟨⟨y0, rfl⟩, ⟨⟨y0.val, Below.refl _ _⟩, rfl⟩⟩ rfl trivial
    simp only [Act.put, List.setIfInBounds_toArray, List.set_cons_zero, List.set_cons_succ] at hq
    subst hq
    refine inv_step (fun W hW hd K hK => ?_) (fun v5 aq hq => ?_)
    · obtain ⟨y0, rfl⟩ := hW
      have ys := y0.size
      have HK := Lib.hid hK
      obtain rfl : v3 = .bool false := hd 3 (by kernel_rfl)
      clear hd hK
      go_wp2_with fail
      exact HK.out _ _ rfl ⟨⟨y0, rfl⟩, ⟨⟨y0.val, Below.refl _ _⟩, rfl⟩⟩ rfl trivial
    simp only [Act.put, List.setIfInBounds_toArray, List.set_cons_zero, List.set_cons_succ] at hq
    subst hq
    refine inv_step (fun W hW hd K hK => ?_) (fun v6 aq hq => ?_)
    · obtain ⟨y0, rfl⟩ := hW
      have ys := y0.size
      have HK := Lib.hid hK
      obtain rfl : v3 = .bool false := hd 3 (by kernel_rfl)
      clear hd hK
      go_wp2_with fail
      exact HK.out _ _ rfl ⟨⟨y0, rfl⟩, ⟨⟨y0.val, Below.refl _ _⟩, rfl⟩⟩ rfl trivial
    simp only [Act.put, List.setIfInBounds_toArray, List.set_cons_zero, List.set_cons_succ] at hq
    subst hq
    refine inv_step (fun W hW hd K hK => ?_) (fun v7 aq hq => ?_)
    · obtain ⟨y0, rfl⟩ := hW
      have ys := y0.size
      have HK := Lib.hid hK
      obtain rfl : v3 = .bool false := hd 3 (by kernel_rfl)
      clear hd hK
      go_wp2_with fail
      exact HK.out _ _ rfl ⟨⟨y0, rfl⟩, ⟨⟨y0.val, Below.refl _ _⟩, rfl⟩⟩ rfl trivial
    simp only [Act.put, List.setIfInBounds_toArray, List.set_cons_zero, List.set_cons_succ] at hq
    subst hq
    refine inv_step (fun W hW hd K hK => ?_) (fun v8 aq hq => ?_)
    · obtain ⟨y0, rfl⟩ := hW
      have ys := y0.size
      have HK := Lib.hid hK
      obtain rfl : v7 = .bool false := hd 7 (by kernel_rfl)
      clear hd hK
      go_wp2_with fail
      exact HK.out _ _ rfl ⟨⟨y0, rfl⟩, ⟨⟨y0.val, Below.refl _ _⟩, rfl⟩⟩ rfl trivial
    simp only [Act.put, List.setIfInBounds_toArray, List.set_cons_zero, List.set_cons_succ] at hq
    subst hq
    refine inv_step (fun W hW hd K hK => ?_) (fun v9 aq hq => ?_)
    · obtain ⟨y0, rfl⟩ := hW
      have ys := y0.size
      have HK := Lib.hid hK
      obtain rfl : v8 = .bool false := hd 8 (by kernel_rfl)
      clear hd hK
      go_wp2_with fail
      exact HK.out _ _ rfl ⟨⟨y0, rfl⟩, ⟨⟨y0.val, Below.refl _ _⟩, rfl⟩⟩ rfl trivial
    simp only [Act.put, List.setIfInBounds_toArray, List.set_cons_zero, List.set_cons_succ] at hq
    subst hq
    refine inv_step (fun W hW hd K hK => ?_) (fun v10 aq hq => ?_)
    · obtain ⟨y0, rfl⟩ := hW
      have ys := y0.size
      have HK := Lib.hid hK
      obtain rfl : v8 = .bool false := hd 8 (by kernel_rfl)
      clear hd hK
      go_wp2_with fail
      exact HK.out _ _ rfl ⟨⟨y0, rfl⟩, ⟨⟨y0.val, Below.refl _ _⟩, rfl⟩⟩ rfl trivial
    simp only [Act.put, List.setIfInBounds_toArray, List.set_cons_zero, List.set_cons_succ] at hq
    subst hq
    refine inv_step (fun W hW hd K hK => ?_) (fun v11 aq hq => ?_)
    · obtain ⟨y0, rfl⟩ := hW
      have ys := y0.size
      have HK := Lib.hid hK
      obtain rfl : v8 = .bool false := hd 8 (by kernel_rfl)
      clear hd hK
      go_wp2_with fail
      exact HK.out _ _ rfl ⟨⟨y0, rfl⟩, ⟨⟨y0.val, Below.refl _ _⟩, rfl⟩⟩ rfl trivial
    simp only [Act.put, List.setIfInBounds_toArray, List.set_cons_zero, List.set_cons_succ] at hq
    subst hq
    refine inv_step (fun W hW hd K hK => ?_) (fun v12 aq hq => ?_)
    · obtain ⟨y0, rfl⟩ := hW
      have ys := y0.size
      have HK := Lib.hid hK
      obtain rfl : v8 = .bool false := hd 8 (by kernel_rfl)
      clear hd hK
      go_wp2_with fail
      exact HK.out _ _ rfl ⟨⟨y0, rfl⟩, ⟨⟨y0.val, Below.refl _ _⟩, rfl⟩⟩ rfl trivial
    simp only [Act.put, List.setIfInBounds_toArray, List.set_cons_zero, List.set_cons_succ] at hq
    subst hq
    refine inv_step (fun W hW hd K hK => ?_) (fun v13 aq hq => ?_)
    · obtain ⟨y0, rfl⟩ := hW
      have ys := y0.size
      have HK := Lib.hid hK
      obtain rfl : v8 = .bool false := hd 8 (by kernel_rfl)
      clear hd hK
      go_wp2_with fail
      exact HK.out _ _ rfl ⟨⟨y0, rfl⟩, ⟨⟨y0.val, Below.refl _ _⟩, rfl⟩⟩ rfl trivial
    simp only [Act.put, List.setIfInBounds_toArray, List.set_cons_zero, List.set_cons_succ] at hq
    subst hq
    refine inv_step (fun W hW hd K hK => ?_) (fun v14 aq hq => ?_)
    · obtain ⟨y0, rfl⟩ := hW
      have ys := y0.size
      have HK := Lib.hid hK
      obtain rfl : v8 = .bool false := hd 8 (by kernel_rfl)
      clear hd hK
      go_wp2_with fail
      exact HK.out _ _ rfl ⟨⟨y0, rfl⟩, ⟨⟨y0.val, Below.refl _ _⟩, rfl⟩⟩ rfl trivial
    simp only [Act.put, List.setIfInBounds_toArray, List.set_cons_zero, List.set_cons_succ] at hq
    subst hq
    refine inv_step (fun W hW hd K hK => ?_) (fun v15 aq hq => ?_)
    · obtain ⟨y0, rfl⟩ := hW
      have ys := y0.size
      have HK := Lib.hid hK
      obtain rfl : v14 = .bool false := hd 14 (by kernel_rfl)
      clear hd hK
      go_wp2_with fail
      exact HK.out _ _ rfl ⟨⟨y0, rfl⟩, ⟨⟨y0.val, Below.refl _ _⟩, rfl⟩⟩ rfl trivial
    simp only [Act.put, List.setIfInBounds_toArray, List.set_cons_zero, List.set_cons_succ] at hq
    subst hq
    refine inv_nil fun W hW hT hR => ?_
    obtain ⟨y0, rfl⟩ := hW
    have ys := y0.size
    obtain rfl : v15 = .bool false := hT 15 (by decide)
    clear hT hR
    go_wp2_with fail
    go_ret
    exact ⟨ret_bool (by simp), Cls.of (y0.on HB5.out (by omega))⟩
  rw [hv] at CV ⊢
  by_cases hc : sp ≤ 2000
  case neg =>
    have e1 : decide ((cn : Int) ≤ 2000) = false := decide_eq_false (by omega)
    rw [show decide (sp ≤ 2000) = false from decide_eq_false hc]
    clear CRT CR hv n1 n2 n3 n4
    generalize y.U.a = ua at *
    generalize y.U.len = un at *
    generalize y.U.cap = uc at *
    generalize y.R.a = ra at *
    generalize y.R.len = rn at *
    generalize y.R.cap = rc at *
    generalize y.B.a = ba at *
    generalize y.B.len = bn at *
    generalize y.B.cap = bc at *
    go_enter Try.func20, Try.ntmps20
    go_wp2_with fail
    refine wp_at (fun W => Below w.heap.size w W ∧ W.heap[w.heap.size]? = some (.cells #[.slice ua un uc, .slice ra rn rc, .slice ba bn bc] 30) ∧ W.heap[w.heap.size + 1]? = some (.cells #[.int .i64 pk, .slice mu.a mu.len mu.cap, .int .i64 pv, .int .i64 pb, .slice ks.a ks.len ks.cap] 48)) ⟨(by repeat first | with_reducible exact Below.refl _ _ | with_reducible refine Below.setCell ?_ (by first | omega | (simp; done) | (simp; omega)) _ | with_reducible refine Below.alloc ?_ (by first | omega | (simp; done) | (simp; omega)) _ | with_reducible refine Below.drew ?_ | with_reducible refine Ext.on _ ?_ (by first | omega | (simp; done) | (simp; omega))), heap_two0 w _ _, heap_two1 w _ _⟩ ?_
    rintro W5 ⟨hB5, hs5, hf5⟩
    have HB5 := Lib.hid hB5
    have hB5s := hB5.size
    obtain ⟨hx0, c0, c1, c2⟩ := three_s hs5
    obtain ⟨hx1, p0, p1, p2, p3, p4⟩ := five_s hf5
    clear hB5 hs5 hf5

    refine wp_region_inv (x := (⟨W5, Below.refl _ _⟩ : Ext W5)) (fun j u W => match j with
      | 0 => u = .agg #[.slice ua un uc, .slice ra rn rc, .slice ba bn bc]
      | 1 => u = .int .i64 0
      | 2 => u = .bool true
      | 3 => u = .bool true
      | 4 => u = .agg #[.int .i64 pk, .slice mu.a mu.len mu.cap, .int .i64 pv, .int .i64 pb, .slice ks.a ks.len ks.cap]
      | 5 => u = .int .i64 (cn : Int)
      | 6 => u = .bool false
      | 7 => u = .bool false
      | 8 => u = .bool false
      | 9 => u = undef
      | 10 => u = undef
      | 11 => u = undef
      | 12 => u = undef
      | 13 => u = undef
      | 14 => u = .bool false
      | 15 => u = .bool false
      | _ => True) 20 (by kernel_rfl) rfl (by kernel_rfl) (fun j u W1 W2 hcc => by
      match j with
      | 0 => exact id
      | 1 => exact id
      | 2 => exact id
      | 3 => exact id
      | 4 => exact id
      | 5 => exact id
      | 6 => exact id
      | 7 => exact id
      | 8 => exact id
      | 9 => exact id
      | 10 => exact id
      | 11 => exact id
      | 12 => exact id
      | 13 => exact id
      | 14 => exact id
      | 15 => exact id
      | _ + 16 => exact id) ?_
    refine inv_step (fun W hW hd K hK => ?_) (fun v0 aq hq => ?_)
    · obtain ⟨y0, rfl⟩ := hW
      have ys := y0.size
      have HK := Lib.hid hK
      clear hd hK
      go_wp2_with fail
      exact HK.out _ _ rfl ⟨⟨y0, rfl⟩, ⟨⟨y0.val, Below.refl _ _⟩, rfl⟩⟩ rfl trivial
    simp only [Act.put, List.setIfInBounds_toArray, List.set_cons_zero, List.set_cons_succ] at hq
    subst hq
    refine inv_step (fun W hW hd K hK => ?_) (fun v1 aq hq => ?_)
    · obtain ⟨y0, rfl⟩ := hW
      have ys := y0.size
      have HK := Lib.hid hK
      obtain rfl : v0 = .agg #[.slice ua un uc, .slice ra rn rc, .slice ba bn bc] := hd 0 (by kernel_rfl)
      clear hd hK
      go_wp2_with (go_at_call 24; (with_reducible refine Calls.mono (CV.out y0.val (y0.on HB5.out (by omega))) ?_); rintro e _ ⟨rfl, ⟨z, rfl⟩⟩)
      exact HK.out _ _ rfl ⟨Cls.step y0 ⟨z, rfl⟩, ⟨z, rfl⟩⟩ rfl trivial
    simp only [Act.put, List.setIfInBounds_toArray, List.set_cons_zero, List.set_cons_succ] at hq
    subst hq
    refine inv_step (fun W hW hd K hK => ?_) (fun v2 aq hq => ?_)
    · obtain ⟨y0, rfl⟩ := hW
      have ys := y0.size
      have HK := Lib.hid hK
      obtain rfl : v1 = .int .i64 0 := hd 1 (by kernel_rfl)
      clear hd hK
      go_wp2_with fail
      exact HK.out _ _ rfl ⟨⟨y0, rfl⟩, ⟨⟨y0.val, Below.refl _ _⟩, rfl⟩⟩ rfl trivial
    simp only [Act.put, List.setIfInBounds_toArray, List.set_cons_zero, List.set_cons_succ] at hq
    subst hq
    refine inv_step (fun W hW hd K hK => ?_) (fun v3 aq hq => ?_)
    · obtain ⟨y0, rfl⟩ := hW
      have ys := y0.size
      have HK := Lib.hid hK
      obtain rfl : v2 = .bool true := hd 2 (by kernel_rfl)
      clear hd hK
      go_wp2_with fail
      exact HK.out _ _ rfl ⟨⟨y0, rfl⟩, ⟨⟨y0.val, Below.refl _ _⟩, rfl⟩⟩ rfl trivial
    simp only [Act.put, List.setIfInBounds_toArray, List.set_cons_zero, List.set_cons_succ] at hq
    subst hq
    refine inv_step (fun W hW hd K hK => ?_) (fun v4 aq hq => ?_)
    · obtain ⟨y0, rfl⟩ := hW
      have ys := y0.size
      have HK := Lib.hid hK
      obtain rfl : v3 = .bool true := hd 3 (by kernel_rfl)
      clear hd hK
      go_wp2_with fail
      exact HK.out _ _ rfl ⟨⟨y0, rfl⟩, ⟨⟨y0.val, Below.refl _ _⟩, rfl⟩⟩ rfl trivial
    simp only [Act.put, List.setIfInBounds_toArray, List.set_cons_zero, List.set_cons_succ] at hq
    subst hq
    refine inv_step (fun W hW hd K hK => ?_) (fun v5 aq hq => ?_)
    · obtain ⟨y0, rfl⟩ := hW
      have ys := y0.size
      have HK := Lib.hid hK
      obtain rfl : v3 = .bool true := hd 3 (by kernel_rfl)
      obtain rfl : v4 = .agg #[.int .i64 pk, .slice mu.a mu.len mu.cap, .int .i64 pv, .int .i64 pb, .slice ks.a ks.len ks.cap] := hd 4 (by kernel_rfl)
      clear hd hK
      go_wp2_with (go_at_call 47; (with_reducible refine Calls.mono (CC.out y0.val (y0.on HB5.out (by omega))) ?_); rintro e _ ⟨rfl, ⟨z, rfl⟩⟩)
      exact HK.out _ _ rfl ⟨Cls.step y0 ⟨z, rfl⟩, ⟨z, rfl⟩⟩ rfl trivial
    simp only [Act.put, List.setIfInBounds_toArray, List.set_cons_zero, List.set_cons_succ] at hq
    subst hq
    refine inv_step (fun W hW hd K hK => ?_) (fun v6 aq hq => ?_)
    · obtain ⟨y0, rfl⟩ := hW
      have ys := y0.size
      have HK := Lib.hid hK
      obtain rfl : v3 = .bool true := hd 3 (by kernel_rfl)
      obtain rfl : v5 = .int .i64 (cn : Int) := hd 5 (by kernel_rfl)
      clear hd hK
      go_wp2_with fail
      exact HK.out _ _ rfl ⟨⟨y0, rfl⟩, ⟨⟨y0.val, Below.refl _ _⟩, rfl⟩⟩ rfl trivial
    simp only [Act.put, List.setIfInBounds_toArray, List.set_cons_zero, List.set_cons_succ] at hq
    subst hq
    refine inv_step (fun W hW hd K hK => ?_) (fun v7 aq hq => ?_)
    · obtain ⟨y0, rfl⟩ := hW
      have ys := y0.size
      have HK := Lib.hid hK
      obtain rfl : v3 = .bool true := hd 3 (by kernel_rfl)
      obtain rfl : v6 = .bool false := hd 6 (by kernel_rfl)
      clear hd hK
      go_wp2_with fail
      exact HK.out _ _ rfl ⟨⟨y0, rfl⟩, ⟨⟨y0.val, Below.refl _ _⟩, rfl⟩⟩ rfl trivial
    simp only [Act.put, List.setIfInBounds_toArray, List.set_cons_zero, List.set_cons_succ] at hq
    subst hq
    refine inv_step (fun W hW hd K hK => ?_) (fun v8 aq hq => ?_)
    · obtain ⟨y0, rfl⟩ := hW
      have ys := y0.size
      have HK := Lib.hid hK
      obtain rfl : v7 = .bool false := hd 7 (by kernel_rfl)
      clear hd hK
      go_wp2_with fail
      exact HK.out _ _ rfl ⟨⟨y0, rfl⟩, ⟨⟨y0.val, Below.refl _ _⟩, rfl⟩⟩ rfl trivial
    simp only [Act.put, List.setIfInBounds_toArray, List.set_cons_zero, List.set_cons_succ] at hq
    subst hq
    refine inv_step (fun W hW hd K hK => ?_) (fun v9 aq hq => ?_)
    · obtain ⟨y0, rfl⟩ := hW
      have ys := y0.size
      have HK := Lib.hid hK
      obtain rfl : v8 = .bool false := hd 8 (by kernel_rfl)
      clear hd hK
      go_wp2_with fail
      exact HK.out _ _ rfl ⟨⟨y0, rfl⟩, ⟨⟨y0.val, Below.refl _ _⟩, rfl⟩⟩ rfl trivial
    simp only [Act.put, List.setIfInBounds_toArray, List.set_cons_zero, List.set_cons_succ] at hq
    subst hq
    refine inv_step (fun W hW hd K hK => ?_) (fun v10 aq hq => ?_)
    · obtain ⟨y0, rfl⟩ := hW
      have ys := y0.size
      have HK := Lib.hid hK
      obtain rfl : v8 = .bool false := hd 8 (by kernel_rfl)
      clear hd hK
      go_wp2_with fail
      exact HK.out _ _ rfl ⟨⟨y0, rfl⟩, ⟨⟨y0.val, Below.refl _ _⟩, rfl⟩⟩ rfl trivial
    simp only [Act.put, List.setIfInBounds_toArray, List.set_cons_zero, List.set_cons_succ] at hq
    subst hq
    refine inv_step (fun W hW hd K hK => ?_) (fun v11 aq hq => ?_)
    · obtain ⟨y0, rfl⟩ := hW
      have ys := y0.size
      have HK := Lib.hid hK
      obtain rfl : v8 = .bool false := hd 8 (by kernel_rfl)
      clear hd hK
      go_wp2_with fail
      exact HK.out _ _ rfl ⟨⟨y0, rfl⟩, ⟨⟨y0.val, Below.refl _ _⟩, rfl⟩⟩ rfl trivial
    simp only [Act.put, List.setIfInBounds_toArray, List.set_cons_zero, List.set_cons_succ] at hq
    subst hq
    refine inv_step (fun W hW hd K hK => ?_) (fun v12 aq hq => ?_)
    · obtain ⟨y0, rfl⟩ := hW
      have ys := y0.size
      have HK := Lib.hid hK
      obtain rfl : v8 = .bool false := hd 8 (by kernel_rfl)
      clear hd hK
      go_wp2_with fail
      exact HK.out _ _ rfl ⟨⟨y0, rfl⟩, ⟨⟨y0.val, Below.refl _ _⟩, rfl⟩⟩ rfl trivial
    simp only [Act.put, List.setIfInBounds_toArray, List.set_cons_zero, List.set_cons_succ] at hq
    subst hq
    refine inv_step (fun W hW hd K hK => ?_) (fun v13 aq hq => ?_)
    · obtain ⟨y0, rfl⟩ := hW
      have ys := y0.size
      have HK := Lib.hid hK
      obtain rfl : v8 = .bool false := hd 8 (by kernel_rfl)
      clear hd hK
      go_wp2_with fail
      exact HK.out _ _ rfl ⟨⟨y0, rfl⟩, ⟨⟨y0.val, Below.refl _ _⟩, rfl⟩⟩ rfl trivial
    simp only [Act.put, List.setIfInBounds_toArray, List.set_cons_zero, List.set_cons_succ] at hq
    subst hq
    refine inv_step (fun W hW hd K hK => ?_) (fun v14 aq hq => ?_)
    · obtain ⟨y0, rfl⟩ := hW
      have ys := y0.size
      have HK := Lib.hid hK
      obtain rfl : v8 = .bool false := hd 8 (by kernel_rfl)
      clear hd hK
      go_wp2_with fail
      exact HK.out _ _ rfl ⟨⟨y0, rfl⟩, ⟨⟨y0.val, Below.refl _ _⟩, rfl⟩⟩ rfl trivial
    simp only [Act.put, List.setIfInBounds_toArray, List.set_cons_zero, List.set_cons_succ] at hq
    subst hq
    refine inv_step (fun W hW hd K hK => ?_) (fun v15 aq hq => ?_)
    · obtain ⟨y0, rfl⟩ := hW
      have ys := y0.size
      have HK := Lib.hid hK
      obtain rfl : v14 = .bool false := hd 14 (by kernel_rfl)
      clear hd hK
      go_wp2_with fail
      exact HK.out _ _ rfl ⟨⟨y0, rfl⟩, ⟨⟨y0.val, Below.refl _ _⟩, rfl⟩⟩ rfl trivial
    simp only [Act.put, List.setIfInBounds_toArray, List.set_cons_zero, List.set_cons_succ] at hq
    subst hq
    refine inv_nil fun W hW hT hR => ?_
    obtain ⟨y0, rfl⟩ := hW
    have ys := y0.size
    obtain rfl : v15 = .bool false := hT 15 (by decide)
    clear hT hR
    go_wp2_with fail
    go_ret
    exact ⟨ret_bool (by simp), Cls.of (y0.on HB5.out (by omega))⟩
  have e1 : decide ((cn : Int) ≤ 2000) = true := decide_eq_true (by omega)
  rw [show decide (sp ≤ 2000) = true from decide_eq_true hc]
  clear hv n1 n2 n3 n4
  generalize y.U.a = ua at *
  generalize y.U.len = un at *
  generalize y.U.cap = uc at *
  generalize y.R.a = ra at *
  generalize y.R.len = rn at *
  generalize y.R.cap = rc at *
  generalize y.B.a = ba at *
  generalize y.B.len = bn at *
  generalize y.B.cap = bc at *
  go_enter Try.func20, Try.ntmps20
  go_wp2_with fail
  refine wp_at (fun W => Below w.heap.size w W ∧ W.heap[w.heap.size]? = some (.cells #[.slice ua un uc, .slice ra rn rc, .slice ba bn bc] 30) ∧ W.heap[w.heap.size + 1]? = some (.cells #[.int .i64 pk, .slice mu.a mu.len mu.cap, .int .i64 pv, .int .i64 pb, .slice ks.a ks.len ks.cap] 48)) ⟨(by repeat first | with_reducible exact Below.refl _ _ | with_reducible refine Below.setCell ?_ (by first | omega | (simp; done) | (simp; omega)) _ | with_reducible refine Below.alloc ?_ (by first | omega | (simp; done) | (simp; omega)) _ | with_reducible refine Below.drew ?_ | with_reducible refine Ext.on _ ?_ (by first | omega | (simp; done) | (simp; omega))), heap_two0 w _ _, heap_two1 w _ _⟩ ?_
  rintro W5 ⟨hB5, hs5, hf5⟩
  have HB5 := Lib.hid hB5
  have hB5s := hB5.size
  obtain ⟨hx0, c0, c1, c2⟩ := three_s hs5
  obtain ⟨hx1, p0, p1, p2, p3, p4⟩ := five_s hf5
  clear hB5 hs5 hf5

  refine wp_region_inv (x := (⟨W5, Below.refl _ _⟩ : Ext W5)) (fun j u W => match j with
    | 0 => u = .agg #[.slice ua un uc, .slice ra rn rc, .slice ba bn bc]
    | 1 => u = .int .i64 0
    | 2 => u = .bool true
    | 3 => u = .bool true
    | 4 => u = .agg #[.int .i64 pk, .slice mu.a mu.len mu.cap, .int .i64 pv, .int .i64 pb, .slice ks.a ks.len ks.cap]
    | 5 => u = .int .i64 (cn : Int)
    | 6 => u = .bool true
    | 7 => u = .bool true
    | 8 => u = .bool true
    | 9 => u = .agg #[.slice ua un uc, .slice ra rn rc, .slice ba bn bc]
    | 10 => u = .agg #[.slice ua un uc, .slice ra rn rc, .slice ba bn bc]
    | 11 => ∃ b : Nat, u = .agg #[.slice (some ⟨b, 0, none⟩) un un, .slice ua un uc, .int .i64 1] ∧ IntsA W ⟨some ⟨b, 0, none⟩, un, un⟩ (fun _ => 0)
    | 12 => u = .agg #[.int .i64 pk, .slice mu.a mu.len mu.cap, .int .i64 pv, .int .i64 pb, .slice ks.a ks.len ks.cap]
    | 13 => u = .bool rt
    | 14 => u = .bool rt
    | 15 => u = .bool rt
    | _ => True) 20 (by kernel_rfl) rfl (by kernel_rfl) (fun j u W1 W2 hcc => by
    match j with
    | 0 => exact id
    | 1 => exact id
    | 2 => exact id
    | 3 => exact id
    | 4 => exact id
    | 5 => exact id
    | 6 => exact id
    | 7 => exact id
    | 8 => exact id
    | 9 => exact id
    | 10 => exact id
    | 11 => rintro ⟨b, h1, h2⟩; exact ⟨b, h1, h2.later hcc.below⟩
    | 12 => exact id
    | 13 => exact id
    | 14 => exact id
    | 15 => exact id
    | _ + 16 => exact id) ?_
  refine inv_step (fun W hW hd K hK => ?_) (fun v0 aq hq => ?_)
  · obtain ⟨y0, rfl⟩ := hW
    have ys := y0.size
    have HK := Lib.hid hK
    clear hd hK
    go_wp2_with fail
    exact HK.out _ _ rfl ⟨⟨y0, rfl⟩, ⟨⟨y0.val, Below.refl _ _⟩, rfl⟩⟩ rfl trivial
  simp only [Act.put, List.setIfInBounds_toArray, List.set_cons_zero, List.set_cons_succ] at hq
  subst hq
  refine inv_step (fun W hW hd K hK => ?_) (fun v1 aq hq => ?_)
  · obtain ⟨y0, rfl⟩ := hW
    have ys := y0.size
    have HK := Lib.hid hK
    obtain rfl : v0 = .agg #[.slice ua un uc, .slice ra rn rc, .slice ba bn bc] := hd 0 (by kernel_rfl)
    clear hd hK
    go_wp2_with (go_at_call 24; (with_reducible refine Calls.mono (CV.out y0.val (y0.on HB5.out (by omega))) ?_); rintro e _ ⟨rfl, ⟨z, rfl⟩⟩)
    exact HK.out _ _ rfl ⟨Cls.step y0 ⟨z, rfl⟩, ⟨z, rfl⟩⟩ rfl trivial
  simp only [Act.put, List.setIfInBounds_toArray, List.set_cons_zero, List.set_cons_succ] at hq
  subst hq
  refine inv_step (fun W hW hd K hK => ?_) (fun v2 aq hq => ?_)
  · obtain ⟨y0, rfl⟩ := hW
    have ys := y0.size
    have HK := Lib.hid hK
    obtain rfl : v1 = .int .i64 0 := hd 1 (by kernel_rfl)
    clear hd hK
    go_wp2_with fail
    exact HK.out _ _ rfl ⟨⟨y0, rfl⟩, ⟨⟨y0.val, Below.refl _ _⟩, rfl⟩⟩ rfl trivial
  simp only [Act.put, List.setIfInBounds_toArray, List.set_cons_zero, List.set_cons_succ] at hq
  subst hq
  refine inv_step (fun W hW hd K hK => ?_) (fun v3 aq hq => ?_)
  · obtain ⟨y0, rfl⟩ := hW
    have ys := y0.size
    have HK := Lib.hid hK
    obtain rfl : v2 = .bool true := hd 2 (by kernel_rfl)
    clear hd hK
    go_wp2_with fail
    exact HK.out _ _ rfl ⟨⟨y0, rfl⟩, ⟨⟨y0.val, Below.refl _ _⟩, rfl⟩⟩ rfl trivial
  simp only [Act.put, List.setIfInBounds_toArray, List.set_cons_zero, List.set_cons_succ] at hq
  subst hq
  refine inv_step (fun W hW hd K hK => ?_) (fun v4 aq hq => ?_)
  · obtain ⟨y0, rfl⟩ := hW
    have ys := y0.size
    have HK := Lib.hid hK
    obtain rfl : v3 = .bool true := hd 3 (by kernel_rfl)
    clear hd hK
    go_wp2_with fail
    exact HK.out _ _ rfl ⟨⟨y0, rfl⟩, ⟨⟨y0.val, Below.refl _ _⟩, rfl⟩⟩ rfl trivial
  simp only [Act.put, List.setIfInBounds_toArray, List.set_cons_zero, List.set_cons_succ] at hq
  subst hq
  refine inv_step (fun W hW hd K hK => ?_) (fun v5 aq hq => ?_)
  · obtain ⟨y0, rfl⟩ := hW
    have ys := y0.size
    have HK := Lib.hid hK
    obtain rfl : v3 = .bool true := hd 3 (by kernel_rfl)
    obtain rfl : v4 = .agg #[.int .i64 pk, .slice mu.a mu.len mu.cap, .int .i64 pv, .int .i64 pb, .slice ks.a ks.len ks.cap] := hd 4 (by kernel_rfl)
    clear hd hK
    go_wp2_with (go_at_call 47; (with_reducible refine Calls.mono (CC.out y0.val (y0.on HB5.out (by omega))) ?_); rintro e _ ⟨rfl, ⟨z, rfl⟩⟩)
    exact HK.out _ _ rfl ⟨Cls.step y0 ⟨z, rfl⟩, ⟨z, rfl⟩⟩ rfl trivial
  simp only [Act.put, List.setIfInBounds_toArray, List.set_cons_zero, List.set_cons_succ] at hq
  subst hq
  refine inv_step (fun W hW hd K hK => ?_) (fun v6 aq hq => ?_)
  · obtain ⟨y0, rfl⟩ := hW
    have ys := y0.size
    have HK := Lib.hid hK
    obtain rfl : v3 = .bool true := hd 3 (by kernel_rfl)
    obtain rfl : v5 = .int .i64 (cn : Int) := hd 5 (by kernel_rfl)
    clear hd hK
    go_wp2_with fail
    exact HK.out _ _ rfl ⟨⟨y0, rfl⟩, ⟨⟨y0.val, Below.refl _ _⟩, rfl⟩⟩ rfl trivial
  simp only [Act.put, List.setIfInBounds_toArray, List.set_cons_zero, List.set_cons_succ] at hq
  subst hq
  refine inv_step (fun W hW hd K hK => ?_) (fun v7 aq hq => ?_)
  · obtain ⟨y0, rfl⟩ := hW
    have ys := y0.size
    have HK := Lib.hid hK
    obtain rfl : v3 = .bool true := hd 3 (by kernel_rfl)
    obtain rfl : v6 = .bool true := hd 6 (by kernel_rfl)
    clear hd hK
    go_wp2_with fail
    exact HK.out _ _ rfl ⟨⟨y0, rfl⟩, ⟨⟨y0.val, Below.refl _ _⟩, rfl⟩⟩ rfl trivial
  simp only [Act.put, List.setIfInBounds_toArray, List.set_cons_zero, List.set_cons_succ] at hq
  subst hq
  refine inv_step (fun W hW hd K hK => ?_) (fun v8 aq hq => ?_)
  · obtain ⟨y0, rfl⟩ := hW
    have ys := y0.size
    have HK := Lib.hid hK
    obtain rfl : v7 = .bool true := hd 7 (by kernel_rfl)
    clear hd hK
    go_wp2_with fail
    exact HK.out _ _ rfl ⟨⟨y0, rfl⟩, ⟨⟨y0.val, Below.refl _ _⟩, rfl⟩⟩ rfl trivial
  simp only [Act.put, List.setIfInBounds_toArray, List.set_cons_zero, List.set_cons_succ] at hq
  subst hq
  refine inv_step (fun W hW hd K hK => ?_) (fun v9 aq hq => ?_)
  · obtain ⟨y0, rfl⟩ := hW
    have ys := y0.size
    have HK := Lib.hid hK
    obtain rfl : v8 = .bool true := hd 8 (by kernel_rfl)
    clear hd hK
    go_wp2_with fail
    exact HK.out _ _ rfl ⟨⟨y0, rfl⟩, ⟨⟨y0.val, Below.refl _ _⟩, rfl⟩⟩ rfl trivial
  simp only [Act.put, List.setIfInBounds_toArray, List.set_cons_zero, List.set_cons_succ] at hq
  subst hq
  refine inv_step (fun W hW hd K hK => ?_) (fun v10 aq hq => ?_)
  · obtain ⟨y0, rfl⟩ := hW
    have ys := y0.size
    have HK := Lib.hid hK
    obtain rfl : v8 = .bool true := hd 8 (by kernel_rfl)
    clear hd hK
    go_wp2_with fail
    exact HK.out _ _ rfl ⟨⟨y0, rfl⟩, ⟨⟨y0.val, Below.refl _ _⟩, rfl⟩⟩ rfl trivial
  simp only [Act.put, List.setIfInBounds_toArray, List.set_cons_zero, List.set_cons_succ] at hq
  subst hq
  refine inv_step (fun W hW hd K hK => ?_) (fun v11 aq hq => ?_)
  · obtain ⟨y0, rfl⟩ := hW
    have ys := y0.size
    have HK := Lib.hid hK
    obtain rfl : v8 = .bool true := hd 8 (by kernel_rfl)
    obtain rfl : v10 = .agg #[.slice ua un uc, .slice ra rn rc, .slice ba bn bc] := hd 10 (by kernel_rfl)
    clear hd hK
    go_wp2_with (go_at_call 49; (with_reducible refine Calls.mono (CRT.out y0.val (y0.on HB5.out (by omega))) ?_); rintro e _ ⟨b, rfl, hb, ⟨z, rfl⟩⟩)
    exact HK.out _ _ rfl ⟨Cls.step y0 ⟨z, rfl⟩, ⟨z, rfl⟩⟩ ⟨b, rfl, hb⟩ trivial
  simp only [Act.put, List.setIfInBounds_toArray, List.set_cons_zero, List.set_cons_succ] at hq
  subst hq
  refine inv_step (fun W hW hd K hK => ?_) (fun v12 aq hq => ?_)
  · obtain ⟨y0, rfl⟩ := hW
    have ys := y0.size
    have HK := Lib.hid hK
    obtain rfl : v8 = .bool true := hd 8 (by kernel_rfl)
    clear hd hK
    go_wp2_with fail
    exact HK.out _ _ rfl ⟨⟨y0, rfl⟩, ⟨⟨y0.val, Below.refl _ _⟩, rfl⟩⟩ rfl trivial
  simp only [Act.put, List.setIfInBounds_toArray, List.set_cons_zero, List.set_cons_succ] at hq
  subst hq
  refine inv_step (fun W hW hd K hK => ?_) (fun v13 aq hq => ?_)
  · obtain ⟨y0, rfl⟩ := hW
    have ys := y0.size
    have HK := Lib.hid hK
    obtain rfl : v8 = .bool true := hd 8 (by kernel_rfl)
    obtain rfl : v9 = .agg #[.slice ua un uc, .slice ra rn rc, .slice ba bn bc] := hd 9 (by kernel_rfl)
    obtain ⟨bR, rfl, hR⟩ : ∃ b : Nat, v11 = .agg #[.slice (some ⟨b, 0, none⟩) un un, .slice ua un uc, .int .i64 1] ∧ IntsA y0.val ⟨some ⟨b, 0, none⟩, un, un⟩ (fun _ => 0) := hd 11 (by kernel_rfl)
    obtain rfl : v12 = .agg #[.int .i64 pk, .slice mu.a mu.len mu.cap, .int .i64 pv, .int .i64 pb, .slice ks.a ks.len ks.cap] := hd 12 (by kernel_rfl)
    clear hd hK
    go_wp2_with (go_at_call 48; (with_reducible refine Calls.mono (CR.out y0.val bR (y0.on HB5.out (by omega)) hR) ?_); rintro e _ ⟨rfl, ⟨z, rfl⟩⟩)
    exact HK.out _ _ rfl ⟨Cls.step y0 ⟨z, rfl⟩, ⟨z, rfl⟩⟩ rfl trivial
  simp only [Act.put, List.setIfInBounds_toArray, List.set_cons_zero, List.set_cons_succ] at hq
  subst hq
  refine inv_step (fun W hW hd K hK => ?_) (fun v14 aq hq => ?_)
  · obtain ⟨y0, rfl⟩ := hW
    have ys := y0.size
    have HK := Lib.hid hK
    obtain rfl : v8 = .bool true := hd 8 (by kernel_rfl)
    obtain rfl : v13 = .bool rt := hd 13 (by kernel_rfl)
    clear hd hK
    go_wp2_with fail
    exact HK.out _ _ rfl ⟨⟨y0, rfl⟩, ⟨⟨y0.val, Below.refl _ _⟩, rfl⟩⟩ rfl trivial
  simp only [Act.put, List.setIfInBounds_toArray, List.set_cons_zero, List.set_cons_succ] at hq
  subst hq
  refine inv_step (fun W hW hd K hK => ?_) (fun v15 aq hq => ?_)
  · obtain ⟨y0, rfl⟩ := hW
    have ys := y0.size
    have HK := Lib.hid hK
    obtain rfl : v14 = .bool rt := hd 14 (by kernel_rfl)
    clear hd hK
    go_wp2_with fail
    exact HK.out _ _ rfl ⟨⟨y0, rfl⟩, ⟨⟨y0.val, Below.refl _ _⟩, rfl⟩⟩ rfl trivial
  simp only [Act.put, List.setIfInBounds_toArray, List.set_cons_zero, List.set_cons_succ] at hq
  subst hq
  refine inv_nil fun W hW hT hR => ?_
  obtain ⟨y0, rfl⟩ := hW
  have ys := y0.size
  obtain rfl : v15 = .bool rt := hT 15 (by decide)
  clear hT hR
  go_wp2_with fail
  go_ret
  exact ⟨ret_bool (by simp), Cls.of (y0.on HB5.out (by omega))⟩
set_option maxHeartbeats 32000000 in
set_option maxRecDepth 20000 in
theorem rCheckProof_calls (p : Pf) (y : Sy) (w : World) (hs : SmallP 31 p) (h : PfA w p) (hy : SysA w y) (hun : y.U.len ≤ 15) :
    Calls Try.prog 21 #[y.v, p.val] w fun e w' => e = .returned (.bool (cpB y p)) ∧ Cls w w' := by
  have hz := small_sz3 31 p h hs
  have hdp := (small_sz 31 p h hs).2
  have CV := Lib.hid (fun (W : World) (hb : Below w.heap.size w W) => rlValid_calls y W (hy.later hb))
  have CZ := Lib.hid (fun (W : World) (hb : Below w.heap.size w W) => rSize_calls p W (h.later hb) (by omega))
  have CDP := Lib.hid (fun (W : World) (hb : Below w.heap.size w W) => rdepth_calls p W (h.later hb) (by omega))
  have CR := Lib.hid (fun (W : World) (b : Nat) (hb : Below w.heap.size w W) (hh : IntsA W ⟨some ⟨b, 0, none⟩, y.U.len, y.U.len⟩ (fun _ => 0)) => rRight_calls 31 p y (some ⟨b, 0, none⟩) y.U.len (fun _ => 0) y.U.a y.U.cap y.up W hs (h.later hb) (hy.later hb) hh (hy.U.later hb) hun)
  have um := hy.U.2.1
  have ul := hy.U.1
  unfold maxLen at um
  have hmk := make_ints y.U.len (by omega)
  unfold cpB
  generalize rtP y p (fun _ => 0) y.up = rt at *
  generalize szP p = sp at *
  generalize dpP p = dp at *
  unfold Sy.v Pf.val at *
  clear h hy hs hz
  generalize p.kind = pk at *
  generalize p.mu = mu at *
  generalize p.v = pv at *
  generalize p.bd = pb at *
  generalize p.ks = ks at *
  by_cases hv : vaS y = 0
  case neg =>
    have e0 : (vaS y == 0) = false := by simpa using hv
    have e1 : (vaS y != 0) = true := by simpa using hv
    rw [e0]
    clear CZ CDP CR
    generalize vaS y = va at *
    generalize y.U.a = ua at *
    generalize y.U.len = un at *
    generalize y.U.cap = uc at *
    generalize y.R.a = ra at *
    generalize y.R.len = rn at *
    generalize y.R.cap = rc at *
    generalize y.B.a = ba at *
    generalize y.B.len = bn at *
    generalize y.B.cap = bc at *
    go_enter Try.func21, Try.ntmps21
    go_wp2_with (first
  | (go_at_call 50; (with_reducible refine Calls.mono (CV.out _ ?_) ?_); (focus (repeat first | with_reducible exact Below.refl _ _ | with_reducible refine Below.setCell ?_ (by first | omega | (simp; done) | (simp; omega)) _ | with_reducible refine Below.alloc ?_ (by first | omega | (simp; done) | (simp; omega)) _ | with_reducible refine Below.drew ?_ | with_reducible refine Ext.on _ ?_ (by first | omega | (simp; done) | (simp; omega)))); rintro e _ ⟨rfl, ⟨x, rfl⟩⟩; have xs := x.size; (try simp at xs); obtain ⟨hx0, c0, c1, c2⟩ := three_s ((x.below.block _ (by simp; omega)).trans (heap_two0 w (.cells #[.slice ua un uc, .slice ra rn rc, .slice ba bn bc] 30) (.cells #[.int .i64 pk, .slice mu.a mu.len mu.cap, .int .i64 pv, .int .i64 pb, .slice ks.a ks.len ks.cap] 48))); obtain ⟨hx1, p0, p1, p2, p3, p4⟩ := five_s ((x.below.block _ (by simp)).trans (heap_two1 w (.cells #[.slice ua un uc, .slice ra rn rc, .slice ba bn bc] 30) (.cells #[.int .i64 pk, .slice mu.a mu.len mu.cap, .int .i64 pv, .int .i64 pb, .slice ks.a ks.len ks.cap] 48))))
  | (go_at_call 23; (with_reducible refine Calls.mono (CZ.out _ ?_) ?_); (focus (repeat first | with_reducible exact Below.refl _ _ | with_reducible refine Below.setCell ?_ (by first | omega | (simp; done) | (simp; omega)) _ | with_reducible refine Below.alloc ?_ (by first | omega | (simp; done) | (simp; omega)) _ | with_reducible refine Below.drew ?_ | with_reducible refine Ext.on _ ?_ (by first | omega | (simp; done) | (simp; omega)))); rintro e _ ⟨rfl, ⟨x2, rfl⟩⟩; have x2s := x2.size)
  | (go_at_call 51; (with_reducible refine Calls.mono (CDP.out _ ?_) ?_); (focus (repeat first | with_reducible exact Below.refl _ _ | with_reducible refine Below.setCell ?_ (by first | omega | (simp; done) | (simp; omega)) _ | with_reducible refine Below.alloc ?_ (by first | omega | (simp; done) | (simp; omega)) _ | with_reducible refine Below.drew ?_ | with_reducible refine Ext.on _ ?_ (by first | omega | (simp; done) | (simp; omega)))); rintro e _ ⟨rfl, ⟨x3, rfl⟩⟩; have x3s := x3.size))
    go_ret
    refine ⟨ret_bool (by simp), Cls.of ?_⟩
    repeat first | with_reducible exact Below.refl _ _ | with_reducible refine Below.setCell ?_ (by first | omega | (simp; done) | (simp; omega)) _ | with_reducible refine Below.alloc ?_ (by first | omega | (simp; done) | (simp; omega)) _ | with_reducible refine Below.drew ?_ | with_reducible refine Ext.on _ ?_ (by first | omega | (simp; done) | (simp; omega))
  rw [hv] at CV ⊢
  have d2 : decide ((200 : Int) < (dp : Int)) = false := decide_eq_false (by omega)
  by_cases hc : sp ≤ 2000
  case neg =>
    have e1 : decide ((2000 : Int) < (sp : Int)) = true := decide_eq_true (by omega)
    rw [show decide (sp ≤ 2000) = false from decide_eq_false hc]
    clear CDP CR hv
    generalize y.U.a = ua at *
    generalize y.U.len = un at *
    generalize y.U.cap = uc at *
    generalize y.R.a = ra at *
    generalize y.R.len = rn at *
    generalize y.R.cap = rc at *
    generalize y.B.a = ba at *
    generalize y.B.len = bn at *
    generalize y.B.cap = bc at *
    go_enter Try.func21, Try.ntmps21
    go_wp2_with (first
  | (go_at_call 50; (with_reducible refine Calls.mono (CV.out _ ?_) ?_); (focus (repeat first | with_reducible exact Below.refl _ _ | with_reducible refine Below.setCell ?_ (by first | omega | (simp; done) | (simp; omega)) _ | with_reducible refine Below.alloc ?_ (by first | omega | (simp; done) | (simp; omega)) _ | with_reducible refine Below.drew ?_ | with_reducible refine Ext.on _ ?_ (by first | omega | (simp; done) | (simp; omega)))); rintro e _ ⟨rfl, ⟨x, rfl⟩⟩; have xs := x.size; (try simp at xs); obtain ⟨hx0, c0, c1, c2⟩ := three_s ((x.below.block _ (by simp; omega)).trans (heap_two0 w (.cells #[.slice ua un uc, .slice ra rn rc, .slice ba bn bc] 30) (.cells #[.int .i64 pk, .slice mu.a mu.len mu.cap, .int .i64 pv, .int .i64 pb, .slice ks.a ks.len ks.cap] 48))); obtain ⟨hx1, p0, p1, p2, p3, p4⟩ := five_s ((x.below.block _ (by simp)).trans (heap_two1 w (.cells #[.slice ua un uc, .slice ra rn rc, .slice ba bn bc] 30) (.cells #[.int .i64 pk, .slice mu.a mu.len mu.cap, .int .i64 pv, .int .i64 pb, .slice ks.a ks.len ks.cap] 48))))
  | (go_at_call 23; (with_reducible refine Calls.mono (CZ.out _ ?_) ?_); (focus (repeat first | with_reducible exact Below.refl _ _ | with_reducible refine Below.setCell ?_ (by first | omega | (simp; done) | (simp; omega)) _ | with_reducible refine Below.alloc ?_ (by first | omega | (simp; done) | (simp; omega)) _ | with_reducible refine Below.drew ?_ | with_reducible refine Ext.on _ ?_ (by first | omega | (simp; done) | (simp; omega)))); rintro e _ ⟨rfl, ⟨x2, rfl⟩⟩; have x2s := x2.size)
  | (go_at_call 51; (with_reducible refine Calls.mono (CDP.out _ ?_) ?_); (focus (repeat first | with_reducible exact Below.refl _ _ | with_reducible refine Below.setCell ?_ (by first | omega | (simp; done) | (simp; omega)) _ | with_reducible refine Below.alloc ?_ (by first | omega | (simp; done) | (simp; omega)) _ | with_reducible refine Below.drew ?_ | with_reducible refine Ext.on _ ?_ (by first | omega | (simp; done) | (simp; omega)))); rintro e _ ⟨rfl, ⟨x3, rfl⟩⟩; have x3s := x3.size))
    go_ret
    refine ⟨ret_bool (by simp), Cls.of ?_⟩
    repeat first | with_reducible exact Below.refl _ _ | with_reducible refine Below.setCell ?_ (by first | omega | (simp; done) | (simp; omega)) _ | with_reducible refine Below.alloc ?_ (by first | omega | (simp; done) | (simp; omega)) _ | with_reducible refine Below.drew ?_ | with_reducible refine Ext.on _ ?_ (by first | omega | (simp; done) | (simp; omega))
  have e1 : decide ((2000 : Int) < (sp : Int)) = false := decide_eq_false (by omega)
  rw [show decide (sp ≤ 2000) = true from decide_eq_true hc]
  clear hv
  generalize y.U.a = ua at *
  generalize y.U.len = un at *
  generalize y.U.cap = uc at *
  generalize y.R.a = ra at *
  generalize y.R.len = rn at *
  generalize y.R.cap = rc at *
  generalize y.B.a = ba at *
  generalize y.B.len = bn at *
  generalize y.B.cap = bc at *
  go_enter Try.func21, Try.ntmps21
  go_wp2_with (first
  | (go_at_call 50; (with_reducible refine Calls.mono (CV.out _ ?_) ?_); (focus (repeat first | with_reducible exact Below.refl _ _ | with_reducible refine Below.setCell ?_ (by first | omega | (simp; done) | (simp; omega)) _ | with_reducible refine Below.alloc ?_ (by first | omega | (simp; done) | (simp; omega)) _ | with_reducible refine Below.drew ?_ | with_reducible refine Ext.on _ ?_ (by first | omega | (simp; done) | (simp; omega)))); rintro e _ ⟨rfl, ⟨x, rfl⟩⟩; have xs := x.size; (try simp at xs); obtain ⟨hx0, c0, c1, c2⟩ := three_s ((x.below.block _ (by simp; omega)).trans (heap_two0 w (.cells #[.slice ua un uc, .slice ra rn rc, .slice ba bn bc] 30) (.cells #[.int .i64 pk, .slice mu.a mu.len mu.cap, .int .i64 pv, .int .i64 pb, .slice ks.a ks.len ks.cap] 48))); obtain ⟨hx1, p0, p1, p2, p3, p4⟩ := five_s ((x.below.block _ (by simp)).trans (heap_two1 w (.cells #[.slice ua un uc, .slice ra rn rc, .slice ba bn bc] 30) (.cells #[.int .i64 pk, .slice mu.a mu.len mu.cap, .int .i64 pv, .int .i64 pb, .slice ks.a ks.len ks.cap] 48))))
  | (go_at_call 23; (with_reducible refine Calls.mono (CZ.out _ ?_) ?_); (focus (repeat first | with_reducible exact Below.refl _ _ | with_reducible refine Below.setCell ?_ (by first | omega | (simp; done) | (simp; omega)) _ | with_reducible refine Below.alloc ?_ (by first | omega | (simp; done) | (simp; omega)) _ | with_reducible refine Below.drew ?_ | with_reducible refine Ext.on _ ?_ (by first | omega | (simp; done) | (simp; omega)))); rintro e _ ⟨rfl, ⟨x2, rfl⟩⟩; have x2s := x2.size)
  | (go_at_call 51; (with_reducible refine Calls.mono (CDP.out _ ?_) ?_); (focus (repeat first | with_reducible exact Below.refl _ _ | with_reducible refine Below.setCell ?_ (by first | omega | (simp; done) | (simp; omega)) _ | with_reducible refine Below.alloc ?_ (by first | omega | (simp; done) | (simp; omega)) _ | with_reducible refine Below.drew ?_ | with_reducible refine Ext.on _ ?_ (by first | omega | (simp; done) | (simp; omega)))); rintro e _ ⟨rfl, ⟨x3, rfl⟩⟩; have x3s := x3.size))
  refine wp_at (fun W => Below w.heap.size w W ∧ W.heap[w.heap.size]? = some (.cells #[.slice ua un uc, .slice ra rn rc, .slice ba bn bc] 30) ∧ W.heap[w.heap.size + 1]? = some (.cells #[.int .i64 pk, .slice mu.a mu.len mu.cap, .int .i64 pv, .int .i64 pb, .slice ks.a ks.len ks.cap] 48)) ⟨(by repeat first | with_reducible exact Below.refl _ _ | with_reducible refine Below.setCell ?_ (by first | omega | (simp; done) | (simp; omega)) _ | with_reducible refine Below.alloc ?_ (by first | omega | (simp; done) | (simp; omega)) _ | with_reducible refine Below.drew ?_ | with_reducible refine Ext.on _ ?_ (by first | omega | (simp; done) | (simp; omega))), (x3.below.block _ (by omega)).trans ((x2.below.block _ (by omega)).trans ((x.below.block _ (by simp; omega)).trans (heap_two0 w _ _))), (x3.below.block _ (by omega)).trans ((x2.below.block _ (by omega)).trans ((x.below.block _ (by simp)).trans (heap_two1 w _ _)))⟩ ?_
  clear hx0 c0 c1 c2 hx1 p0 p1 p2 p3 p4 xs x2s x3s
  rintro W5 ⟨hB5, hs5, hf5⟩
  have HB5 := Lib.hid hB5
  have hB5s := hB5.size
  obtain ⟨hx0, c0, c1, c2⟩ := three_s hs5
  obtain ⟨hx1, p0, p1, p2, p3, p4⟩ := five_s hf5
  clear hB5 hs5 hf5
  refine wp_region_inv (x := (⟨W5, Below.refl _ _⟩ : Ext W5)) (fun j u W => match j with
    | 0 => u = .agg #[.slice ua un uc, .slice ra rn rc, .slice ba bn bc]
    | 1 => u = .agg #[.int .i64 pk, .slice mu.a mu.len mu.cap, .int .i64 pv, .int .i64 pb, .slice ks.a ks.len ks.cap]
    | 2 => u = .pointer (some ⟨w.heap.size, 0, none⟩)
    | 3 => u = .slice ua un uc
    | 4 => u = .int .i64 (un : Int)
    | 5 => ∃ b : Nat, u = .slice (some ⟨b, 0, none⟩) un un ∧ IntsA W ⟨some ⟨b, 0, none⟩, un, un⟩ (fun _ => 0)
    | 6 => u = .pointer (some ⟨w.heap.size, 0, none⟩)
    | 7 => u = .slice ua un uc
    | 8 => u = .bool rt
    | 9 => u = .bool rt
    | _ => True) 27 (by kernel_rfl) rfl (by kernel_rfl) (fun j u W1 W2 hcc => by
    match j with
    | 0 => exact id
    | 1 => exact id
    | 2 => exact id
    | 3 => exact id
    | 4 => exact id
    | 5 => rintro ⟨b, h1, h2⟩; exact ⟨b, h1, h2.later hcc.below⟩
    | 6 => exact id
    | 7 => exact id
    | 8 => exact id
    | 9 => exact id
    | _ + 10 => exact id) ?_
  refine inv_step (fun W hW hd K hK => ?_) (fun v0 aq hq => ?_)
  · obtain ⟨y0, rfl⟩ := hW
    have ys := y0.size
    have HK := Lib.hid hK
    clear hd hK
    go_wp2_with fail
    exact HK.out _ _ rfl ⟨⟨y0, rfl⟩, ⟨⟨y0.val, Below.refl _ _⟩, rfl⟩⟩ rfl trivial
  simp only [Act.put, List.setIfInBounds_toArray, List.set_cons_zero, List.set_cons_succ] at hq
  subst hq
  refine inv_step (fun W hW hd K hK => ?_) (fun v1 aq hq => ?_)
  · obtain ⟨y0, rfl⟩ := hW
    have ys := y0.size
    have HK := Lib.hid hK
    clear hd hK
    go_wp2_with fail
    exact HK.out _ _ rfl ⟨⟨y0, rfl⟩, ⟨⟨y0.val, Below.refl _ _⟩, rfl⟩⟩ rfl trivial
  simp only [Act.put, List.setIfInBounds_toArray, List.set_cons_zero, List.set_cons_succ] at hq
  subst hq
  refine inv_step (fun W hW hd K hK => ?_) (fun v2 aq hq => ?_)
  · obtain ⟨y0, rfl⟩ := hW
    have ys := y0.size
    have HK := Lib.hid hK
    clear hd hK
    go_wp2_with fail
    exact HK.out _ _ rfl ⟨⟨y0, rfl⟩, ⟨⟨y0.val, Below.refl _ _⟩, rfl⟩⟩ rfl trivial
  simp only [Act.put, List.setIfInBounds_toArray, List.set_cons_zero, List.set_cons_succ] at hq
  subst hq
  refine inv_step (fun W hW hd K hK => ?_) (fun v3 aq hq => ?_)
  · obtain ⟨y0, rfl⟩ := hW
    have ys := y0.size
    have HK := Lib.hid hK
    obtain rfl : v2 = .pointer (some ⟨w.heap.size, 0, none⟩) := hd 2 (by kernel_rfl)
    clear hd hK
    go_wp2_with fail
    exact HK.out _ _ rfl ⟨⟨y0, rfl⟩, ⟨⟨y0.val, Below.refl _ _⟩, rfl⟩⟩ rfl trivial
  simp only [Act.put, List.setIfInBounds_toArray, List.set_cons_zero, List.set_cons_succ] at hq
  subst hq
  refine inv_step (fun W hW hd K hK => ?_) (fun v4 aq hq => ?_)
  · obtain ⟨y0, rfl⟩ := hW
    have ys := y0.size
    have HK := Lib.hid hK
    obtain rfl : v3 = .slice ua un uc := hd 3 (by kernel_rfl)
    clear hd hK
    go_wp2_with fail
    exact HK.out _ _ rfl ⟨⟨y0, rfl⟩, ⟨⟨y0.val, Below.refl _ _⟩, rfl⟩⟩ rfl trivial
  simp only [Act.put, List.setIfInBounds_toArray, List.set_cons_zero, List.set_cons_succ] at hq
  subst hq
  refine inv_step (fun W hW hd K hK => ?_) (fun v5 aq hq => ?_)
  · obtain ⟨y0, rfl⟩ := hW
    have ys := y0.size
    have HK := Lib.hid hK
    obtain rfl : v4 = .int .i64 (un : Int) := hd 4 (by kernel_rfl)
    clear hd hK
    go_wp2_with fail
    exact HK.out _ _ rfl ⟨Cls.step y0 (Cls.of ((Below.refl _ _).alloc (Nat.le_refl _) _)), Cls.of ((Below.refl _ _).alloc (Nat.le_refl _) _)⟩ ⟨y0.val.heap.size, rfl, zeros_ints (heap_alloc_new _ _) (by omega)⟩ trivial
  simp only [Act.put, List.setIfInBounds_toArray, List.set_cons_zero, List.set_cons_succ] at hq
  subst hq
  refine inv_step (fun W hW hd K hK => ?_) (fun v6 aq hq => ?_)
  · obtain ⟨y0, rfl⟩ := hW
    have ys := y0.size
    have HK := Lib.hid hK
    clear hd hK
    go_wp2_with fail
    exact HK.out _ _ rfl ⟨⟨y0, rfl⟩, ⟨⟨y0.val, Below.refl _ _⟩, rfl⟩⟩ rfl trivial
  simp only [Act.put, List.setIfInBounds_toArray, List.set_cons_zero, List.set_cons_succ] at hq
  subst hq
  refine inv_step (fun W hW hd K hK => ?_) (fun v7 aq hq => ?_)
  · obtain ⟨y0, rfl⟩ := hW
    have ys := y0.size
    have HK := Lib.hid hK
    obtain rfl : v6 = .pointer (some ⟨w.heap.size, 0, none⟩) := hd 6 (by kernel_rfl)
    clear hd hK
    go_wp2_with fail
    exact HK.out _ _ rfl ⟨⟨y0, rfl⟩, ⟨⟨y0.val, Below.refl _ _⟩, rfl⟩⟩ rfl trivial
  simp only [Act.put, List.setIfInBounds_toArray, List.set_cons_zero, List.set_cons_succ] at hq
  subst hq
  refine inv_step (fun W hW hd K hK => ?_) (fun v8 aq hq => ?_)
  · obtain ⟨y0, rfl⟩ := hW
    have ys := y0.size
    have HK := Lib.hid hK
    obtain rfl : v0 = .agg #[.slice ua un uc, .slice ra rn rc, .slice ba bn bc] := hd 0 (by kernel_rfl)
    obtain rfl : v1 = .agg #[.int .i64 pk, .slice mu.a mu.len mu.cap, .int .i64 pv, .int .i64 pb, .slice ks.a ks.len ks.cap] := hd 1 (by kernel_rfl)
    obtain ⟨bR, rfl, hR⟩ : ∃ b : Nat, v5 = .slice (some ⟨b, 0, none⟩) un un ∧ IntsA y0.val ⟨some ⟨b, 0, none⟩, un, un⟩ (fun _ => 0) := hd 5 (by kernel_rfl)
    obtain rfl : v7 = .slice ua un uc := hd 7 (by kernel_rfl)
    clear hd hK
    go_wp2_with (go_at_call 52; (with_reducible refine Calls.mono (CR.out y0.val bR (y0.on HB5.out (by omega)) hR) ?_); rintro e _ ⟨rfl, ⟨z, rfl⟩⟩)
    exact HK.out _ _ rfl ⟨Cls.step y0 ⟨z, rfl⟩, ⟨z, rfl⟩⟩ rfl trivial
  simp only [Act.put, List.setIfInBounds_toArray, List.set_cons_zero, List.set_cons_succ] at hq
  subst hq
  refine inv_step (fun W hW hd K hK => ?_) (fun v9 aq hq => ?_)
  · obtain ⟨y0, rfl⟩ := hW
    have ys := y0.size
    have HK := Lib.hid hK
    obtain rfl : v8 = .bool rt := hd 8 (by kernel_rfl)
    clear hd hK
    go_wp2_with fail
    exact HK.out _ _ rfl ⟨⟨y0, rfl⟩, ⟨⟨y0.val, Below.refl _ _⟩, rfl⟩⟩ rfl trivial
  simp only [Act.put, List.setIfInBounds_toArray, List.set_cons_zero, List.set_cons_succ] at hq
  subst hq
  refine inv_nil fun W hW hT hR => ?_
  obtain ⟨y0, rfl⟩ := hW
  have ys := y0.size
  obtain rfl : v9 = .bool rt := hT 9 (by decide)
  clear hT hR
  go_wp2_with fail
  go_ret
  exact ⟨ret_bool (by simp), Cls.of (y0.on HB5.out (by omega))⟩
end Go.Proofs.Ytilhhbjdcdediaa
