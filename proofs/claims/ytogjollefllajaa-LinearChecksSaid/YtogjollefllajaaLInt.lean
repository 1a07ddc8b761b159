/-
  The program's integers: signs, products by a number, quotients, sums.
-/
import Derived.Test.YtogjollefllajaaLNat5
import Derived.Test.YtogjollefllajaaLNat6
import Derived.Test.YtogjollefllajaaFBig7
import Derived.Deep.RegionHeld3
set_option linter.unusedVariables false
namespace Go.Proofs.Ytogjollefllajaa
open Go Go.RowKit Go.Deep
def sgI (g : Bool) (m : Nat) : Int := if m = 0 then 0 else if g = true then -1 else 1
theorem two_b {W : World} {b : Nat} {a0 a1 : Value} {t : TypeId} (h : W.heap[b]? = some (.cells #[a0, a1] t)) :
    b < W.heap.size ∧ W.frozen? ⟨b, 0, none⟩ = false ∧ W.frozen? ⟨b, 1, none⟩ = false ∧ W.cell? ⟨b, 0, none⟩ = some a0 ∧ W.cell? ⟨b, 1, none⟩ = some a1 := two_z h
theorem new_at2 (w : World) (o o' : Obj) (cs : Array Value) (t : TypeId) : (((w.alloc o).alloc o').alloc (.cells cs t)).heap[w.heap.size + 1 + 1]? = some (.cells cs t) := by
  have := heap_alloc_new ((w.alloc o).alloc o') (.cells cs t)
  simpa using this
/-- A number does not lie in a block that holds a sign and a slice. -/
theorem NatAt.store2 {W : World} {s : Sl} {m T : Nat} {x : Bool} {a : Option Addr} {n c : Nat} {t : TypeId} (h : NatAt W s m) (hT : W.heap[T]? = some (.cells #[.bool x, .slice a n c] t)) (v0 v1 : Value) : NatAt ((W.setCell ⟨T, 0, none⟩ v0).setCell ⟨T, 1, none⟩ v1) s m := by
  obtain ⟨h1, h2, h3, h4⟩ := h
  refine ⟨h1, h2, h3, ?_⟩
  rcases h4 with h4 | ⟨b, off, ha, hb, hc⟩
  · exact .inl h4
  · by_cases h0 : s.len = 0
    · exact .inl h0
    · refine .inr ⟨b, off, ha, by simpa using hb, fun i hi => ?_⟩
      have hne : b ≠ T := by
        rintro rfl
        have h5 := hc 0 (by omega)
        rw [cell_of_row _ _ _ _ _ _ hT, Nat.add_zero] at h5
        rcases off with _ | _ | off <;> simp at h5
      rw [← hc i hi]
      refine World.cell?_of_block ?_
      rw [Below.heap_setCell _ _ _ _ hne, Below.heap_setCell _ _ _ _ hne]
theorem new_at2z (w : World) (o o' : Obj) (cs : Array Value) (t : TypeId) : ((((w.alloc o).alloc o').alloc (.cells cs t)).drew).heap[w.heap.size + 1 + 1]? = some (.cells cs t) := new_at2 w o o' cs t
set_option maxHeartbeats 4000000 in
set_option maxRecDepth 20000 in
theorem lsign_calls (g : Bool) (a : Option Addr) (n c : Nat) (m : Nat) (w : World) (h : NatAt w ⟨a, n, c⟩ m) :
    Calls Try.prog 52 #[.agg #[.bool g, .slice a n c]] w fun e w' => e = .returned (.int .i64 (sgI g m)) ∧ Cls w w' := by
  have hl : n = (wdigs m).length := h.1
  by_cases hm : m = 0
  · subst hm
    have hn : n = 0 := by rw [hl, wdigs_zero]; rfl
    subst hn
    have e : sgI g 0 = 0 := by simp [sgI]
    rw [e]
    clear h hl e
    go_enter Try.func52, Try.ntmps52
    go_wp2_with fail
    go_ret
    refine ⟨rfl, Cls.of ?_⟩
    repeat first | with_reducible exact Below.refl _ _ | with_reducible refine Below.setCell ?_ (by first | omega | (simp; done) | (simp; omega)) _ | with_reducible refine Below.alloc ?_ (by first | omega | (simp; done) | (simp; omega)) _ | with_reducible refine Below.drew ?_ | with_reducible refine Ext.on _ ?_ (by first | omega | (simp; done) | (simp; omega))
  · have hn : 0 < n := by rw [hl]; exact wdigs_len_pos (Nat.pos_of_ne_zero hm)
    have d2 : ((n : Int) == 0) = false := by simp; omega
    cases g with
    | true =>
      have e : sgI true m = -1 := by simp [sgI, hm]
      rw [e]
      clear h hl e hm
      go_enter Try.func52, Try.ntmps52
      go_wp2_with fail
      go_ret
      refine ⟨rfl, Cls.of ?_⟩
      repeat first | with_reducible exact Below.refl _ _ | with_reducible refine Below.setCell ?_ (by first | omega | (simp; done) | (simp; omega)) _ | with_reducible refine Below.alloc ?_ (by first | omega | (simp; done) | (simp; omega)) _ | with_reducible refine Below.drew ?_ | with_reducible refine Ext.on _ ?_ (by first | omega | (simp; done) | (simp; omega))
    | false =>
      have e : sgI false m = 1 := by simp [sgI, hm]
      rw [e]
      clear h hl e hm
      go_enter Try.func52, Try.ntmps52
      go_wp2_with fail
      go_ret
      refine ⟨rfl, Cls.of ?_⟩
      repeat first | with_reducible exact Below.refl _ _ | with_reducible refine Below.setCell ?_ (by first | omega | (simp; done) | (simp; omega)) _ | with_reducible refine Below.alloc ?_ (by first | omega | (simp; done) | (simp; omega)) _ | with_reducible refine Below.drew ?_ | with_reducible refine Ext.on _ ?_ (by first | omega | (simp; done) | (simp; omega))
set_option maxHeartbeats 8000000 in
set_option maxRecDepth 20000 in
theorem litimes_calls (g : Bool) (a : Option Addr) (n c : Nat) (m : Nat) (k : Int) (w : World) (h : NatAt w ⟨a, n, c⟩ m) (hn : n ≤ 1000) (hk : In64 k) :
    Calls Try.prog 79 #[.agg #[.bool g, .slice a n c], .int .i64 k] w fun e w' => ∃ s : Sl, e = .returned (.agg #[.bool (!(g == decide (k < 0))), .slice s.a s.len s.cap]) ∧ NatAt w' s (m * k.natAbs) ∧ Cls w w' := by
  have C1 := Lib.hid (fun W => lmagnitude_calls k W hk.1 hk.2)
  have C2 := Lib.hid (fun (W : World) (hb : Below w.heap.size w W) => ltimes_calls a n c m k.natAbs W (h.later hb) hn (by unfold In64 at hk; omega))
  clear h hk
  generalize hkn : k.natAbs = kn at *
  clear hkn
  generalize m * kn = r at *
  go_enter Try.func79, Try.ntmps79
  go_wp2_with fail
  go_region_held3 (fun w' => w'.cell? ⟨w.heap.size, 0, none⟩ = some (.bool g) ∧ w'.cell? ⟨w.heap.size, 1, none⟩ = some (.slice a n c))
    (first | (go_keep; done) | (refine ⟨?_, ?_⟩ <;> (rw [Ext.cell _ _ (by first | (simp; done) | (simp; omega) | omega)]; simp [*]; done)))
    (first
      | (go_at_call 76; (with_reducible refine Calls.mono (C1.out _) ?_); rintro e _ ⟨rfl, rfl⟩)
      | (go_at_call 82; (with_reducible refine Calls.mono (C2.out _ ?_) ?_); (focus (repeat first | with_reducible exact Below.refl _ _ | with_reducible refine Below.setCell ?_ (by first | omega | (simp; done) | (simp; omega)) _ | with_reducible refine Below.alloc ?_ (by first | omega | (simp; done) | (simp; omega)) _ | with_reducible refine Below.drew ?_ | with_reducible refine Ext.on _ ?_ (by first | omega | (simp; done) | (simp; omega)))); rintro e _ ⟨s, rfl, hs, ⟨y, rfl⟩⟩; have ys := y.size; (try simp at ys); have ya : w.heap.size < y.val.heap.size := (by omega); have yb : w.heap.size + 1 < y.val.heap.size := (by omega); have HT := Lib.hid ((y.below.block (w.heap.size + 1) (by simp)).trans (new_at1 w _ _ _ 0)); obtain ⟨k0, k1, k2, k3, k4⟩ := two_b HT.out))
  all_goals
    go_wp2
    refine ret_ex rfl ?_
    simp [results, Try.results79, go_sem, k3, k4]
    refine ⟨s, by simp, NatAt.store2 hs HT.out _ _, Cls.of (below2 ?_ (by omega) _ _)⟩
    repeat first | with_reducible exact Below.refl _ _ | with_reducible refine Below.setCell ?_ (by first | omega | (simp; done) | (simp; omega)) _ | with_reducible refine Below.alloc ?_ (by first | omega | (simp; done) | (simp; omega)) _ | with_reducible refine Below.drew ?_ | with_reducible refine Ext.on _ ?_ (by first | omega | (simp; done) | (simp; omega))
set_option maxHeartbeats 8000000 in
set_option maxRecDepth 20000 in
theorem liover_calls (g : Bool) (a : Option Addr) (n c : Nat) (m u : Nat) (w : World) (h : NatAt w ⟨a, n, c⟩ m) (hn : n ≤ 1000) (hu0 : 0 < u) (hu : u < 18446744073709551616) :
    Calls Try.prog 81 #[.agg #[.bool g, .slice a n c], .int .u64 u] w fun e w' => ∃ s : Sl, e = .returned (.agg #[.bool g, .slice s.a s.len s.cap]) ∧ NatAt w' s (m / u) ∧ Cls w w' := by
  have C1 := Lib.hid (fun (W : World) (hb : Below w.heap.size w W) => lover_calls a n c m u W (h.later hb) hn hu0 hu)
  clear h hu0 hu
  generalize m / u = r at *
  generalize m % u = z at *
  go_enter Try.func81, Try.ntmps81
  go_wp2_with (go_at_call 78; (with_reducible refine Calls.mono (C1.out _ ?_) ?_); (focus (repeat first | with_reducible exact Below.refl _ _ | with_reducible refine Below.setCell ?_ (by first | omega | (simp; done) | (simp; omega)) _ | with_reducible refine Below.alloc ?_ (by first | omega | (simp; done) | (simp; omega)) _ | with_reducible refine Below.drew ?_ | with_reducible refine Ext.on _ ?_ (by first | omega | (simp; done) | (simp; omega)))); rintro e _ ⟨s, rfl, hs, ⟨y, rfl⟩⟩; have ys := y.size; (try simp at ys); have ya : w.heap.size < y.val.heap.size := (by omega); have yb : w.heap.size + 1 < y.val.heap.size := (by omega); have HT := Lib.hid ((y.below.block (w.heap.size + 1) (by simp)).trans (new_at1 w _ _ _ 0)); obtain ⟨k0, k1, k2, k3, k4⟩ := two_b HT.out)
  refine ret_ex rfl ?_
  simp [results, Try.results81, go_sem, k3, k4]
  refine ⟨s, by simp, NatAt.store2 hs HT.out _ _, Cls.of (below2 ?_ (by omega) _ _)⟩
  repeat first | with_reducible exact Below.refl _ _ | with_reducible refine Below.setCell ?_ (by first | omega | (simp; done) | (simp; omega)) _ | with_reducible refine Below.alloc ?_ (by first | omega | (simp; done) | (simp; omega)) _ | with_reducible refine Below.drew ?_ | with_reducible refine Ext.on _ ?_ (by first | omega | (simp; done) | (simp; omega))
set_option maxHeartbeats 8000000 in
set_option maxRecDepth 20000 in
theorem liplus_same (g : Bool) (a : Option Addr) (n c : Nat) (a' : Option Addr) (n' c' : Nat) (m m' : Nat) (w : World) (h : NatAt w ⟨a, n, c⟩ m) (h' : NatAt w ⟨a', n', c'⟩ m') (hn : n ≤ 1000) (hn' : n' ≤ 1000) :
    Calls Try.prog 80 #[.agg #[.bool g, .slice a n c], .agg #[.bool g, .slice a' n' c']] w fun e w' => ∃ s : Sl, e = .returned (.agg #[.bool g, .slice s.a s.len s.cap]) ∧ NatAt w' s (m + m') ∧ Cls w w' := by
  have C1 := Lib.hid (fun (W : World) (hb : Below w.heap.size w W) => lplus_calls a n c a' n' c' m m' W (h.later hb) (h'.later hb) hn hn')
  clear h h'
  generalize m + m' = r at *
  go_enter Try.func80, Try.ntmps80
  go_wp2_with fail
  go_region_held3 (fun w' => w'.cell? ⟨w.heap.size, 0, none⟩ = some (.bool g) ∧ w'.cell? ⟨w.heap.size, 1, none⟩ = some (.slice a n c) ∧ w'.cell? ⟨w.heap.size + 1, 1, none⟩ = some (.slice a' n' c'))
    (first | (simp only [cell_a20, cell_a21]; assumption) | (go_keep; done) | (refine ⟨?_, ?_, ?_⟩ <;> (rw [Ext.cell _ _ (by first | (simp; done) | (simp; omega) | omega)]; simp [*]; done)))
    (first
      | (go_at_call 91; (with_reducible refine Calls.mono (C1.out _ ?_) ?_); (focus (repeat first | with_reducible exact Below.refl _ _ | with_reducible refine Below.setCell ?_ (by first | omega | (simp; done) | (simp; omega)) _ | with_reducible refine Below.alloc ?_ (by first | omega | (simp; done) | (simp; omega)) _ | with_reducible refine Below.drew ?_ | with_reducible refine Ext.on _ ?_ (by first | omega | (simp; done) | (simp; omega)))); rintro e _ ⟨s, rfl, hs, ⟨y, rfl⟩⟩; have ys := y.size; (try simp at ys); have ya : w.heap.size < y.val.heap.size := (by omega); have yb : w.heap.size + 1 < y.val.heap.size := (by omega); have yc : w.heap.size + 1 + 1 < y.val.heap.size := (by omega); have HT := Lib.hid ((y.below.block (w.heap.size + 1 + 1) (by first | (simp; done) | (simp; omega) | omega)).trans (new_at2z w _ _ _ _)); obtain ⟨k0, k1, k2, k3, k4⟩ := two_b HT.out))
  all_goals
    go_wp2
    refine ret_ex rfl ?_
    simp [results, Try.results80, go_sem, k3, k4]
    refine ⟨s, by simp, NatAt.store2 hs HT.out _ _, Cls.of (below2 ?_ (by omega) _ _)⟩
    repeat first | with_reducible exact Below.refl _ _ | with_reducible refine Below.setCell ?_ (by first | omega | (simp; done) | (simp; omega)) _ | with_reducible refine Below.alloc ?_ (by first | omega | (simp; done) | (simp; omega)) _ | with_reducible refine Below.drew ?_ | with_reducible refine Ext.on _ ?_ (by first | omega | (simp; done) | (simp; omega))
set_option maxHeartbeats 8000000 in
set_option maxRecDepth 20000 in
theorem liplus_more (g g' : Bool) (hg : (g == g') = false) (a : Option Addr) (n c : Nat) (a' : Option Addr) (n' c' : Nat) (m m' : Nat) (w : World) (h : NatAt w ⟨a, n, c⟩ m) (h' : NatAt w ⟨a', n', c'⟩ m') (hn : n ≤ 1000) (hn' : n' ≤ 1000) (hm : 0 < m) (hmm : m' ≤ m) :
    Calls Try.prog 80 #[.agg #[.bool g, .slice a n c], .agg #[.bool g', .slice a' n' c']] w fun e w' => ∃ s : Sl, e = .returned (.agg #[.bool g, .slice s.a s.len s.cap]) ∧ NatAt w' s (m - m') ∧ Cls w w' := by
  have C1 := Lib.hid (fun (W : World) (hb : Below w.heap.size w W) => lminus_calls a n c a' n' c' m m' W (h.later hb) (h'.later hb) hn hn' hm hmm)
  have C2 := Lib.hid (fun (W : World) (hb : Below w.heap.size w W) => lcompare_calls a n c a' n' c' m m' W (h.later hb) (h'.later hb))
  have d1 : decide (cmpN m m' < 0) = false := decide_eq_false (by unfold cmpN; rw [if_neg (by omega)]; split <;> omega)
  clear h h' hm hmm
  generalize m - m' = r at *
  generalize cmpN m m' = cr at *
  go_enter Try.func80, Try.ntmps80
  go_wp2_with (go_at_call 61; (with_reducible refine Calls.mono (C2.out _ ?_) ?_); (focus (repeat first | with_reducible exact Below.refl _ _ | with_reducible refine Below.setCell ?_ (by first | omega | (simp; done) | (simp; omega)) _ | with_reducible refine Below.alloc ?_ (by first | omega | (simp; done) | (simp; omega)) _ | with_reducible refine Below.drew ?_ | with_reducible refine Ext.on _ ?_ (by first | omega | (simp; done) | (simp; omega)))); rintro e _ ⟨rfl, ⟨y1, rfl⟩⟩; have y1s := y1.size; (try simp at y1s); have y1a : w.heap.size < y1.val.heap.size := (by omega); have y1b : w.heap.size + 1 < y1.val.heap.size := (by omega); have y1c : w.heap.size + 1 + 1 < y1.val.heap.size := (by omega); have T0 : y1.val.heap[w.heap.size + 1 + 1]? = _ := (y1.below.block (w.heap.size + 1 + 1) (by simp)).trans (new_at2 w _ _ _ _))
  have B0 := (y1.below.block (w.heap.size) (by simp; omega)).trans (new3_0 w _ _ _)
  have B1 := (y1.below.block (w.heap.size + 1) (by simp)).trans (new3_1 w _ _ _)
  obtain ⟨_, _, _, z0, z1⟩ := two_b B0
  obtain ⟨_, _, _, z2, z3⟩ := two_b B1
  clear B0 B1
  go_region_held3 (fun w' => w'.cell? ⟨w.heap.size, 0, none⟩ = some (.bool g) ∧ w'.cell? ⟨w.heap.size, 1, none⟩ = some (.slice a n c) ∧ w'.cell? ⟨w.heap.size + 1, 1, none⟩ = some (.slice a' n' c'))
    (first | (simp only [cell_a20, cell_a21]; assumption) | (go_keep; done) | (refine ⟨?_, ?_, ?_⟩ <;> (rw [Ext.cell _ _ (by first | (simp; done) | (simp; omega) | omega)]; simp [*]; done)))
    (first
      | (go_at_call 92; (with_reducible refine Calls.mono (C1.out _ ?_) ?_); (focus (repeat first | with_reducible exact Below.refl _ _ | with_reducible refine Below.setCell ?_ (by first | omega | (simp; done) | (simp; omega)) _ | with_reducible refine Below.alloc ?_ (by first | omega | (simp; done) | (simp; omega)) _ | with_reducible refine Below.drew ?_ | with_reducible refine Ext.on _ ?_ (by first | omega | (simp; done) | (simp; omega)))); rintro e _ ⟨s, rfl, hs, ⟨y, rfl⟩⟩; have ys := y.size; (try simp at ys); have ya : w.heap.size < y.val.heap.size := (by omega); have yb : w.heap.size + 1 < y.val.heap.size := (by omega); have yc : w.heap.size + 1 + 1 < y.val.heap.size := (by omega); have HT := Lib.hid ((y.below.block (w.heap.size + 1 + 1) (by first | (simp; done) | (simp; omega) | omega)).trans T0); obtain ⟨k0, k1, k2, k3, k4⟩ := two_b HT.out))
  all_goals
    go_wp2
    refine ret_ex rfl ?_
    simp [results, Try.results80, go_sem, k3, k4]
    refine ⟨s, by simp, NatAt.store2 hs HT.out _ _, Cls.of (below2 ?_ (by omega) _ _)⟩
    repeat first | with_reducible exact Below.refl _ _ | with_reducible refine Below.setCell ?_ (by first | omega | (simp; done) | (simp; omega)) _ | with_reducible refine Below.alloc ?_ (by first | omega | (simp; done) | (simp; omega)) _ | with_reducible refine Below.drew ?_ | with_reducible refine Ext.on _ ?_ (by first | omega | (simp; done) | (simp; omega))
set_option maxHeartbeats 8000000 in
set_option maxRecDepth 20000 in
theorem liplus_less (g g' : Bool) (hg : (g == g') = false) (a : Option Addr) (n c : Nat) (a' : Option Addr) (n' c' : Nat) (m m' : Nat) (w : World) (h : NatAt w ⟨a, n, c⟩ m) (h' : NatAt w ⟨a', n', c'⟩ m') (hn : n ≤ 1000) (hn' : n' ≤ 1000) (hmm : m < m') :
    Calls Try.prog 80 #[.agg #[.bool g, .slice a n c], .agg #[.bool g', .slice a' n' c']] w fun e w' => ∃ s : Sl, e = .returned (.agg #[.bool g', .slice s.a s.len s.cap]) ∧ NatAt w' s (m' - m) ∧ Cls w w' := by
  have C1 := Lib.hid (fun (W : World) (hb : Below w.heap.size w W) => lminus_calls a' n' c' a n c m' m W (h'.later hb) (h.later hb) hn' hn (by omega) (by omega))
  have C2 := Lib.hid (fun (W : World) (hb : Below w.heap.size w W) => lcompare_calls a n c a' n' c' m m' W (h.later hb) (h'.later hb))
  have d1 : decide (cmpN m m' < 0) = true := decide_eq_true (by unfold cmpN; rw [if_pos hmm]; omega)
  clear h h' hmm
  generalize m' - m = r at *
  generalize cmpN m m' = cr at *
  go_enter Try.func80, Try.ntmps80
  go_wp2_with (go_at_call 61; (with_reducible refine Calls.mono (C2.out _ ?_) ?_); (focus (repeat first | with_reducible exact Below.refl _ _ | with_reducible refine Below.setCell ?_ (by first | omega | (simp; done) | (simp; omega)) _ | with_reducible refine Below.alloc ?_ (by first | omega | (simp; done) | (simp; omega)) _ | with_reducible refine Below.drew ?_ | with_reducible refine Ext.on _ ?_ (by first | omega | (simp; done) | (simp; omega)))); rintro e _ ⟨rfl, ⟨y1, rfl⟩⟩; have y1s := y1.size; (try simp at y1s); have y1a : w.heap.size < y1.val.heap.size := (by omega); have y1b : w.heap.size + 1 < y1.val.heap.size := (by omega); have y1c : w.heap.size + 1 + 1 < y1.val.heap.size := (by omega); have T0 : y1.val.heap[w.heap.size + 1 + 1]? = _ := (y1.below.block (w.heap.size + 1 + 1) (by simp)).trans (new_at2 w _ _ _ _); have B0 := (y1.below.block (w.heap.size) (by simp; omega)).trans (new3_0 w _ _ _); have B1 := (y1.below.block (w.heap.size + 1) (by simp)).trans (new3_1 w _ _ _); obtain ⟨x0, x1, x2, z0, z1⟩ := two_b B0; obtain ⟨x3, x4, x5, z2, z3⟩ := two_b B1; have HB0 := Lib.hid B0; have HB1 := Lib.hid B1; clear B0 B1)
  obtain ⟨W4, hW4⟩ : ∃ W, W = ((((y1.val.setCell ⟨w.heap.size, 0, none⟩ (.bool g')).setCell ⟨w.heap.size, 1, none⟩ (.slice a' n' c')).setCell ⟨w.heap.size + 1, 0, none⟩ (.bool g)).setCell ⟨w.heap.size + 1, 1, none⟩ (.slice a n c)) := ⟨_, rfl⟩
  rw [← hW4]
  have hne1 : w.heap.size ≠ w.heap.size + 1 := by omega
  have hne2 : w.heap.size + 1 + 1 ≠ w.heap.size + 1 := by omega
  have hne3 : w.heap.size + 1 + 1 ≠ w.heap.size := by omega
  have H0 : W4.heap[w.heap.size]? = some (.cells #[.bool g', .slice a' n' c'] 53) := by
    rw [hW4, heap_setCell_other _ _ _ _ hne1, heap_setCell_other _ _ _ _ hne1, heap_setCell_same _ _ _ _ _ _ (heap_setCell_same _ _ _ _ _ _ HB0.out)]
    simp
  have H1 : W4.heap[w.heap.size + 1]? = some (.cells #[.bool g, .slice a n c] 53) := by
    rw [hW4, heap_setCell_same _ _ _ _ _ _ (heap_setCell_same _ _ _ _ _ _ ((heap_setCell_other _ _ _ _ (Ne.symm hne1)).trans ((heap_setCell_other _ _ _ _ (Ne.symm hne1)).trans HB1.out)))]
    simp
  have H2 : W4.heap[w.heap.size + 1 + 1]? = some (.cells #[.bool false, .slice none 0 0] 53) := by
    rw [hW4, heap_setCell_other _ _ _ _ hne2, heap_setCell_other _ _ _ _ hne2, heap_setCell_other _ _ _ _ hne3, heap_setCell_other _ _ _ _ hne3]
    exact T0
  have hB4 : Below w.heap.size w W4 := by
    rw [hW4]
    repeat first | with_reducible exact Below.refl _ _ | with_reducible refine Below.setCell ?_ (by first | omega | (simp; done) | (simp; omega)) _ | with_reducible refine Below.alloc ?_ (by first | omega | (simp; done) | (simp; omega)) _ | with_reducible refine Below.drew ?_ | with_reducible refine Ext.on _ ?_ (by first | omega | (simp; done) | (simp; omega))
  clear hW4 z0 z1 z2 z3 T0 x0 x1 x2 x3 x4 x5 HB0 HB1 hne1 hne2 hne3
  obtain ⟨x0, _, _, z0, z1⟩ := two_b H0
  obtain ⟨x1, _, _, z2, z3⟩ := two_b H1
  have x2 := (two_b H2).1
  have hB4s := hB4.size
  have HH2 := Lib.hid H2
  clear H0 H1 H2
  go_region_held3 (fun w' => w'.cell? ⟨w.heap.size, 0, none⟩ = some (.bool g') ∧ w'.cell? ⟨w.heap.size, 1, none⟩ = some (.slice a' n' c') ∧ w'.cell? ⟨w.heap.size + 1, 1, none⟩ = some (.slice a n c))
    (first | (simp only [cell_a20, cell_a21]; assumption) | (go_keep; done) | (refine ⟨?_, ?_, ?_⟩ <;> (rw [Ext.cell _ _ (by first | (simp; done) | (simp; omega) | omega)]; simp [*]; done)))
    (first
      | (go_at_call 92; (with_reducible refine Calls.mono (C1.out _ ?_) ?_); (focus (repeat first | with_reducible exact hB4 | with_reducible refine Below.drew ?_)); rintro e _ ⟨s, rfl, hs, ⟨y, rfl⟩⟩; have ys := y.size; (try simp at ys); have ya : w.heap.size < y.val.heap.size := (by omega); have yb : w.heap.size + 1 < y.val.heap.size := (by omega); have yc : w.heap.size + 1 + 1 < y.val.heap.size := (by omega); have HT := Lib.hid ((y.below.block (w.heap.size + 1 + 1) (by first | (simp; done) | (simp; omega) | omega)).trans HH2.out); obtain ⟨k0, k1, k2, k3, k4⟩ := two_b HT.out))
  all_goals
    go_wp2
    refine ret_ex rfl ?_
    simp [results, Try.results80, go_sem, k3, k4]
    refine ⟨s, by simp, NatAt.store2 hs HT.out _ _, Cls.of (below2 ?_ (by omega) _ _)⟩
    exact y.on hB4.drew (by simpa using hB4s)
end Go.Proofs.Ytogjollefllajaa
