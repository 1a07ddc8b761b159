/-
  The program's integers: signs, products by a number, quotients, sums. Sums of fractions over the least common denominator, as the program reckons them. Plain integers. The program's integers: products, sums and quotients as numbers.
-/
import Derived.Test.YthbdkhmgopahbaaJ12
import Derived.Test.YthbdkhmgopahbaaJ08
import Derived.Deep.RegionHeld3
import Derived.Test.YthbdkhmgopahbaaJ11
import Derived.Test.YthbdkhmgopahbaaJ05
set_option linter.unusedVariables false
namespace Go.Proofs.Ythbdkhmgopahbaa
open Go Go.RowKit Go.Deep
def sgI (g : Bool) (m : Nat) : Int := if m = 0 then 0 else if g = true then -1 else 1
theorem two_b {W : World} {b : Nat} {a0 a1 : Value} {t : TypeId} (h : W.heap[b]? = some (.cells #[a0, a1] t)) :
    b < W.heap.size ∧ W.frozen? ⟨b, 0, none⟩ = false ∧ W.frozen? ⟨b, 1, none⟩ = false ∧ W.cell? ⟨b, 0, none⟩ = some a0 ∧ W.cell? ⟨b, 1, none⟩ = some a1 := two_z h
theorem new_at2 (w : World) (o o' : Obj) (cs : Array Value) (t : TypeId) : (((w.alloc o).alloc o').alloc (.cells cs t)).heap[w.heap.size + 1 + 1]? = some (.cells cs t) := by
  have := heap_alloc_new ((w.alloc o).alloc o') (.cells cs t)
  simpa using this
/-- A number does not lie in a block that holds a sign and a slice. -/
theorem NatAt.store2 {W : World} {s : Sl} {m T : Nat} {x : Bool} {a : Option Addr} {n c : Nat} {t : TypeId} (h : NatAt W s m) (hT : W.heap[T]? = some (.cells #[.bool x, .slice a n c] t)) (v0 v1 : Value) : NatAt ((W.setCell ⟨T, 0, none⟩ v0).setCell ⟨T, 1, none⟩ v1) s m := by
  obtain ⟨h1, h2, h3, h4⟩ := h
  refine ⟨h1, h2, h3, ?_⟩
  rcases h4 with h4 | ⟨b, off, ha, hb, hc⟩
  · exact .inl h4
  · by_cases h0 : s.len = 0
    · exact .inl h0
    · refine .inr ⟨b, off, ha, by simpa using hb, fun i hi => ?_⟩
      have hne : b ≠ T := by
        rintro rfl
        have h5 := hc 0 (by omega)
        rw [cell_of_row _ _ _ _ _ _ hT, Nat.add_zero] at h5
        rcases off with _ | _ | off <;> simp at h5
      rw [← hc i hi]
      refine World.cell?_of_block ?_
      rw [Below.heap_setCell _ _ _ _ hne, Below.heap_setCell _ _ _ _ hne]
theorem new_at2z (w : World) (o o' : Obj) (cs : Array Value) (t : TypeId) : ((((w.alloc o).alloc o').alloc (.cells cs t)).drew).heap[w.heap.size + 1 + 1]? = some (.cells cs t) := new_at2 w o o' cs t
set_option maxHeartbeats 4000000 in
set_option maxRecDepth 20000 in
theorem lsign_calls (g : Bool) (a : Option Addr) (n c : Nat) (m : Nat) (w : World) (h : NatAt w ⟨a, n, c⟩ m) :
    Calls Try.prog 59 #[.agg #[.bool g, .slice a n c]] w fun e w' => e = .returned (.int .i64 (sgI g m)) ∧ Cls w w' := by
  have hl : n = (wdigs m).length := h.1
  by_cases hm : m = 0
  · subst hm
    have hn : n = 0 := by rw [hl, wdigs_zero]; rfl
    subst hn
    have e : sgI g 0 = 0 := by simp [sgI]
    rw [e]
    clear h hl e
    go_enter Try.func59, Try.ntmps59
    go_wp2_with fail
    go_ret
    refine ⟨rfl, Cls.of ?_⟩
    repeat first | with_reducible exact Below.refl _ _ | with_reducible refine Below.setCell ?_ (by first | omega | (simp; done) | (simp; omega)) _ | with_reducible refine Below.alloc ?_ (by first | omega | (simp; done) | (simp; omega)) _ | with_reducible refine Below.drew ?_ | with_reducible refine Ext.on _ ?_ (by first | omega | (simp; done) | (simp; omega))
  · have hn : 0 < n := by rw [hl]; exact wdigs_len_pos (Nat.pos_of_ne_zero hm)
    have d2 : ((n : Int) == 0) = false := by simp; omega
    cases g with
    | true =>
      have e : sgI true m = -1 := by simp [sgI, hm]
      rw [e]
      clear h hl e hm
      go_enter Try.func59, Try.ntmps59
      go_wp2_with fail
      go_ret
      refine ⟨rfl, Cls.of ?_⟩
      repeat first | with_reducible exact Below.refl _ _ | with_reducible refine Below.setCell ?_ (by first | omega | (simp; done) | (simp; omega)) _ | with_reducible refine Below.alloc ?_ (by first | omega | (simp; done) | (simp; omega)) _ | with_reducible refine Below.drew ?_ | with_reducible refine Ext.on _ ?_ (by first | omega | (simp; done) | (simp; omega))
    | false =>
      have e : sgI false m = 1 := by simp [sgI, hm]
      rw [e]
      clear h hl e hm
      go_enter Try.func59, Try.ntmps59
      go_wp2_with fail
      go_ret
      refine ⟨rfl, Cls.of ?_⟩
      repeat first | with_reducible exact Below.refl _ _ | with_reducible refine Below.setCell ?_ (by first | omega | (simp; done) | (simp; omega)) _ | with_reducible refine Below.alloc ?_ (by first | omega | (simp; done) | (simp; omega)) _ | with_reducible refine Below.drew ?_ | with_reducible refine Ext.on _ ?_ (by first | omega | (simp; done) | (simp; omega))
set_option maxHeartbeats 8000000 in
set_option maxRecDepth 20000 in
theorem litimes_calls (g : Bool) (a : Option Addr) (n c : Nat) (m : Nat) (k : Int) (w : World) (h : NatAt w ⟨a, n, c⟩ m) (hn : n ≤ 1000) (hk : In64 k) :
    Calls Try.prog 90 #[.agg #[.bool g, .slice a n c], .int .i64 k] w fun e w' => ∃ s : Sl, e = .returned (.agg #[.bool (!(g == decide (k < 0))), .slice s.a s.len s.cap]) ∧ NatAt w' s (m * k.natAbs) ∧ Cls w w' := by
  have C1 := Lib.hid (fun W => lmagnitude_calls k W hk.1 hk.2)
  have C2 := Lib.hid (fun (W : World) (hb : Below w.heap.size w W) => ltimes_calls a n c m k.natAbs W (h.later hb) hn (by unfold In64 at hk; omega))
  clear h hk
  generalize hkn : k.natAbs = kn at *
  clear hkn
  generalize m * kn = r at *
  go_enter Try.func90, Try.ntmps90
  go_wp2_with fail
  go_region_held3 (fun w' => w'.cell? ⟨w.heap.size, 0, none⟩ = some (.bool g) ∧ w'.cell? ⟨w.heap.size, 1, none⟩ = some (.slice a n c))
    (first | (go_keep; done) | (refine ⟨?_, ?_⟩ <;> (rw [Ext.cell _ _ (by first | (simp; done) | (simp; omega) | omega)]; simp [*]; done)))
    (first
      | (go_at_call 87; (with_reducible refine Calls.mono (C1.out _) ?_); rintro e _ ⟨rfl, rfl⟩)
      | (go_at_call 93; (with_reducible refine Calls.mono (C2.out _ ?_) ?_); (focus (repeat first | with_reducible exact Below.refl _ _ | with_reducible refine Below.setCell ?_ (by first | omega | (simp; done) | (simp; omega)) _ | with_reducible refine Below.alloc ?_ (by first | omega | (simp; done) | (simp; omega)) _ | with_reducible refine Below.drew ?_ | with_reducible refine Ext.on _ ?_ (by first | omega | (simp; done) | (simp; omega)))); rintro e _ ⟨s, rfl, hs, ⟨y, rfl⟩⟩; have ys := y.size; (try simp at ys); have ya : w.heap.size < y.val.heap.size := (by omega); have yb : w.heap.size + 1 < y.val.heap.size := (by omega); have HT := Lib.hid ((y.below.block (w.heap.size + 1) (by simp)).trans (new_at1 w _ _ _ 0)); obtain ⟨k0, k1, k2, k3, k4⟩ := two_b HT.out))
  all_goals
    go_wp2
    refine ret_ex rfl ?_
    simp [results, Try.results90, go_sem, k3, k4]
    refine ⟨s, by simp, NatAt.store2 hs HT.out _ _, Cls.of (below2 ?_ (by omega) _ _)⟩
    repeat first | with_reducible exact Below.refl _ _ | with_reducible refine Below.setCell ?_ (by first | omega | (simp; done) | (simp; omega)) _ | with_reducible refine Below.alloc ?_ (by first | omega | (simp; done) | (simp; omega)) _ | with_reducible refine Below.drew ?_ | with_reducible refine Ext.on _ ?_ (by first | omega | (simp; done) | (simp; omega))
set_option maxHeartbeats 8000000 in
set_option maxRecDepth 20000 in
theorem liover_calls (g : Bool) (a : Option Addr) (n c : Nat) (m u : Nat) (w : World) (h : NatAt w ⟨a, n, c⟩ m) (hn : n ≤ 1000) (hu0 : 0 < u) (hu : u < 18446744073709551616) :
    Calls Try.prog 92 #[.agg #[.bool g, .slice a n c], .int .u64 u] w fun e w' => ∃ s : Sl, e = .returned (.agg #[.bool g, .slice s.a s.len s.cap]) ∧ NatAt w' s (m / u) ∧ Cls w w' := by
  have C1 := Lib.hid (fun (W : World) (hb : Below w.heap.size w W) => lover_calls a n c m u W (h.later hb) hn hu0 hu)
  clear h hu0 hu
  generalize m / u = r at *
  generalize m % u = z at *
  go_enter Try.func92, Try.ntmps92
  go_wp2_with (go_at_call 89; (with_reducible refine Calls.mono (C1.out _ ?_) ?_); (focus (repeat first | with_reducible exact Below.refl _ _ | with_reducible refine Below.setCell ?_ (by first | omega | (simp; done) | (simp; omega)) _ | with_reducible refine Below.alloc ?_ (by first | omega | (simp; done) | (simp; omega)) _ | with_reducible refine Below.drew ?_ | with_reducible refine Ext.on _ ?_ (by first | omega | (simp; done) | (simp; omega)))); rintro e _ ⟨s, rfl, hs, ⟨y, rfl⟩⟩; have ys := y.size; (try simp at ys); have ya : w.heap.size < y.val.heap.size := (by omega); have yb : w.heap.size + 1 < y.val.heap.size := (by omega); have HT := Lib.hid ((y.below.block (w.heap.size + 1) (by simp)).trans (new_at1 w _ _ _ 0)); obtain ⟨k0, k1, k2, k3, k4⟩ := two_b HT.out)
  refine ret_ex rfl ?_
  simp [results, Try.results92, go_sem, k3, k4]
  refine ⟨s, by simp, NatAt.store2 hs HT.out _ _, Cls.of (below2 ?_ (by omega) _ _)⟩
  repeat first | with_reducible exact Below.refl _ _ | with_reducible refine Below.setCell ?_ (by first | omega | (simp; done) | (simp; omega)) _ | with_reducible refine Below.alloc ?_ (by first | omega | (simp; done) | (simp; omega)) _ | with_reducible refine Below.drew ?_ | with_reducible refine Ext.on _ ?_ (by first | omega | (simp; done) | (simp; omega))
set_option maxHeartbeats 8000000 in
set_option maxRecDepth 20000 in
theorem liplus_same (g : Bool) (a : Option Addr) (n c : Nat) (a' : Option Addr) (n' c' : Nat) (m m' : Nat) (w : World) (h : NatAt w ⟨a, n, c⟩ m) (h' : NatAt w ⟨a', n', c'⟩ m') (hn : n ≤ 1000) (hn' : n' ≤ 1000) :
    Calls Try.prog 91 #[.agg #[.bool g, .slice a n c], .agg #[.bool g, .slice a' n' c']] w fun e w' => ∃ s : Sl, e = .returned (.agg #[.bool g, .slice s.a s.len s.cap]) ∧ NatAt w' s (m + m') ∧ Cls w w' := by
  have C1 := Lib.hid (fun (W : World) (hb : Below w.heap.size w W) => lplus_calls a n c a' n' c' m m' W (h.later hb) (h'.later hb) hn hn')
  clear h h'
  generalize m + m' = r at *
  go_enter Try.func91, Try.ntmps91
  go_wp2_with fail
  go_region_held3 (fun w' => w'.cell? ⟨w.heap.size, 0, none⟩ = some (.bool g) ∧ w'.cell? ⟨w.heap.size, 1, none⟩ = some (.slice a n c) ∧ w'.cell? ⟨w.heap.size + 1, 1, none⟩ = some (.slice a' n' c'))
    (first | (simp only [cell_a20, cell_a21]; assumption) | (go_keep; done) | (refine ⟨?_, ?_, ?_⟩ <;> (rw [Ext.cell _ _ (by first | (simp; done) | (simp; omega) | omega)]; simp [*]; done)))
    (first
      | (go_at_call 106; (with_reducible refine Calls.mono (C1.out _ ?_) ?_); (focus (repeat first | with_reducible exact Below.refl _ _ | with_reducible refine Below.setCell ?_ (by first | omega | (simp; done) | (simp; omega)) _ | with_reducible refine Below.alloc ?_ (by first | omega | (simp; done) | (simp; omega)) _ | with_reducible refine Below.drew ?_ | with_reducible refine Ext.on _ ?_ (by first | omega | (simp; done) | (simp; omega)))); rintro e _ ⟨s, rfl, hs, ⟨y, rfl⟩⟩; have ys := y.size; (try simp at ys); have ya : w.heap.size < y.val.heap.size := (by omega); have yb : w.heap.size + 1 < y.val.heap.size := (by omega); have yc : w.heap.size + 1 + 1 < y.val.heap.size := (by omega); have HT := Lib.hid ((y.below.block (w.heap.size + 1 + 1) (by first | (simp; done) | (simp; omega) | omega)).trans (new_at2z w _ _ _ _)); obtain ⟨k0, k1, k2, k3, k4⟩ := two_b HT.out))
  all_goals
    go_wp2
    refine ret_ex rfl ?_
    simp [results, Try.results91, go_sem, k3, k4]
    refine ⟨s, by simp, NatAt.store2 hs HT.out _ _, Cls.of (below2 ?_ (by omega) _ _)⟩
    repeat first | with_reducible exact Below.refl _ _ | with_reducible refine Below.setCell ?_ (by first | omega | (simp; done) | (simp; omega)) _ | with_reducible refine Below.alloc ?_ (by first | omega | (simp; done) | (simp; omega)) _ | with_reducible refine Below.drew ?_ | with_reducible refine Ext.on _ ?_ (by first | omega | (simp; done) | (simp; omega))
set_option maxHeartbeats 8000000 in
set_option maxRecDepth 20000 in
theorem liplus_more (g g' : Bool) (hg : (g == g') = false) (a : Option Addr) (n c : Nat) (a' : Option Addr) (n' c' : Nat) (m m' : Nat) (w : World) (h : NatAt w ⟨a, n, c⟩ m) (h' : NatAt w ⟨a', n', c'⟩ m') (hn : n ≤ 1000) (hn' : n' ≤ 1000) (hm : 0 < m) (hmm : m' ≤ m) :
    Calls Try.prog 91 #[.agg #[.bool g, .slice a n c], .agg #[.bool g', .slice a' n' c']] w fun e w' => ∃ s : Sl, e = .returned (.agg #[.bool g, .slice s.a s.len s.cap]) ∧ NatAt w' s (m - m') ∧ Cls w w' := by
  have C1 := Lib.hid (fun (W : World) (hb : Below w.heap.size w W) => lminus_calls a n c a' n' c' m m' W (h.later hb) (h'.later hb) hn hn' hm hmm)
  have C2 := Lib.hid (fun (W : World) (hb : Below w.heap.size w W) => lcompare_calls a n c a' n' c' m m' W (h.later hb) (h'.later hb))
  have d1 : decide (cmpN m m' < 0) = false := decide_eq_false (by unfold cmpN; rw [if_neg (by omega)]; split <;> omega)
  clear h h' hm hmm
  generalize m - m' = r at *
  generalize cmpN m m' = cr at *
  go_enter Try.func91, Try.ntmps91
  go_wp2_with (go_at_call 58; (with_reducible refine Calls.mono (C2.out _ ?_) ?_); (focus (repeat first | with_reducible exact Below.refl _ _ | with_reducible refine Below.setCell ?_ (by first | omega | (simp; done) | (simp; omega)) _ | with_reducible refine Below.alloc ?_ (by first | omega | (simp; done) | (simp; omega)) _ | with_reducible refine Below.drew ?_ | with_reducible refine Ext.on _ ?_ (by first | omega | (simp; done) | (simp; omega)))); rintro e _ ⟨rfl, ⟨y1, rfl⟩⟩; have y1s := y1.size; (try simp at y1s); have y1a : w.heap.size < y1.val.heap.size := (by omega); have y1b : w.heap.size + 1 < y1.val.heap.size := (by omega); have y1c : w.heap.size + 1 + 1 < y1.val.heap.size := (by omega); have T0 : y1.val.heap[w.heap.size + 1 + 1]? = _ := (y1.below.block (w.heap.size + 1 + 1) (by simp)).trans (new_at2 w _ _ _ _))
  have B0 := (y1.below.block (w.heap.size) (by simp; omega)).trans (new3_0 w _ _ _)
  have B1 := (y1.below.block (w.heap.size + 1) (by simp)).trans (new3_1 w _ _ _)
  obtain ⟨_, _, _, z0, z1⟩ := two_b B0
  obtain ⟨_, _, _, z2, z3⟩ := two_b B1
  clear B0 B1
  go_region_held3 (fun w' => w'.cell? ⟨w.heap.size, 0, none⟩ = some (.bool g) ∧ w'.cell? ⟨w.heap.size, 1, none⟩ = some (.slice a n c) ∧ w'.cell? ⟨w.heap.size + 1, 1, none⟩ = some (.slice a' n' c'))
    (first | (simp only [cell_a20, cell_a21]; assumption) | (go_keep; done) | (refine ⟨?_, ?_, ?_⟩ <;> (rw [Ext.cell _ _ (by first | (simp; done) | (simp; omega) | omega)]; simp [*]; done)))
    (first
      | (go_at_call 107; (with_reducible refine Calls.mono (C1.out _ ?_) ?_); (focus (repeat first | with_reducible exact Below.refl _ _ | with_reducible refine Below.setCell ?_ (by first | omega | (simp; done) | (simp; omega)) _ | with_reducible refine Below.alloc ?_ (by first | omega | (simp; done) | (simp; omega)) _ | with_reducible refine Below.drew ?_ | with_reducible refine Ext.on _ ?_ (by first | omega | (simp; done) | (simp; omega)))); rintro e _ ⟨s, rfl, hs, ⟨y, rfl⟩⟩; have ys := y.size; (try simp at ys); have ya : w.heap.size < y.val.heap.size := (by omega); have yb : w.heap.size + 1 < y.val.heap.size := (by omega); have yc : w.heap.size + 1 + 1 < y.val.heap.size := (by omega); have HT := Lib.hid ((y.below.block (w.heap.size + 1 + 1) (by first | (simp; done) | (simp; omega) | omega)).trans T0); obtain ⟨k0, k1, k2, k3, k4⟩ := two_b HT.out))
  all_goals
    go_wp2
    refine ret_ex rfl ?_
    simp [results, Try.results91, go_sem, k3, k4]
    refine ⟨s, by simp, NatAt.store2 hs HT.out _ _, Cls.of (below2 ?_ (by omega) _ _)⟩
    repeat first | with_reducible exact Below.refl _ _ | with_reducible refine Below.setCell ?_ (by first | omega | (simp; done) | (simp; omega)) _ | with_reducible refine Below.alloc ?_ (by first | omega | (simp; done) | (simp; omega)) _ | with_reducible refine Below.drew ?_ | with_reducible refine Ext.on _ ?_ (by first | omega | (simp; done) | (simp; omega))
set_option maxHeartbeats 8000000 in
set_option maxRecDepth 20000 in
theorem liplus_less (g g' : Bool) (hg : (g == g') = false) (a : Option Addr) (n c : Nat) (a' : Option Addr) (n' c' : Nat) (m m' : Nat) (w : World) (h : NatAt w ⟨a, n, c⟩ m) (h' : NatAt w ⟨a', n', c'⟩ m') (hn : n ≤ 1000) (hn' : n' ≤ 1000) (hmm : m < m') :
    Calls Try.prog 91 #[.agg #[.bool g, .slice a n c], .agg #[.bool g', .slice a' n' c']] w fun e w' => ∃ s : Sl, e = .returned (.agg #[.bool g', .slice s.a s.len s.cap]) ∧ NatAt w' s (m' - m) ∧ Cls w w' := by
  have C1 := Lib.hid (fun (W : World) (hb : Below w.heap.size w W) => lminus_calls a' n' c' a n c m' m W (h'.later hb) (h.later hb) hn' hn (by omega) (by omega))
  have C2 := Lib.hid (fun (W : World) (hb : Below w.heap.size w W) => lcompare_calls a n c a' n' c' m m' W (h.later hb) (h'.later hb))
  have d1 : decide (cmpN m m' < 0) = true := decide_eq_true (by unfold cmpN; rw [if_pos hmm]; omega)
  clear h h' hmm
  generalize m' - m = r at *
  generalize cmpN m m' = cr at *
  go_enter Try.func91, Try.ntmps91
  go_wp2_with (go_at_call 58; (with_reducible refine Calls.mono (C2.out _ ?_) ?_); (focus (repeat first | with_reducible exact Below.refl _ _ | with_reducible refine Below.setCell ?_ (by first | omega | (simp; done) | (simp; omega)) _ | with_reducible refine Below.alloc ?_ (by first | omega | (simp; done) | (simp; omega)) _ | with_reducible refine Below.drew ?_ | with_reducible refine Ext.on _ ?_ (by first | omega | (simp; done) | (simp; omega)))); rintro e _ ⟨rfl, ⟨y1, rfl⟩⟩; have y1s := y1.size; (try simp at y1s); have y1a : w.heap.size < y1.val.heap.size := (by omega); have y1b : w.heap.size + 1 < y1.val.heap.size := (by omega); have y1c : w.heap.size + 1 + 1 < y1.val.heap.size := (by omega); have T0 : y1.val.heap[w.heap.size + 1 + 1]? = _ := (y1.below.block (w.heap.size + 1 + 1) (by simp)).trans (new_at2 w _ _ _ _); have B0 := (y1.below.block (w.heap.size) (by simp; omega)).trans (new3_0 w _ _ _); have B1 := (y1.below.block (w.heap.size + 1) (by simp)).trans (new3_1 w _ _ _); obtain ⟨x0, x1, x2, z0, z1⟩ := two_b B0; obtain ⟨x3, x4, x5, z2, z3⟩ := two_b B1; have HB0 := Lib.hid B0; have HB1 := Lib.hid B1; clear B0 B1)
  obtain ⟨W4, hW4⟩ : ∃ W, W = ((((y1.val.setCell ⟨w.heap.size, 0, none⟩ (.bool g')).setCell ⟨w.heap.size, 1, none⟩ (.slice a' n' c')).setCell ⟨w.heap.size + 1, 0, none⟩ (.bool g)).setCell ⟨w.heap.size + 1, 1, none⟩ (.slice a n c)) := ⟨_, rfl⟩
  rw [← hW4]
  have hne1 : w.heap.size ≠ w.heap.size + 1 := by omega
  have hne2 : w.heap.size + 1 + 1 ≠ w.heap.size + 1 := by omega
  have hne3 : w.heap.size + 1 + 1 ≠ w.heap.size := by omega
  have H0 : W4.heap[w.heap.size]? = some (.cells #[.bool g', .slice a' n' c'] 58) := by
    rw [hW4, heap_setCell_other _ _ _ _ hne1, heap_setCell_other _ _ _ _ hne1, heap_setCell_same _ _ _ _ _ _ (heap_setCell_same _ _ _ _ _ _ HB0.out)]
    simp
  have H1 : W4.heap[w.heap.size + 1]? = some (.cells #[.bool g, .slice a n c] 58) := by
    rw [hW4, heap_setCell_same _ _ _ _ _ _ (heap_setCell_same _ _ _ _ _ _ ((heap_setCell_other _ _ _ _ (Ne.symm hne1)).trans ((heap_setCell_other _ _ _ _ (Ne.symm hne1)).trans HB1.out)))]
    simp
  have H2 : W4.heap[w.heap.size + 1 + 1]? = some (.cells #[.bool false, .slice none 0 0] 58) := by
    rw [hW4, heap_setCell_other _ _ _ _ hne2, heap_setCell_other _ _ _ _ hne2, heap_setCell_other _ _ _ _ hne3, heap_setCell_other _ _ _ _ hne3]
    exact T0
  have hB4 : Below w.heap.size w W4 := by
    rw [hW4]
    repeat first | with_reducible exact Below.refl _ _ | with_reducible refine Below.setCell ?_ (by first | omega | (simp; done) | (simp; omega)) _ | with_reducible refine Below.alloc ?_ (by first | omega | (simp; done) | (simp; omega)) _ | with_reducible refine Below.drew ?_ | with_reducible refine Ext.on _ ?_ (by first | omega | (simp; done) | (simp; omega))
  clear hW4 z0 z1 z2 z3 T0 x0 x1 x2 x3 x4 x5 HB0 HB1 hne1 hne2 hne3
  obtain ⟨x0, _, _, z0, z1⟩ := two_b H0
  obtain ⟨x1, _, _, z2, z3⟩ := two_b H1
  have x2 := (two_b H2).1
  have hB4s := hB4.size
  have HH2 := Lib.hid H2
  clear H0 H1 H2
  go_region_held3 (fun w' => w'.cell? ⟨w.heap.size, 0, none⟩ = some (.bool g') ∧ w'.cell? ⟨w.heap.size, 1, none⟩ = some (.slice a' n' c') ∧ w'.cell? ⟨w.heap.size + 1, 1, none⟩ = some (.slice a n c))
    (first | (simp only [cell_a20, cell_a21]; assumption) | (go_keep; done) | (refine ⟨?_, ?_, ?_⟩ <;> (rw [Ext.cell _ _ (by first | (simp; done) | (simp; omega) | omega)]; simp [*]; done)))
    (first
      | (go_at_call 107; (with_reducible refine Calls.mono (C1.out _ ?_) ?_); (focus (repeat first | with_reducible exact hB4 | with_reducible refine Below.drew ?_)); rintro e _ ⟨s, rfl, hs, ⟨y, rfl⟩⟩; have ys := y.size; (try simp at ys); have ya : w.heap.size < y.val.heap.size := (by omega); have yb : w.heap.size + 1 < y.val.heap.size := (by omega); have yc : w.heap.size + 1 + 1 < y.val.heap.size := (by omega); have HT := Lib.hid ((y.below.block (w.heap.size + 1 + 1) (by first | (simp; done) | (simp; omega) | omega)).trans HH2.out); obtain ⟨k0, k1, k2, k3, k4⟩ := two_b HT.out))
  all_goals
    go_wp2
    refine ret_ex rfl ?_
    simp [results, Try.results91, go_sem, k3, k4]
    refine ⟨s, by simp, NatAt.store2 hs HT.out _ _, Cls.of (below2 ?_ (by omega) _ _)⟩
    exact y.on hB4.drew (by simpa using hB4s)
end Go.Proofs.Ythbdkhmgopahbaa
set_option linter.unusedVariables false
namespace Go.Proofs.Ythbdkhmgopahbaa
/-- A number with k words stays below. -/
def wp (k : Nat) : Nat := 18446744073709551616 ^ k
theorem wp_pos (k : Nat) : 0 < wp k := Nat.pow_pos (by omega)
theorem wp_mul {a b j k : Nat} (ha : a < wp j) (hb : b < wp k) : a * b < wp (j + k) := by
  unfold wp at *; rw [Nat.pow_add]; exact Nat.mul_lt_mul_of_lt_of_lt ha hb
theorem wp_mono {a j k : Nat} (ha : a < wp j) (h : j ≤ k) : a < wp k := by
  unfold wp at *; exact Nat.lt_of_lt_of_le ha (Nat.pow_le_pow_right (by omega) h)
theorem wp_le {a b k : Nat} (ha : a ≤ b) (hb : b < wp k) : a < wp k := Nat.lt_of_le_of_lt ha hb
theorem wp_one {a : Nat} (ha : a < 18446744073709551616) : a < wp 1 := by unfold wp; simpa using ha
theorem wp_add {a b k : Nat} (ha : a < wp k) (hb : b < wp k) : a + b < wp (k + 1) := by
  unfold wp at *; rw [Nat.pow_succ]; generalize 18446744073709551616 ^ k = p at *; omega
theorem wp_len {n k : Nat} (h : n < wp k) : (wdigs n).length ≤ k := wdigs_len_le h
def sgB (g : Bool) (m : Nat) : Int := if g = true then -(m : Int) else m
theorem sgB_times (g : Bool) (m : Nat) (k : Int) : sgB (!(g == decide (k < 0))) (m * k.natAbs) = sgB g m * k := by
  by_cases hk : k < 0
  · rw [decide_eq_true hk]
    obtain ⟨q, rfl⟩ : ∃ q : Nat, k = -(q : Int) := ⟨k.natAbs, by omega⟩
    rw [Int.natAbs_neg, Int.natAbs_natCast]
    cases g <;> simp [sgB, Int.natCast_mul, Int.mul_neg, Int.neg_mul]
  · rw [decide_eq_false hk]
    obtain ⟨q, rfl⟩ : ∃ q : Nat, k = (q : Int) := ⟨k.natAbs, by omega⟩
    rw [Int.natAbs_natCast]
    cases g <;> simp [sgB, Int.natCast_mul, Int.neg_mul]
theorem sgB_abs (g : Bool) (m : Nat) : (sgB g m).natAbs = m := by cases g <;> simp [sgB]
theorem sgB_same (g : Bool) (m n : Nat) : sgB g (m + n) = sgB g m + sgB g n := by cases g <;> simp [sgB]; omega
theorem sgB_more {g g' : Bool} (hg : (g == g') = false) {m n : Nat} (h : n ≤ m) : sgB g (m - n) = sgB g m + sgB g' n := by
  cases g <;> cases g' <;> simp [sgB] at * <;> omega
theorem sgB_less {g g' : Bool} (hg : (g == g') = false) {m n : Nat} (h : m < n) : sgB g' (n - m) = sgB g m + sgB g' n := by
  cases g <;> cases g' <;> simp [sgB] at * <;> omega
theorem sgB_over {g : Bool} {m u : Nat} (h : u ∣ m) : (u : Int) * sgB g (m / u) = sgB g m := by
  obtain ⟨q, rfl⟩ := h
  rcases Nat.eq_zero_or_pos u with rfl | hu
  · cases g <;> simp [sgB]
  · rw [Nat.mul_div_cancel_left _ hu]
    cases g <;> simp [sgB, Int.mul_neg]
/-- The sign and the size of N. -/
def SgOf (g : Bool) (N : Int) : Prop := sgB g N.natAbs = N
theorem SgOf.of (g : Bool) (m : Nat) : SgOf g (sgB g m) := by unfold SgOf; rw [sgB_abs]
theorem SgOf.false_nat (m : Nat) : SgOf false (m : Int) := by simp [SgOf, sgB]
theorem fr_cross' (N : Int) (D : Nat) : frI N D * D = N * frd N D := by
  have h1 := frI_mul N D
  have h2 := frd_mul N D
  generalize Nat.gcd N.natAbs D = g at *
  generalize frI N D = v at *
  generalize frd N D = d at *
  rw [← h1, ← h2, Int.natCast_mul]; ac_rfl
theorem fr_scale {c : Nat} (hc : 0 < c) (N : Int) {D : Nat} (hD : 0 < D) : frI ((c : Int) * N) (c * D) = frI N D ∧ frd ((c : Int) * N) (c * D) = frd N D := by
  refine fr_unique (Nat.mul_pos hc hD) (frd_pos N hD) (fr_coprime N hD) ?_
  have := fr_cross' N D
  rw [Int.natCast_mul, Int.mul_assoc, ← this]
  ac_rfl
/-- One more term: n times a / b, where what n and b have in common is divided out first. -/
theorem term_lowest {P : Int} {Q : Nat} {n a : Int} {b : Nat} (hQ : 0 < Q) (hb : 0 < b) (hc : Nat.gcd P.natAbs Q = 1) (ha : Nat.gcd a.natAbs b = 1)
    {c : Nat} (hcc : c = Nat.gcd b n.natAbs) {n' : Int} {b' : Nat} (hn : (c : Int) * n' = n) (hb' : c * b' = b)
    {s l r : Nat} (hs : s = Nat.gcd Q b') (hl : s * l = Q) (hr : s * r = b') {num : Int} (hnum : num = P * r + n' * a * l)
    {d : Nat} (hd : d = Nat.gcd num.natAbs s) {v : Int} (hv : (d : Int) * v = num) {u : Nat} (hu : d * u = b') :
    frI (P * b + n * a * Q) (Q * b) = v ∧ frd (P * b + n * a * Q) (Q * b) = l * u := by
  have hc0 : 0 < c := by rw [hcc]; exact Nat.gcd_pos_of_pos_left _ hb
  have hb0 : 0 < b' := by
    rcases Nat.eq_zero_or_pos b' with h | h
    · rw [h, Nat.mul_zero] at hb'; omega
    · exact h
  have h1 : Nat.gcd (n' * a).natAbs b' = 1 := by
    rw [Int.natAbs_mul]
    refine Nat.Coprime.mul_left ?_ (Nat.Coprime.coprime_dvd_right ⟨c, by rw [← hb', Nat.mul_comm]⟩ ha)
    have e : c * n'.natAbs = n.natAbs := by rw [← hn, Int.natAbs_mul, Int.natAbs_natCast]
    have h := Nat.gcd_mul_left c b' n'.natAbs
    rw [hb', e, ← hcc] at h
    have h2 : c * 1 = c * Nat.gcd b' n'.natAbs := by omega
    have h3 := (Nat.eq_of_mul_eq_mul_left hc0 h2).symm
    unfold Nat.Coprime
    rw [Nat.gcd_comm]; exact h3
  have hw := sum_wide hQ hb0 hc h1 hs hl hr hnum hd hv hu
  have hsc := fr_scale hc0 (P * b' + n' * a * Q) (Nat.mul_pos hQ hb0)
  have e1 : (c : Int) * (P * b' + n' * a * Q) = P * b + n * a * Q := by
    rw [Int.mul_add, ← hn, ← hb', Int.natCast_mul]
    congr 1 <;> ac_rfl
  have e2 : c * (Q * b') = Q * b := by rw [← hb']; ac_rfl
  rw [e1, e2] at hsc
  exact ⟨hsc.1.trans hw.1, hsc.2.trans hw.2⟩
theorem term_none {P : Int} {Q : Nat} {n a : Int} {b : Nat} (hQ : 0 < Q) (hb : 0 < b) (hc : Nat.gcd P.natAbs Q = 1) (h : n = 0 ∨ a = 0) :
    frI (P * b + n * a * Q) (Q * b) = P ∧ frd (P * b + n * a * Q) (Q * b) = Q := by
  have e : n * a = 0 := by rcases h with rfl | rfl <;> simp
  rw [e, Int.zero_mul, Int.add_zero]
  refine fr_unique (Nat.mul_pos hQ hb) hQ hc ?_
  rw [Int.natCast_mul]; ac_rfl
end Go.Proofs.Ythbdkhmgopahbaa
set_option linter.unusedVariables false
namespace Go.Proofs.Ythbdkhmgopahbaa
open Go Go.RowKit Go.Deep
/-- An integer of the program. -/
def IAt (w : World) (g : Bool) (s : Sl) (N : Int) : Prop := NatAt w s N.natAbs ∧ SgOf g N
theorem IAt.later {w w' : World} {g : Bool} {s : Sl} {N : Int} (h : IAt w g s N) (hb : Below w.heap.size w w') : IAt w' g s N := ⟨h.1.later hb, h.2⟩
theorem NatAt.len {w : World} {s : Sl} {m k : Nat} (h : NatAt w s m) (hm : m < wp k) : s.len ≤ k := by rw [h.1]; exact wp_len hm
def RInt (w : World) (N : Int) (e : Ending) (w' : World) : Prop := ∃ (g : Bool) (s : Sl), e = .returned (.agg #[.bool g, .slice s.a s.len s.cap]) ∧ IAt w' g s N ∧ Cls w w'
theorem litimes2 (g : Bool) (a : Option Addr) (n c : Nat) (N k : Int) (w : World) (h : IAt w g ⟨a, n, c⟩ N) {j : Nat} (hN : N.natAbs < wp j) (hj : j ≤ 1000) (hk : In64 k) :
    Calls Try.prog 90 #[.agg #[.bool g, .slice a n c], .int .i64 k] w (RInt w (N * k)) := by
  refine (litimes_calls g a n c N.natAbs k w h.1 (Nat.le_trans (h.1.len hN) hj) hk).mono fun e w' ⟨s, he, hs, hc⟩ => ⟨_, s, he, ⟨?_, ?_⟩, hc⟩
  · rwa [Int.natAbs_mul]
  · unfold SgOf
    rw [Int.natAbs_mul, sgB_times, h.2]
theorem liover2 (g : Bool) (a : Option Addr) (n c : Nat) (N : Int) (u : Nat) (w : World) (h : IAt w g ⟨a, n, c⟩ N) {j : Nat} (hN : N.natAbs < wp j) (hj : j ≤ 1000) (hu0 : 0 < u) (hu : u < 18446744073709551616) (v : Int) (hv : (u : Int) * v = N) :
    Calls Try.prog 92 #[.agg #[.bool g, .slice a n c], .int .u64 u] w (RInt w v) := by
  have e1 : u * v.natAbs = N.natAbs := by rw [← hv, Int.natAbs_mul, Int.natAbs_natCast]
  have e2 : N.natAbs / u = v.natAbs := by rw [← e1, Nat.mul_div_cancel_left _ hu0]
  refine (liover_calls g a n c N.natAbs u w h.1 (Nat.le_trans (h.1.len hN) hj) hu0 hu).mono fun e w' ⟨s, he, hs, hc⟩ => ⟨_, s, he, ⟨?_, ?_⟩, hc⟩
  · rwa [← e2]
  · have e3 := sgB_over (g := g) (m := N.natAbs) (u := u) ⟨v.natAbs, e1.symm⟩
    have e4 : sgB g N.natAbs = N := h.2
    have e6 : (u : Int) * sgB g (N.natAbs / u) = (u : Int) * v := by rw [e3, e4, hv]
    have e5 := Int.eq_of_mul_eq_mul_left (by omega) e6
    unfold SgOf
    rw [← e2]; exact e5
theorem liplus2 (g : Bool) (a : Option Addr) (n c : Nat) (g' : Bool) (a' : Option Addr) (n' c' : Nat) (N N' : Int) (w : World) (h : IAt w g ⟨a, n, c⟩ N) (h' : IAt w g' ⟨a', n', c'⟩ N') {j : Nat} (hN : N.natAbs < wp j) (hN' : N'.natAbs < wp j) (hj : j ≤ 1000) (h0 : N' ≠ 0) :
    Calls Try.prog 91 #[.agg #[.bool g, .slice a n c], .agg #[.bool g', .slice a' n' c']] w (RInt w (N + N')) := by
  have l1 := Nat.le_trans (h.1.len hN) hj
  have l2 := Nat.le_trans (h'.1.len hN') hj
  have e1 : sgB g N.natAbs = N := h.2
  have e2 : sgB g' N'.natAbs = N' := h'.2
  cases hg : (g == g') with
  | true =>
    obtain rfl : g = g' := by simpa using hg
    have e3 : sgB g (N.natAbs + N'.natAbs) = N + N' := by rw [sgB_same, e1, e2]
    refine (liplus_same g a n c a' n' c' N.natAbs N'.natAbs w h.1 h'.1 l1 l2).mono fun e w' ⟨s, he, hs, hc⟩ => ⟨_, s, he, ?_, hc⟩
    rw [← e3]
    exact ⟨by rw [sgB_abs]; exact hs, SgOf.of _ _⟩
  | false =>
    by_cases hm : N.natAbs < N'.natAbs
    · have e3 : sgB g' (N'.natAbs - N.natAbs) = N + N' := by rw [sgB_less hg hm, e1, e2]
      refine (liplus_less g g' hg a n c a' n' c' N.natAbs N'.natAbs w h.1 h'.1 l1 l2 hm).mono fun e w' ⟨s, he, hs, hc⟩ => ⟨_, s, he, ?_, hc⟩
      rw [← e3]
      exact ⟨by rw [sgB_abs]; exact hs, SgOf.of _ _⟩
    · have e3 : sgB g (N.natAbs - N'.natAbs) = N + N' := by rw [sgB_more hg (by omega), e1, e2]
      refine (liplus_more g g' hg a n c a' n' c' N.natAbs N'.natAbs w h.1 h'.1 l1 l2 (by omega) (by omega)).mono fun e w' ⟨s, he, hs, hc⟩ => ⟨_, s, he, ?_, hc⟩
      rw [← e3]
      exact ⟨by rw [sgB_abs]; exact hs, SgOf.of _ _⟩
end Go.Proofs.Ythbdkhmgopahbaa
