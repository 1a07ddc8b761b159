/-
  The program's sum as a fraction. A column of a system.
-/
import Derived.Test.YthbdkhmgopahbaaJ15
import Derived.Test.YthbdkhmgopahbaaJ05
import Derived.Test.YthbdkhmgopahbaaJ08
import Derived.Test.YthbdkhmgopahbaaJ16
import Derived.Test.YthbdkhmgopahbaaJ02
set_option linter.unusedVariables false
namespace Go.Proofs.Ythbdkhmgopahbaa
open Go Go.RowKit Go.Deep
/-- One walk of the text's order serves every order, in whatever class the region's start is. -/
theorem wp_region_lin_in {P : Program} {C : World → Prop} {id : Nat} {Q : Exit → Act → World → Prop} {a : Act} {w : World} {l : List Oper} (hC : ∀ x : Ext w, C x.val) (hm : P.follows .mixedOrders = true) (hB : linB .any l.toArray = true)
    (h : ∀ x : Ext w, wpLin P l.toArray C (fun a' w' => Q .normal a' w') l a x.val) : (Code.region id l.toArray true).wp P Q a w := by
  obtain ⟨x, hx⟩ := Cls.start w
  refine wp_region_any hm ?_
  have h1 := lexI_of_lin (C := C) l 0 a x.val (by simp) (h x)
  rw [hx]
  refine wpAny_of_lexI (C := C) (Q := fun a' w' => Q .normal a' w') hB (fun _ _ h => h) _ (List.range' 0 l.length) _ a x.val (by simp) List.pairwise_lt_range' (fun j => ?_) (by simp) ?_ (.inr (hC x)) h1
  · rw [List.mem_range'_1]
    simp only [List.size_toArray]
    constructor
    · intro hj
      have : j < l.length := by omega
      exact ⟨this, by simp [this]⟩
    · intro hj; omega
  · intro j oj hj hl
    rw [getD_replicate_false] at hl
    cases hl
/-- A later world in which one block is as it was. -/
structure Keep1 (p : Nat) (w : World) where
  val : World
  same : val.heap[p]? = w.heap[p]?
instance (p : Nat) (w : World) : Nonempty (Keep1 p w) := ⟨⟨w, rfl⟩⟩
@[go_sem] theorem Keep1.cell0 {p : Nat} {w : World} (x : Keep1 p w) (o : Nat) : x.val.cell? ⟨p, o, none⟩ = w.cell? ⟨p, o, none⟩ := World.cell?_of_block (w := w) x.same
theorem most_nat (w : World) (t : TypeId) : NatAt (w.alloc (.cells #[.int .u64 100000000000000000] t)) ⟨some ⟨w.heap.size, 0, none⟩, 1, 1⟩ 100000000000000000 := by
  have e : wdigs 100000000000000000 = [100000000000000000] := wdigs_small (by decide) (by decide)
  unfold NatAt UAt
  rw [e]
  refine ⟨rfl, Nat.le_refl _, (by show 1 ≤ maxLen; unfold maxLen; omega), .inr ⟨w.heap.size, 0, rfl, (by simp), fun i hi => ?_⟩⟩
  obtain rfl : i = 0 := by have : i < 1 := hi; omega
  simp
theorem mid3 (w : World) (o o' o'' : Obj) : (((w.alloc o).alloc o').alloc o'').heap[w.heap.size + 1]? = some o' := by
  rw [Below.heap_alloc _ _ _ (by simp)]
  have := heap_alloc_new (w.alloc o) o'
  simpa using this
theorem two_s {W : World} {b : Nat} {a0 a1 : Value} {t : TypeId} (h : W.heap[b]? = some (.cells #[a0, a1] t)) : b < W.heap.size ∧ W.cell? ⟨b, 0, none⟩ = some a0 ∧ W.cell? ⟨b, 1, none⟩ = some a1 := by
  refine ⟨(Array.getElem?_eq_some_iff.1 h).1, ?_, ?_⟩ <;> (rw [cell_of_row _ _ _ _ _ _ h]; rfl)
theorem word_small {m : Nat} (h : m < 18446744073709551616) : (wdigs m).getD 0 0 = m := by
  rcases Nat.eq_zero_or_pos m with rfl | h0
  · rw [wdigs_zero]; rfl
  · rw [wdigs_small h0 h]; rfl
theorem sg_absI {g : Bool} {N : Int} (h : SgOf g N) : sgI g N.natAbs * (N.natAbs : Int) = N := by
  have h' : sgB g N.natAbs = N := h
  unfold sgI
  by_cases h0 : N.natAbs = 0
  · rw [if_pos h0]; omega
  · rw [if_neg h0]
    cases g
    · rw [if_neg (by simp)]
      simp [sgB] at h'
      omega
    · rw [if_pos rfl]
      simp [sgB] at h'
      omega
set_option maxHeartbeats 8000000 in
set_option maxRecDepth 20000 in
theorem lfraction_calls (g : Bool) (a : Option Addr) (n c : Nat) (a' : Option Addr) (n' c' : Nat) (N : Int) (D : Nat) (w : World) (h : IAt w g ⟨a, n, c⟩ (frI N D)) (h' : NatAt w ⟨a', n', c'⟩ (frd N D)) :
    Calls Try.prog 27 #[.agg #[.bool g, .slice a n c, .slice a' n' c']] w fun e w' => e = .returned (.tuple #[.agg #[.int .i64 (frN N D), .int .i64 (frD N D)], .bool (frOk N D)]) ∧ Cls w w' := by
  have hsg := sg_absI h.2
  have hn := h.1
  unfold frN frD frOk
  clear h
  generalize frI N D = x at *
  generalize frd N D = y at *
  have HX := Lib.hid hn
  have HY := Lib.hid h'
  have C1 := Lib.hid (fun (W : World) (s : Sl) (hb : Below w.heap.size w W) (hm : NatAt W s 100000000000000000) => lcompare_calls a n c s.a s.len s.cap _ _ W (HX.out.later hb) hm)
  have C2 := Lib.hid (fun (W : World) (s : Sl) (hb : Below w.heap.size w W) (hm : NatAt W s 100000000000000000) => lcompare_calls a' n' c' s.a s.len s.cap _ _ W (HY.out.later hb) hm)
  have C3 := Lib.hid (fun (W : World) (hb : Below w.heap.size w W) => lsign_calls g a n c _ W (HX.out.later hb))
  have C4 := Lib.hid (fun (W : World) (hb : Below w.heap.size w W) => word_calls a n c _ 0 W (HX.out.later hb))
  have C5 := Lib.hid (fun (W : World) (hb : Below w.heap.size w W) => word_calls a' n' c' _ 0 W (HY.out.later hb))
  clear hn h'
  have HM := Lib.hid (most_nat ((w.alloc (.cells #[.bool g, .slice a n c, .slice a' n' c'] 60)).alloc (.cells #[.int .i64 0, .int .i64 0] 34)) 91)
  by_cases h1 : x.natAbs ≤ 100000000000000000
  case neg =>
    have d0 : decide (x.natAbs ≤ 100000000000000000) = false := decide_eq_false h1
    have d1 : cmpN x.natAbs 100000000000000000 = 1 := cmpN_gt (by omega)
    rw [d1] at C1
    rw [d0]
    simp only [Bool.false_and]
    clear d0 d1 h1 hsg C2 C3 C4 C5 HX HY
    go_enter Try.func27, Try.ntmps27
    go_wp2_with (go_at_call 58; have G := Lib.hid (fun W => C1.out W ⟨some ⟨w.heap.size + 1 + 1, 0, none⟩, 1, 1⟩); (with_reducible refine Calls.mono (G.out _ ?_ ?_) ?_); (focus (repeat first | with_reducible exact Below.refl _ _ | with_reducible refine Below.setCell ?_ (by first | omega | (simp; done) | (simp; omega)) _ | with_reducible refine Below.alloc ?_ (by first | omega | (simp; done) | (simp; omega)) _ | with_reducible refine Below.drew ?_ | with_reducible refine Ext.on _ ?_ (by first | omega | (simp; done) | (simp; omega)))); (focus (simpa using HM.out)); rintro e _ ⟨rfl, ⟨z, rfl⟩⟩; have zs := z.size; (try simp at zs); obtain ⟨_, c0, c1, c2⟩ := three_s ((z.below.block w.heap.size (by simp; omega)).trans (new3_0 w _ _ _)); obtain ⟨_, e0, e1⟩ := two_s ((z.below.block (w.heap.size + 1) (by simp)).trans (mid3 w _ _ _)); clear G)
    refine ret_ex rfl ?_
    simp [results, Try.results27, go_sem, e0, e1]
    exact Cls.of (by repeat first | with_reducible exact Below.refl _ _ | with_reducible refine Below.setCell ?_ (by first | omega | (simp; done) | (simp; omega)) _ | with_reducible refine Below.alloc ?_ (by first | omega | (simp; done) | (simp; omega)) _ | with_reducible refine Below.drew ?_ | with_reducible refine Ext.on _ ?_ (by first | omega | (simp; done) | (simp; omega)))
  case pos =>
    have d0 : decide (x.natAbs ≤ 100000000000000000) = true := decide_eq_true h1
    have d1 : decide (0 < cmpN x.natAbs 100000000000000000) = false := decide_eq_false (by have := (cmpN_le x.natAbs 100000000000000000).2 h1; omega)
    rw [d0]
    simp only [Bool.true_and]
    by_cases h2 : y ≤ 100000000000000000
    case neg =>
      have d2 : decide (y ≤ 100000000000000000) = false := decide_eq_false h2
      have d3 : cmpN y 100000000000000000 = 1 := cmpN_gt (by omega)
      rw [d3] at C2
      rw [d2]
      generalize cmpN x.natAbs 100000000000000000 = k1 at *
      clear d0 d2 d3 h1 h2 hsg C3 C4 C5 HX HY
      go_enter Try.func27, Try.ntmps27
      go_wp2_with (first | (go_at_call 58; have G := Lib.hid (fun W => C1.out W ⟨some ⟨w.heap.size + 1 + 1, 0, none⟩, 1, 1⟩); (with_reducible refine Calls.mono (G.out _ ?_ ?_) ?_); (focus (repeat first | with_reducible exact Below.refl _ _ | with_reducible refine Below.setCell ?_ (by first | omega | (simp; done) | (simp; omega)) _ | with_reducible refine Below.alloc ?_ (by first | omega | (simp; done) | (simp; omega)) _ | with_reducible refine Below.drew ?_ | with_reducible refine Ext.on _ ?_ (by first | omega | (simp; done) | (simp; omega)))); (focus (simpa using HM.out)); rintro e _ ⟨rfl, ⟨z, rfl⟩⟩; have zs := z.size; (try simp at zs); obtain ⟨_, c0, c1, c2⟩ := three_s ((z.below.block w.heap.size (by simp; omega)).trans (new3_0 w _ _ _)); obtain ⟨_, e0, e1⟩ := two_s ((z.below.block (w.heap.size + 1) (by simp)).trans (mid3 w _ _ _)); clear G) | (go_at_call 58; have G := Lib.hid (fun W => C2.out W ⟨some ⟨w.heap.size + 1 + 1, 0, none⟩, 1, 1⟩); (with_reducible refine Calls.mono (G.out _ ?_ ?_) ?_); (focus (repeat first | with_reducible exact Below.refl _ _ | with_reducible refine Below.setCell ?_ (by first | omega | (simp; done) | (simp; omega)) _ | with_reducible refine Below.alloc ?_ (by first | omega | (simp; done) | (simp; omega)) _ | with_reducible refine Below.drew ?_ | with_reducible refine Ext.on _ ?_ (by first | omega | (simp; done) | (simp; omega)))); (focus (exact (show NatAt _ _ _ from by simpa using HM.out).later (by repeat first | with_reducible exact Below.refl _ _ | with_reducible refine Below.setCell ?_ (by first | omega | (simp; done) | (simp; omega)) _ | with_reducible refine Below.alloc ?_ (by first | omega | (simp; done) | (simp; omega)) _ | with_reducible refine Below.drew ?_ | with_reducible refine Ext.on _ ?_ (by first | omega | (simp; done) | (simp; omega))))); rintro e _ ⟨rfl, hcz⟩; obtain ⟨z2, rfl⟩ := Cls.step z hcz; have z2s := z2.size; (try simp at z2s); have hb0 := (z2.below.block w.heap.size (by simp; omega)).trans (new3_0 w _ _ _); have hb1 := (z2.below.block (w.heap.size + 1) (by simp)).trans (mid3 w _ _ _); obtain ⟨_, c0, c1, c2⟩ := three_s hb0; obtain ⟨_, e0, e1⟩ := two_s hb1; have HB0 := Lib.hid hb0; have HB1 := Lib.hid hb1; clear hb0 hb1; clear G))
      refine ret_ex rfl ?_
      simp [results, Try.results27, go_sem, e0, e1]
      exact Cls.of (by repeat first | with_reducible exact Below.refl _ _ | with_reducible refine Below.setCell ?_ (by first | omega | (simp; done) | (simp; omega)) _ | with_reducible refine Below.alloc ?_ (by first | omega | (simp; done) | (simp; omega)) _ | with_reducible refine Below.drew ?_ | with_reducible refine Ext.on _ ?_ (by first | omega | (simp; done) | (simp; omega)))
    case pos =>
      have d2 : decide (y ≤ 100000000000000000) = true := decide_eq_true h2
      have d3 : decide (0 < cmpN y 100000000000000000) = false := decide_eq_false (by have := (cmpN_le y 100000000000000000).2 h2; omega)
      rw [word_small (by omega)] at C4 C5
      rw [d2]
      simp only [if_true]
      generalize cmpN x.natAbs 100000000000000000 = k1 at *
      generalize cmpN y 100000000000000000 = k2 at *
      generalize sgI g x.natAbs = sg at *
      have w1 : IntKind.i64.wrap (x.natAbs : Int) = (x.natAbs : Int) := i64_idn (by omega)
      have w2 : IntKind.i64.wrap (y : Int) = (y : Int) := i64_idn (by omega)
      have w3 : IntKind.i64.wrap (sg * (x.natAbs : Int)) = x := by rw [hsg, IntKind.wrap_i64]; omega
      clear d0 d2 h1 h2 hsg HX HY
      generalize x.natAbs = m at *
      go_enter Try.func27, Try.ntmps27
      go_wp2_with (first | (go_at_call 58; have G := Lib.hid (fun W => C1.out W ⟨some ⟨w.heap.size + 1 + 1, 0, none⟩, 1, 1⟩); (with_reducible refine Calls.mono (G.out _ ?_ ?_) ?_); (focus (repeat first | with_reducible exact Below.refl _ _ | with_reducible refine Below.setCell ?_ (by first | omega | (simp; done) | (simp; omega)) _ | with_reducible refine Below.alloc ?_ (by first | omega | (simp; done) | (simp; omega)) _ | with_reducible refine Below.drew ?_ | with_reducible refine Ext.on _ ?_ (by first | omega | (simp; done) | (simp; omega)))); (focus (simpa using HM.out)); rintro e _ ⟨rfl, ⟨z, rfl⟩⟩; have zs := z.size; (try simp at zs); obtain ⟨_, c0, c1, c2⟩ := three_s ((z.below.block w.heap.size (by simp; omega)).trans (new3_0 w _ _ _)); obtain ⟨_, e0, e1⟩ := two_s ((z.below.block (w.heap.size + 1) (by simp)).trans (mid3 w _ _ _)); clear G) | (go_at_call 58; have G := Lib.hid (fun W => C2.out W ⟨some ⟨w.heap.size + 1 + 1, 0, none⟩, 1, 1⟩); (with_reducible refine Calls.mono (G.out _ ?_ ?_) ?_); (focus (repeat first | with_reducible exact Below.refl _ _ | with_reducible refine Below.setCell ?_ (by first | omega | (simp; done) | (simp; omega)) _ | with_reducible refine Below.alloc ?_ (by first | omega | (simp; done) | (simp; omega)) _ | with_reducible refine Below.drew ?_ | with_reducible refine Ext.on _ ?_ (by first | omega | (simp; done) | (simp; omega)))); (focus (exact (show NatAt _ _ _ from by simpa using HM.out).later (by repeat first | with_reducible exact Below.refl _ _ | with_reducible refine Below.setCell ?_ (by first | omega | (simp; done) | (simp; omega)) _ | with_reducible refine Below.alloc ?_ (by first | omega | (simp; done) | (simp; omega)) _ | with_reducible refine Below.drew ?_ | with_reducible refine Ext.on _ ?_ (by first | omega | (simp; done) | (simp; omega))))); rintro e _ ⟨rfl, hcz⟩; obtain ⟨z2, rfl⟩ := Cls.step z hcz; have z2s := z2.size; (try simp at z2s); have hb0 := (z2.below.block w.heap.size (by simp; omega)).trans (new3_0 w _ _ _); have hb1 := (z2.below.block (w.heap.size + 1) (by simp)).trans (mid3 w _ _ _); obtain ⟨_, c0, c1, c2⟩ := three_s hb0; obtain ⟨_, e0, e1⟩ := two_s hb1; have HB0 := Lib.hid hb0; have HB1 := Lib.hid hb1; clear hb0 hb1; clear G))
      refine wp_region_lin_in (C := fun W => ∃ y : Keep1 w.heap.size z2.val, W = y.val) (fun y => ⟨⟨y.val, y.block (by omega)⟩, rfl⟩) (by kernel_rfl) (by kernel_rfl) ?_
      intro y0
      have y0s := y0.size
      repeat (refine lin_calm rfl ?_; intro KK hKK; go_big_quiet_step (fail); refine wpQuiet_nil ?_; refine hKK _ ?_; clear hKK KK)
      refine lin_free rfl ?_
      intro KK hKK
      go_wp2_with (go_at_call 59; (with_reducible refine Calls.mono (C3.out _ ?_) ?_); (focus (repeat first | with_reducible exact Below.refl _ _ | with_reducible refine Below.setCell ?_ (by first | omega | (simp; done) | (simp; omega)) _ | with_reducible refine Below.alloc ?_ (by first | omega | (simp; done) | (simp; omega)) _ | with_reducible refine Below.drew ?_ | with_reducible refine Ext.on _ ?_ (by first | omega | (simp; done) | (simp; omega)))); rintro e _ ⟨rfl, hcz3⟩; obtain ⟨z3, rfl⟩ := Cls.step y0 hcz3; have z3s := z3.size; have e2 := (z3.below.cell (p := ⟨w.heap.size + 1, 0, none⟩) (by simp; omega)).trans e0; have e3 := (z3.below.cell (p := ⟨w.heap.size + 1, 1, none⟩) (by simp; omega)).trans e1)
      refine hKK _ _ (.inr ⟨⟨_, z3.block (by omega)⟩, rfl⟩) ?_
      clear hKK KK
      repeat (refine lin_calm rfl ?_; intro KK hKK; go_big_quiet_step (fail); refine wpQuiet_nil ?_; refine hKK _ ?_; clear hKK KK)
      refine lin_free rfl ?_
      intro KK hKK
      go_wp2_with (go_at_call 60; (with_reducible refine Calls.mono (C4.out _ ?_) ?_); (focus (repeat first | with_reducible exact Below.refl _ _ | with_reducible refine Below.setCell ?_ (by first | omega | (simp; done) | (simp; omega)) _ | with_reducible refine Below.alloc ?_ (by first | omega | (simp; done) | (simp; omega)) _ | with_reducible refine Below.drew ?_ | with_reducible refine Ext.on _ ?_ (by first | omega | (simp; done) | (simp; omega)))); rintro e _ ⟨rfl, rfl⟩)
      refine hKK _ _ (.inr ⟨⟨_, z3.block (by omega)⟩, rfl⟩) ?_
      clear hKK KK
      repeat (refine lin_calm rfl ?_; intro KK hKK; go_big_quiet_step (fail); refine wpQuiet_nil ?_; refine hKK _ ?_; clear hKK KK)
      refine lin_free rfl ?_
      intro KK hKK
      go_wp2_with (go_at_call 60; (with_reducible refine Calls.mono (C5.out _ ?_) ?_); (focus (repeat first | with_reducible exact Below.refl _ _ | with_reducible refine Below.setCell ?_ (by first | omega | (simp; done) | (simp; omega)) _ | with_reducible refine Below.alloc ?_ (by first | omega | (simp; done) | (simp; omega)) _ | with_reducible refine Below.drew ?_ | with_reducible refine Ext.on _ ?_ (by first | omega | (simp; done) | (simp; omega)))); rintro e _ ⟨rfl, rfl⟩)
      refine hKK _ _ (.inr ⟨⟨_, z3.block (by omega)⟩, rfl⟩) ?_
      clear hKK KK
      repeat (refine lin_calm rfl ?_; intro KK hKK; go_big_quiet_step (fail); refine wpQuiet_nil ?_; refine hKK _ ?_; clear hKK KK)
      refine lin_free rfl ?_
      intro KK hKK
      go_wp2_with (fail)
      refine hKK _ _ (.inr ⟨⟨_, z3.block (by omega)⟩, rfl⟩) ?_
      clear hKK KK
      repeat (refine lin_calm rfl ?_; intro KK hKK; go_big_quiet_step (fail); refine wpQuiet_nil ?_; refine hKK _ ?_; clear hKK KK)
      refine lin_free rfl ?_
      intro KK hKK
      go_wp2_with (fail)
      have HKp : Hid (((z3.val.setCell ⟨w.heap.size + 1, 0, none⟩ (.int .i64 x)).setCell ⟨w.heap.size + 1, 1, none⟩ (.int .i64 (y : Int))).heap[w.heap.size]? = z2.val.heap[w.heap.size]?) := Lib.hid (by rw [heap_setCell_other _ _ _ _ (by simp), heap_setCell_other _ _ _ _ (by simp)]; exact z3.block (by omega))
      refine hKK _ _ (.inr ⟨⟨_, HKp.out⟩, rfl⟩) ?_
      clear hKK KK
      repeat (refine lin_calm rfl ?_; intro KK hKK; go_big_quiet_step (fail); refine wpQuiet_nil ?_; refine hKK _ ?_; clear hKK KK)
      refine lin_nil ?_
      go_wp2_with fail
      refine ret_ex rfl ?_
      simp [results, Try.results27, go_sem, e2, e3]
      exact Cls.of (by repeat first | with_reducible exact Below.refl _ _ | with_reducible refine Below.setCell ?_ (by first | omega | (simp; done) | (simp; omega)) _ | with_reducible refine Below.alloc ?_ (by first | omega | (simp; done) | (simp; omega)) _ | with_reducible refine Below.drew ?_ | with_reducible refine Ext.on _ ?_ (by first | omega | (simp; done) | (simp; omega)))
end Go.Proofs.Ythbdkhmgopahbaa
set_option linter.unusedVariables false
namespace Go.Proofs.Ythbdkhmgopahbaa
open Go Go.RowKit Go.Deep
theorem infoI : (Try.prog.info? 2).map (fun i => (i.zero, i.size, i.bytes)) = some (some (.int .i64 0), 1, 8) := by kernel_rfl
theorem one_i (n : Int) : ∀ u ∈ [Value.int .i64 n], u.oneCell' = true := by
  intro u hu; simp at hu; subst hu; rfl
/-- The values of the first j numbers. -/
def rowI (f : Nat → Int) (j : Nat) : List Value := (List.range j).map fun i => .int .i64 (f i)
theorem rowI_succ (f : Nat → Int) (j : Nat) : rowI f (j + 1) = rowI f j ++ [.int .i64 (f j)] := by simp [rowI, List.range_succ]
theorem IntsA.of_own {w : World} {base j : Nat} {v : Value} {f : Nat → Int} (h : w.ownsRow base 2 1 v j (rowI f j)) : ∃ s : Sl, v = .slice s.a s.len s.cap ∧ s.len = j ∧ IntsA w s f := by
  rcases h.2 with ⟨rfl, h0⟩ | ⟨g, cap, cur, rfl, hb, hh, hn, hc, hr, ht⟩
  · exact ⟨⟨none, 0, 0⟩, rfl, h0.symm, Nat.le_refl _, Nat.zero_le _, .inl rfl⟩
  · refine ⟨⟨some ⟨g, 0, none⟩, j, cap⟩, rfl, rfl, hn, hc, .inr ⟨g, 0, rfl, (Array.getElem?_eq_some_iff.1 hh).1, fun i hi => ?_⟩⟩
    have hi2 : i < j := hi
    have hcell := World.ownsRow.cells h (g := g) rfl
    have c0 := hcell i (.int .i64 (f i)) (by simp [rowI, hi2])
    rw [add_none] at c0
    exact c0
set_option maxHeartbeats 8000000 in
set_option maxRecDepth 20000 in
theorem column_calls (y : Sy) (k : Nat) (w : World) (h : SysA w y) (hrn : y.R.len ≤ 1000) (hk : ∀ i, i < y.R.len → k < (y.row i).len) :
    Calls Try.prog 28 #[y.v, .int .i64 k] w fun e w' => ∃ s : Sl, e = .returned (.slice s.a s.len s.cap) ∧ s.len = y.R.len ∧ IntsA w' s (fun i => y.co i k) ∧ Cls w w' := by
  obtain ⟨_, um, _⟩ := h.U
  obtain ⟨_, rm, hrow, hr⟩ := h.R
  obtain ⟨_, bm, _⟩ := h.B
  unfold maxLen at um rm bm
  unfold Sy.v
  have HR := Lib.hid hr
  have HRW := Lib.hid hrow
  have HK := Lib.hid hk
  clear hr hrow h hk
  obtain ⟨⟨ua, un, uc⟩, ⟨ra, rn, rc⟩, ⟨ba, bn, bc⟩, up, row, co, rt⟩ := y
  simp only at *
  obtain ⟨i0, hi, hz0, hz1, hz2⟩ := info_parts infoI
  go_enter Try.func28, Try.ntmps28
  go_wp2_with fail
  go_loopw [5, 11] (fun v i wr => ∃ j : Nat, j ≤ rn ∧ i = .int .i64 j ∧ Hid (wr.ownsRow (w.heap.size + 1) 2 1 v j (rowI (fun i => co i k) j)) ∧ Cls (w.alloc (.cells #[.slice ua un uc, .slice ra rn rc, .slice ba bn bc] 30)) wr) (fun _ i _ => rn - (intOf i).toNat)
  case atStart => exact ⟨0, Nat.zero_le _, rfl, Lib.hid (World.ownsRow_nil _ _ _ 1), Cls.of (Below.refl _ _)⟩
  case round =>
    obtain ⟨j, hj, rfl, hown, x, rfl⟩ := hrel
    have xs := x.size
    simp at xs
    by_cases hltj : j < rn
    · obtain ⟨b, off, ha, hb2, hc⟩ := HR.out.resolve_left (by omega)
      subst ha
      have r0 := hc j hltj
      have q0 := (x.below.cell (p := ⟨b, off + j, none⟩) (by simp; omega)).trans (((Below.refl w.heap.size w).alloc (Nat.le_refl _) _).cell (p := ⟨b, off + j, none⟩) hb2 |>.trans r0)
      have hbx : b < x.val.heap.size := (by omega)
      have ht := HRW.out j hltj
      have hkj := HK.out j hltj
      have EL : Hid (rowI (fun i => co i k) (j + 1) = rowI (fun i => co i k) j ++ [.int .i64 (co j k)]) := Lib.hid (rowI_succ _ _)
      clear hc r0
      generalize row j = tj at *
      obtain ⟨ta, tn, tc⟩ := tj
      obtain ⟨tm1, tm, th⟩ := ht
      simp only at q0 tm tm1 th hkj
      unfold maxLen at tm
      obtain ⟨b', off', ha', hb', hc'⟩ := th.resolve_left (by omega)
      subst ha'
      have r1 := hc' k hkj
      have q1 := (x.below.cell (p := ⟨b', off' + k, none⟩) (by simp; omega)).trans (((Below.refl w.heap.size w).alloc (Nat.le_refl _) _).cell (p := ⟨b', off' + k, none⟩) hb' |>.trans r1)
      have hbx' : b' < x.val.heap.size := (by omega)
      clear hc' th r1
      generalize co j k = cjk at *
      have HX : Hid (Below (w.heap.size + 1) (w.alloc (.cells #[.slice ua un uc, .slice (some ⟨b, off, none⟩) rn rc, .slice ba bn bc] 30)) x.val) := Lib.hid (by simpa using x.below)
      go_wp2_with (first | (at_builtin; refine wpList_append_own_at _ rfl _ _ 24 rfl (w.heap.size + 1) 2 i0 (.int .i64 0) 1 8 Try.underlying24 hi hz0 hz1 hz2 rfl (by decide) _ j _ rfl (own_later' hown.out (by repeat first | with_reducible exact Below.refl _ _ | with_reducible refine Below.setCell ?_ (by first | omega | (simp; done) | (simp; omega)) _ | with_reducible refine Below.alloc ?_ (by first | omega | (simp; done) | (simp; omega)) _ | with_reducible refine Below.drew ?_ | with_reducible refine Ext.on _ ?_ (by first | omega | (simp; done) | (simp; omega)))) ⟨x.val.heap.size, 0, none⟩ 1 1 [.int .i64 _] rfl rfl (cells_new' _ _ _) (one_i _) (by unfold maxLen; omega) (by omega) (by first | (simp; done) | (simp; omega)) ?_; intro v1 w1 hown1 hg1 _ _; have HB1 : Hid (Below (w.heap.size + 1) (w.alloc (.cells #[.slice ua un uc, .slice (some ⟨b, off, none⟩) rn rc, .slice ba bn bc] 30)) w1) := Lib.hid (Below.grown (w := x.val.alloc _) (HX.out.alloc (by omega) _) hg1 (by first | (simp; done) | (simp; omega)) (fun k hk => (hown.out.lt k hk).1)); have HO1 := Lib.hid hown1; clear hown1 hg1))
      go_roundw
      case rel => exact ⟨j + 1, by omega, by go_num, Lib.hid (by rw [EL.out]; exact HO1.out), Cls.of (by simpa using HB1.out)⟩
      case measure => simp [intOf]; omega
    · obtain rfl : j = rn := by omega
      obtain ⟨s, hv, hs1, hs2⟩ := IntsA.of_own hown.out
      subst hv
      go_wp2_with fail
      go_ret
      refine ⟨s, rfl, hs1, hs2, Cls.of ?_⟩
      repeat first | with_reducible exact Below.refl _ _ | with_reducible refine Below.setCell ?_ (by first | omega | (simp; done) | (simp; omega)) _ | with_reducible refine Below.alloc ?_ (by first | omega | (simp; done) | (simp; omega)) _ | with_reducible refine Below.drew ?_ | with_reducible refine Ext.on _ ?_ (by first | omega | (simp; done) | (simp; omega))
end Go.Proofs.Ythbdkhmgopahbaa
