/-
  The program's Combine: the combination of a system's rows by multipliers.
-/
import Derived.Test.YthbdkhmgopahbaaJ19
import Derived.Test.YthbdkhmgopahbaaJ09
import Derived.Test.YthbdkhmgopahbaaJ15
set_option linter.unusedVariables false
namespace Go.Proofs.Ythbdkhmgopahbaa
open Go Go.RowKit Go.Deep
theorem heap_two0 (w : World) (o o' : Obj) : ((w.alloc o).alloc o').heap[w.heap.size]? = some o := by
  rw [Below.heap_alloc _ _ _ (by simp)]; exact heap_alloc_new w o
theorem heap_two1 (w : World) (o o' : Obj) : ((w.alloc o).alloc o').heap[w.heap.size + 1]? = some o' := by
  have := heap_alloc_new (w.alloc o) o'
  simpa using this
theorem two_n {W : World} {b : Nat} {a0 a1 : Value} {t : TypeId} (h : W.heap[b]? = some (.cells #[a0, a1] t)) : b < W.heap.size ∧ W.frozen? ⟨b, 0, none⟩ = false ∧ W.frozen? ⟨b, 1, none⟩ = false ∧ W.cell? ⟨b, 0, none⟩ = some a0 ∧ W.cell? ⟨b, 1, none⟩ = some a1 := by
  refine ⟨(Array.getElem?_eq_some_iff.1 h).1, by simp [World.frozen?, h], by simp [World.frozen?, h], ?_, ?_⟩ <;> (rw [cell_of_row _ _ _ _ _ _ h]; rfl)
/-- Whether a column's sum fits, and the right sides'. -/
def cmOk (y : Sy) (n : Nat) (mn md : Nat → Int) (k : Nat) : Bool := frOk (totN (fun i => y.co i k) mn (fdN md) n) (totD (fdN md) n)
def cmR (y : Sy) (n : Nat) (mn md : Nat → Int) : Bool := frOk (totN y.rt mn (fdN md) n) (totD (fdN md) n)
/-- The error of a combination. -/
def cmE (y : Sy) (n : Nat) (mn md : Nat → Int) : Int :=
  if vaS y ≠ 0 then vaS y else if n ≠ y.R.len then 9 else if anyB (fun i => !vaB (mn i) (md i)) n = true then 1 else if (cmR y n mn md && !anyB (fun k => !cmOk y n mn md k) y.U.len) = true then 0 else 8
/-- The right side. -/
def cmN (y : Sy) (n : Nat) (mn md : Nat → Int) : Int := if cmE y n mn md = 0 then frN (totN y.rt mn (fdN md) n) (totD (fdN md) n) else 0
def cmD (y : Sy) (n : Nat) (mn md : Nat → Int) : Int := if cmE y n mn md = 0 then frD (totN y.rt mn (fdN md) n) (totD (fdN md) n) else 0
/-- What a combination gives. -/
def CmbR (y : Sy) (n : Nat) (mn md : Nat → Int) (w : World) (e : Ending) (w' : World) : Prop :=
  ∃ s : Sl, e = .returned (.tuple #[.slice s.a s.len s.cap, .agg #[.int .i64 (cmN y n mn md), .int .i64 (cmD y n mn md)], .int .i64 (cmE y n mn md)]) ∧
    (cmE y n mn md = 0 → s.len = y.U.len ∧ FrsA w' s (fun k => frN (totN (fun i => y.co i k) mn (fdN md) n) (totD (fdN md) n)) (fun k => frD (totN (fun i => y.co i k) mn (fdN md) n) (totD (fdN md) n))) ∧ (cmE y n mn md ≠ 0 → s = ⟨none, 0, 0⟩) ∧ Cls w w'
/-- A row of fractions that is written up to k. -/
def FrsUp (W : World) (B m k : Nat) (f g : Nat → Int) : Prop :=
  ∃ cs : Array Value, W.heap[B]? = some (.cells cs 34) ∧ cs.size = m * 2 ∧ (∀ i, i < m → ∃ p q : Int, cs[i * 2]? = some (.int .i64 p) ∧ cs[i * 2 + 1]? = some (.int .i64 q)) ∧ ∀ i, i < k → cs[i * 2]? = some (.int .i64 (f i)) ∧ cs[i * 2 + 1]? = some (.int .i64 (g i))
theorem FrsUp.later {W W' : World} {B m k : Nat} {f g : Nat → Int} (h : FrsUp W B m k f g) (hb : Below W.heap.size W W') : FrsUp W' B m k f g := by
  obtain ⟨cs, h1, h2⟩ := h
  exact ⟨cs, (hb.block B (Array.getElem?_eq_some_iff.1 h1).1).trans h1, h2⟩
theorem FrsUp.at {W W' : World} {B m k : Nat} {f g : Nat → Int} (h : FrsUp W B m k f g) (he : W'.heap[B]? = W.heap[B]?) : FrsUp W' B m k f g := by
  obtain ⟨cs, h1, h2⟩ := h
  exact ⟨cs, he.trans h1, h2⟩
theorem FrsUp.next {W : World} {B m k : Nat} {f g : Nat → Int} (h : FrsUp W B m k f g) (hk : k < m) : FrsUp ((W.setCell ⟨B, k * 2, none⟩ (.int .i64 (f k))).setCell ⟨B, k * 2 + 1, none⟩ (.int .i64 (g k))) B m (k + 1) f g := by
  obtain ⟨cs, h1, h2, h3, h4⟩ := h
  have e1 := heap_setCell_same W B (k * 2) cs _ (.int .i64 (f k)) h1
  have e2 := heap_setCell_same _ B (k * 2 + 1) _ _ (.int .i64 (g k)) e1
  refine ⟨_, e2, by simp [h2], fun i hi => ?_, fun i hi => ?_⟩
  · obtain ⟨p, q, hp, hq⟩ := h3 i hi
    by_cases hik : i = k
    · subst hik
      exact ⟨f i, g i, by simp [Array.getElem?_setIfInBounds]; omega, by simp [Array.getElem?_setIfInBounds]; omega⟩
    · refine ⟨p, q, ?_, ?_⟩
      · rw [Array.getElem?_setIfInBounds, if_neg (by omega), Array.getElem?_setIfInBounds, if_neg (by omega)]; exact hp
      · rw [Array.getElem?_setIfInBounds, if_neg (by omega), Array.getElem?_setIfInBounds, if_neg (by omega)]; exact hq
  · by_cases hik : i = k
    · subst hik
      exact ⟨by simp [Array.getElem?_setIfInBounds]; omega, by simp [Array.getElem?_setIfInBounds]; omega⟩
    · obtain ⟨hp, hq⟩ := h4 i (by omega)
      refine ⟨?_, ?_⟩
      · rw [Array.getElem?_setIfInBounds, if_neg (by omega), Array.getElem?_setIfInBounds, if_neg (by omega)]; exact hp
      · rw [Array.getElem?_setIfInBounds, if_neg (by omega), Array.getElem?_setIfInBounds, if_neg (by omega)]; exact hq
theorem FrsUp.cells {W : World} {B m k i : Nat} {f g : Nat → Int} (h : FrsUp W B m k f g) (hi : i < m) : B < W.heap.size ∧ W.frozen? ⟨B, i * 2, none⟩ = false ∧ W.frozen? ⟨B, i * 2 + 1, none⟩ = false ∧ ∃ p q : Int, W.cell? ⟨B, i * 2, none⟩ = some (.int .i64 p) ∧ W.cell? ⟨B, i * 2 + 1, none⟩ = some (.int .i64 q) := by
  obtain ⟨cs, h1, h2, h3, h4⟩ := h
  obtain ⟨p, q, hp, hq⟩ := h3 i hi
  exact ⟨(Array.getElem?_eq_some_iff.1 h1).1, by simp [World.frozen?, h1], by simp [World.frozen?, h1], p, q, by rw [cell_of_row _ _ _ _ _ _ h1, hp], by rw [cell_of_row _ _ _ _ _ _ h1, hq]⟩
theorem FrsUp.all {W : World} {B m : Nat} {f g : Nat → Int} (h : FrsUp W B m m f g) (hm : m ≤ 1000) : FrsA W ⟨some ⟨B, 0, none⟩, m, m⟩ f g := by
  obtain ⟨cs, h1, h2, h3, h4⟩ := h
  refine ⟨Nat.le_refl _, by show m ≤ maxLen; unfold maxLen; omega, .inr ⟨B, 0, rfl, (Array.getElem?_eq_some_iff.1 h1).1, fun i hi => ?_⟩⟩
  obtain ⟨hp, hq⟩ := h4 i hi
  exact ⟨by rw [cell_of_row _ _ _ _ _ _ h1, Nat.zero_add, hp], by rw [cell_of_row _ _ _ _ _ _ h1, Nat.zero_add, hq]⟩
theorem FrsUp.made (W : World) (m : Nat) (f g : Nat → Int) : FrsUp (W.alloc (.cells (madeCells #[.int .i64 0, .int .i64 0] (m * 2)) 34)) W.heap.size m 0 f g := by
  refine ⟨_, heap_alloc_new W _, size_madeCells _ _, fun i hi => ⟨0, 0, ?_, ?_⟩, fun i hi => absurd hi (Nat.not_lt_zero _)⟩
  · have e1 : i * 2 < m * 2 := by omega
    have e2 : i * 2 % 2 = 0 := by omega
    simp [madeCells, e1, e2]
  · have e1 : i * 2 + 1 < m * 2 := by omega
    have e2 : (i * 2 + 1) % 2 = 1 := by omega
    simp [madeCells, e1, e2]
theorem infoFr : (Try.prog.info? 34).map (fun i => (i.zero, i.size, i.bytes)) = some (some (.agg #[.int .i64 0, .int .i64 0]), 2, 16) := by kernel_rfl
theorem make_frs (M : Nat) (hN : M ≤ 100000) (W : World) : Sem.run Try.prog (Instr.makeSlice 23 (.int .i64 (M : Int)) (.int .i64 (M : Int))) W = .ok (.slice (some ⟨W.heap.size, 0, none⟩) M M) (W.alloc (.cells (madeCells #[.int .i64 0, .int .i64 0] (M * 2)) 34)) := by
  obtain ⟨i0, hi, hz0, hz1, hz2⟩ := info_parts infoFr
  have := run_make (P := Try.prog) W 23 34 i0 _ Try.underlying23 hi hz0 .i64 .i64 (M : Int) (M : Int) (by omega) (by omega) (by rw [hz2]; omega) (by omega)
  rw [hz1, show ((M : Int)).toNat = M by omega] at this
  exact this
set_option maxHeartbeats 32000000 in
set_option maxRecDepth 20000 in
theorem lCombine_calls (y : Sy) (a : Option Addr) (n c : Nat) (mn md : Nat → Int) (w : World) (h : SysA w y) (hx : FrsA w ⟨a, n, c⟩ mn md) (hi : ∀ i, i < n → In64 (mn i) ∧ In64 (md i)) (hn : n ≤ 90) :
    Calls Try.prog 9 #[y.v, .slice a n c] w (CmbR y n mn md w) := by
  have hnc := hx.1
  have hcm := hx.2.1
  unfold maxLen at hcm
  simp only at hnc hcm
  have C1 := Lib.hid (fun (W : World) (hb : Below w.heap.size w W) => lValid_calls y W (h.later hb))
  have C2 := Lib.hid (fun (W : World) (hb : Below w.heap.size w W) => allValid_calls a n c mn md W (hx.later hb) hi)
  have EE : cmE y n mn md = (if vaS y ≠ 0 then vaS y else if n ≠ y.R.len then 9 else if anyB (fun i => !vaB (mn i) (md i)) n = true then 1 else if (cmR y n mn md && !anyB (fun k => !cmOk y n mn md k) y.U.len) = true then 0 else 8) := rfl
  unfold CmbR cmN cmD
  by_cases h1 : vaS y = 0
  case neg =>
    rw [if_pos h1] at EE
    rw [EE, if_neg h1, if_neg h1]
    have d1 : (vaS y != 0) = true := by simpa using h1
    unfold Sy.v at *
    clear h hx hi EE C2
    generalize vaS y = va at *
    generalize y.U.a = ua at *
    generalize y.U.len = un at *
    generalize y.U.cap = uc at *
    generalize y.R.a = ra at *
    generalize y.R.len = rn at *
    generalize y.R.cap = rc at *
    generalize y.B.a = ba at *
    generalize y.B.len = bn at *
    generalize y.B.cap = bc at *
    go_enter Try.func9, Try.ntmps9
    go_wp2_with (go_at_call 24; (with_reducible refine Calls.mono (C1.out _ ?_) ?_); (focus (repeat first | with_reducible exact Below.refl _ _ | with_reducible refine Below.setCell ?_ (by first | omega | (simp; done) | (simp; omega)) _ | with_reducible refine Below.alloc ?_ (by first | omega | (simp; done) | (simp; omega)) _ | with_reducible refine Below.drew ?_ | with_reducible refine Ext.on _ ?_ (by first | omega | (simp; done) | (simp; omega)))); rintro e _ ⟨rfl, ⟨x, rfl⟩⟩; have xs := x.size; (try simp at xs); obtain ⟨hx0, c0, c1, c2⟩ := three_s ((x.below.block w.heap.size (by simp; omega)).trans (heap_two0 w _ _)); obtain ⟨hx1, z0, z1⟩ := two_s ((x.below.block (w.heap.size + 1) (by simp)).trans (heap_two1 w _ _)))
    refine ret_ex rfl ⟨.tuple #[.slice none 0 0, .agg #[.int .i64 0, .int .i64 0], .int .i64 va], by simp [results, Try.results9, go_sem, z0, z1], ⟨⟨none, 0, 0⟩, by first | rfl | simp, ?_⟩⟩
    first | refine ⟨fun h => absurd h (h1), fun _ => rfl, Cls.of ?_⟩ | refine ⟨rfl, Cls.of ?_⟩
    repeat first | with_reducible exact Below.refl _ _ | with_reducible refine Below.setCell ?_ (by first | omega | (simp; done) | (simp; omega)) _ | with_reducible refine Below.alloc ?_ (by first | omega | (simp; done) | (simp; omega)) _ | with_reducible refine Below.drew ?_ | with_reducible refine Ext.on _ ?_ (by first | omega | (simp; done) | (simp; omega))
  case pos =>
    have V := vaS_zero h1
    rw [if_neg (by simpa using h1)] at EE
    rw [h1] at C1
    clear h1
    by_cases h2 : n = y.R.len
    case neg =>
      rw [if_pos h2] at EE
      rw [EE]
      have d2 : ((n : Int) != ((y.R.len : Nat) : Int)) = true := by simp; omega
      have rm := h.R.2.1
      unfold maxLen at rm
      unfold Sy.v at *
      clear h hx hi EE C2 V h2
      generalize y.U.a = ua at *
      generalize y.U.len = un at *
      generalize y.U.cap = uc at *
      generalize y.R.a = ra at *
      generalize y.R.len = rn at *
      generalize y.R.cap = rc at *
      generalize y.B.a = ba at *
      generalize y.B.len = bn at *
      generalize y.B.cap = bc at *
      go_enter Try.func9, Try.ntmps9
      go_wp2_with (go_at_call 24; (with_reducible refine Calls.mono (C1.out _ ?_) ?_); (focus (repeat first | with_reducible exact Below.refl _ _ | with_reducible refine Below.setCell ?_ (by first | omega | (simp; done) | (simp; omega)) _ | with_reducible refine Below.alloc ?_ (by first | omega | (simp; done) | (simp; omega)) _ | with_reducible refine Below.drew ?_ | with_reducible refine Ext.on _ ?_ (by first | omega | (simp; done) | (simp; omega)))); rintro e _ ⟨rfl, ⟨x, rfl⟩⟩; have xs := x.size; (try simp at xs); obtain ⟨hx0, c0, c1, c2⟩ := three_s ((x.below.block w.heap.size (by simp; omega)).trans (heap_two0 w _ _)); obtain ⟨hx1, z0, z1⟩ := two_s ((x.below.block (w.heap.size + 1) (by simp)).trans (heap_two1 w _ _)))
      refine ret_ex rfl ⟨.tuple #[.slice none 0 0, .agg #[.int .i64 0, .int .i64 0], .int .i64 9], by simp [results, Try.results9, go_sem, z0, z1], ⟨⟨none, 0, 0⟩, by first | rfl | simp, ?_⟩⟩
      first | refine ⟨fun h => absurd h (by decide), fun _ => rfl, Cls.of ?_⟩ | refine ⟨rfl, Cls.of ?_⟩
      repeat first | with_reducible exact Below.refl _ _ | with_reducible refine Below.setCell ?_ (by first | omega | (simp; done) | (simp; omega)) _ | with_reducible refine Below.alloc ?_ (by first | omega | (simp; done) | (simp; omega)) _ | with_reducible refine Below.drew ?_ | with_reducible refine Ext.on _ ?_ (by first | omega | (simp; done) | (simp; omega))
    case pos =>
      have d2 : ((n : Int) != ((y.R.len : Nat) : Int)) = false := by simp; omega
      rw [if_neg (by simpa using h2)] at EE
      cases h3 : anyB (fun i => !vaB (mn i) (md i)) n
      case true =>
        rw [h3] at EE C2
        rw [if_pos rfl] at EE
        rw [EE]
        unfold Sy.v at *
        have rm := h.R.2.1
        unfold maxLen at rm
        clear h hx hi EE V h2 h3
        generalize y.U.a = ua at *
        generalize y.U.len = un at *
        generalize y.U.cap = uc at *
        generalize y.R.a = ra at *
        generalize y.R.len = rn at *
        generalize y.R.cap = rc at *
        generalize y.B.a = ba at *
        generalize y.B.len = bn at *
        generalize y.B.cap = bc at *
        go_enter Try.func9, Try.ntmps9
        go_wp2_with (first | (go_at_call 24; (with_reducible refine Calls.mono (C1.out _ ?_) ?_); (focus (repeat first | with_reducible exact Below.refl _ _ | with_reducible refine Below.setCell ?_ (by first | omega | (simp; done) | (simp; omega)) _ | with_reducible refine Below.alloc ?_ (by first | omega | (simp; done) | (simp; omega)) _ | with_reducible refine Below.drew ?_ | with_reducible refine Ext.on _ ?_ (by first | omega | (simp; done) | (simp; omega)))); rintro e _ ⟨rfl, ⟨x, rfl⟩⟩; have xs := x.size; (try simp at xs); obtain ⟨hx0, c0, c1, c2⟩ := three_s ((x.below.block w.heap.size (by simp; omega)).trans (heap_two0 w _ _)); obtain ⟨hx1, z0, z1⟩ := two_s ((x.below.block (w.heap.size + 1) (by simp)).trans (heap_two1 w _ _))) | (go_at_call 25; (with_reducible refine Calls.mono (C2.out _ ?_) ?_); (focus (repeat first | with_reducible exact Below.refl _ _ | with_reducible refine Below.setCell ?_ (by first | omega | (simp; done) | (simp; omega)) _ | with_reducible refine Below.alloc ?_ (by first | omega | (simp; done) | (simp; omega)) _ | with_reducible refine Below.drew ?_ | with_reducible refine Ext.on _ ?_ (by first | omega | (simp; done) | (simp; omega)))); rintro e _ ⟨rfl, hcx⟩; obtain ⟨x2, rfl⟩ := Cls.step x hcx; have x2s := x2.size; (try simp at x2s); obtain ⟨hx0, c0, c1, c2⟩ := three_s ((x2.below.block w.heap.size (by simp; omega)).trans (heap_two0 w _ _)); obtain ⟨hx1, z0, z1⟩ := two_s ((x2.below.block (w.heap.size + 1) (by simp)).trans (heap_two1 w _ _))))
        refine ret_ex rfl ⟨.tuple #[.slice none 0 0, .agg #[.int .i64 0, .int .i64 0], .int .i64 1], by simp [results, Try.results9, go_sem, z0, z1], ⟨⟨none, 0, 0⟩, by first | rfl | simp, ?_⟩⟩
        first | refine ⟨fun h => absurd h (by decide), fun _ => rfl, Cls.of ?_⟩ | refine ⟨rfl, Cls.of ?_⟩
        repeat first | with_reducible exact Below.refl _ _ | with_reducible refine Below.setCell ?_ (by first | omega | (simp; done) | (simp; omega)) _ | with_reducible refine Below.alloc ?_ (by first | omega | (simp; done) | (simp; omega)) _ | with_reducible refine Below.drew ?_ | with_reducible refine Ext.on _ ?_ (by first | omega | (simp; done) | (simp; omega))
      case false =>
        rw [h3] at EE C2
        rw [if_neg (by simp)] at EE
        have HVA : ∀ i, i < n → vaB (mn i) (md i) = true := fun i hi' => by
          have := anyB_no.1 h3 i hi'
          cases hv : vaB (mn i) (md i) with
          | true => rfl
          | false => rw [hv] at this; cases this
        have hbn : y.B.len = n := by rw [V.b, ← h2]
        obtain ⟨NR, hNR⟩ : ∃ NR, totN y.rt mn (fdN md) n = NR := ⟨_, rfl⟩
        obtain ⟨DD, hDD⟩ : ∃ DD, totD (fdN md) n = DD := ⟨_, rfl⟩
        obtain ⟨NK, hNK⟩ : ∃ NK : Nat → Int, (fun k => totN (fun i => y.co i k) mn (fdN md) n) = NK := ⟨_, rfl⟩
        have eNK : ∀ k, totN (fun i => y.co i k) mn (fdN md) n = NK k := fun k => congrFun hNK k
        have CT : Hid (∀ W, Below w.heap.size w W → Calls Try.prog 26 #[.slice y.B.a y.B.len y.B.cap, .slice a n c] W (SumR W NR DD)) := Lib.hid fun W hb => by
          have t := total_calls y.B.a y.B.len y.B.cap y.rt a n c mn md W (h.B.later hb) (hx.later hb) (by omega) (by omega) (fun i hi' => by have := V.rt i (by omega); omega) (fun i hi' => HVA i (by omega))
          have e1 : totN y.rt mn (fun i => (md i).natAbs) y.B.len = NR := by rw [hbn]; exact hNR
          have e2 : totD (fun i => (md i).natAbs) y.B.len = DD := by rw [hbn]; exact hDD
          rw [e1, e2] at t
          exact t
        have CC : Hid (∀ k, k < y.U.len → ∀ W, Below w.heap.size w W → Calls Try.prog 28 #[y.v, .int .i64 k] W fun e w' => ∃ s : Sl, e = .returned (.slice s.a s.len s.cap) ∧ s.len = n ∧ IntsA w' s (fun i => y.co i k) ∧ Cls W w') := Lib.hid fun k hk W hb => by
          have t := column_calls y k W (h.later hb) (by omega) (fun i hi' => by rw [V.row i hi']; exact hk)
          rw [← h2] at t
          exact t
        have CT2 : Hid (∀ k, k < y.U.len → ∀ (W : World) (s : Sl), Below w.heap.size w W → s.len = n → IntsA W s (fun i => y.co i k) → Calls Try.prog 26 #[.slice s.a s.len s.cap, .slice a n c] W (SumR W (NK k) DD)) := Lib.hid fun k hk W s hb hl hs => by
          have t := total_calls s.a s.len s.cap (fun i => y.co i k) a n c mn md W hs (hx.later hb) (by omega) (by omega) (fun i hi' => by have := V.co i (by omega) k hk; omega) (fun i hi' => HVA i (by omega))
          have e1 : totN (fun i => y.co i k) mn (fun i => (md i).natAbs) s.len = NK k := by rw [hl]; exact eNK k
          have e2 : totD (fun i => (md i).natAbs) s.len = DD := by rw [hl]; exact hDD
          rw [e1, e2] at t
          exact t
        have eR : cmR y n mn md = frOk NR DD := by unfold cmR; rw [hNR, hDD]
        have eO : ∀ k, cmOk y n mn md k = frOk (NK k) DD := fun k => by unfold cmOk; rw [eNK, hDD]
        simp only [eNK, hNR, hDD]
        simp only [eR, eO] at EE
        have CF := Lib.hid (fun (N : Int) (D : Nat) (W : World) (g : Bool) (s t : Sl) (h1 : IAt W g s (frI N D)) (h2 : NatAt W t (frd N D)) => lfraction_calls g s.a s.len s.cap t.a t.len t.cap N D W h1 h2)
        have CFR := Lib.hid (fun W g s t h1 h2 => CF.out NR DD W g s t h1 h2)
        have CFK := Lib.hid (fun k W g s t h1 h2 => CF.out (NK k) DD W g s t h1 h2)
        obtain ⟨fN, hfN⟩ : ∃ f : Nat → Int, (fun k => frN (NK k) DD) = f := ⟨_, rfl⟩
        obtain ⟨fD, hfD⟩ : ∃ f : Nat → Int, (fun k => frD (NK k) DD) = f := ⟨_, rfl⟩
        obtain ⟨fO, hfO⟩ : ∃ f : Nat → Bool, (fun k => frOk (NK k) DD) = f := ⟨_, rfl⟩
        have eN : ∀ k, frN (NK k) DD = fN k := fun k => congrFun hfN k
        have eD : ∀ k, frD (NK k) DD = fD k := fun k => congrFun hfD k
        have eK : ∀ k, frOk (NK k) DD = fO k := fun k => congrFun hfO k
        simp only [eN, eD, eK] at CFK EE ⊢
        generalize frN NR DD = rN at *
        generalize frD NR DD = rD at *
        generalize frOk NR DD = rO at *
        have F8a : Hid (rO = false → cmE y n mn md = 8) := Lib.hid fun hh => by rw [EE, hh]; rfl
        have F8b : Hid (∀ k, k < y.U.len → fO k = false → cmE y n mn md = 8) := Lib.hid fun k hk hh => by
          have : anyB (fun k => !fO k) y.U.len = true := anyB_iff.2 ⟨k, hk, by simp [hh]⟩
          rw [EE, this]; simp
        have F0 : Hid (rO = true → (∀ k, k < y.U.len → fO k = true) → cmE y n mn md = 0) := Lib.hid fun hh h4 => by
          have : anyB (fun k => !fO k) y.U.len = false := anyB_no.2 fun k hk => by simp [h4 k hk]
          rw [EE, this, hh]; rfl
        have hun := V.u
        have rm := h.R.2.1
        have um := h.U.2.1
        have bm := h.B.2.1
        unfold maxLen at rm um bm
        unfold Sy.v at *
        clear hNR hDD hNK eNK eR eO CF hfN hfD hfO eN eD eK EE h hx hi V HVA h3
        generalize cmE y n mn md = ce at *
        obtain ⟨vN, hvN⟩ : ∃ v : Int, (if ce = 0 then rN else 0) = v := ⟨_, rfl⟩
        obtain ⟨vD, hvD⟩ : ∃ v : Int, (if ce = 0 then rD else 0) = v := ⟨_, rfl⟩
        rw [hvN, hvD]
        have VN0 : Hid (ce = 0 → vN = rN ∧ vD = rD) := Lib.hid fun h => by rw [if_pos h] at hvN hvD; exact ⟨hvN.symm, hvD.symm⟩
        have VN8 : Hid (ce ≠ 0 → vN = 0 ∧ vD = 0) := Lib.hid fun h => by rw [if_neg h] at hvN hvD; exact ⟨hvN.symm, hvD.symm⟩
        clear hvN hvD
        generalize y.U.a = ua at *
        generalize y.U.len = un at *
        generalize y.U.cap = uc at *
        generalize y.R.a = ra at *
        generalize y.R.len = rn at *
        generalize y.R.cap = rc at *
        generalize y.B.a = ba at *
        generalize y.B.len = bn at *
        generalize y.B.cap = bc at *
        have hmk : ∀ W, _ := fun W => make_frs un (by omega) W
        subst h2
        subst hbn
        clear d2
        have d2 : ((bn : Int) != (bn : Int)) = false := by simp
        go_enter Try.func9, Try.ntmps9
        go_wp2_with (first | (go_at_call 24; (with_reducible refine Calls.mono (C1.out _ ?_) ?_); (focus (repeat first | with_reducible exact Below.refl _ _ | with_reducible refine Below.setCell ?_ (by first | omega | (simp; done) | (simp; omega)) _ | with_reducible refine Below.alloc ?_ (by first | omega | (simp; done) | (simp; omega)) _ | with_reducible refine Below.drew ?_ | with_reducible refine Ext.on _ ?_ (by first | omega | (simp; done) | (simp; omega)))); rintro e _ ⟨rfl, ⟨x, rfl⟩⟩; have xs := x.size; (try simp at xs); obtain ⟨hx0, c0, c1, c2⟩ := three_s ((x.below.block w.heap.size (by simp; omega)).trans (heap_two0 w _ _)); obtain ⟨hx1, z0, z1⟩ := two_s ((x.below.block (w.heap.size + 1) (by simp)).trans (heap_two1 w _ _))) | (go_at_call 25; (with_reducible refine Calls.mono (C2.out _ ?_) ?_); (focus (repeat first | with_reducible exact Below.refl _ _ | with_reducible refine Below.setCell ?_ (by first | omega | (simp; done) | (simp; omega)) _ | with_reducible refine Below.alloc ?_ (by first | omega | (simp; done) | (simp; omega)) _ | with_reducible refine Below.drew ?_ | with_reducible refine Ext.on _ ?_ (by first | omega | (simp; done) | (simp; omega)))); rintro e _ ⟨rfl, hcx⟩; obtain ⟨x2, rfl⟩ := Cls.step x hcx; have x2s := x2.size; (try simp at x2s); obtain ⟨hx0, c0, c1, c2⟩ := three_s ((x2.below.block w.heap.size (by simp; omega)).trans (heap_two0 w _ _)); obtain ⟨hx1, z0, z1⟩ := two_s ((x2.below.block (w.heap.size + 1) (by simp)).trans (heap_two1 w _ _))) | (go_at_call 26; (with_reducible refine Calls.mono (CT.out _ ?_) ?_); (focus (repeat first | with_reducible exact Below.refl _ _ | with_reducible refine Below.setCell ?_ (by first | omega | (simp; done) | (simp; omega)) _ | with_reducible refine Below.alloc ?_ (by first | omega | (simp; done) | (simp; omega)) _ | with_reducible refine Below.drew ?_ | with_reducible refine Ext.on _ ?_ (by first | omega | (simp; done) | (simp; omega)))); rintro e _ ⟨g, s, t, rfl, hs, ht, hcy⟩; obtain ⟨x3, rfl⟩ := Cls.step x2 hcy; have x3s := x3.size; (try simp at x3s)) | (go_at_call 27; (with_reducible refine Calls.mono (CFR.out _ g s t hs ht) ?_); rintro e _ ⟨rfl, hcy2⟩; obtain ⟨x4, rfl⟩ := Cls.step x3 hcy2; have x4s := x4.size; (try simp at x4s); obtain ⟨hx0, c0, c1, c2⟩ := three_s ((x4.below.block w.heap.size (by simp; omega)).trans (heap_two0 w _ _)); obtain ⟨hx1, z0, z1⟩ := two_s ((x4.below.block (w.heap.size + 1) (by simp)).trans (heap_two1 w _ _)); clear hs ht))
        have HX0 := Lib.hid ((x4.below.block w.heap.size (by simp; omega)).trans (heap_two0 w _ _))
        have HX1 := Lib.hid ((x4.below.block (w.heap.size + 1) (by simp)).trans (heap_two1 w _ _))
        have HW4 : Hid (Below w.heap.size w x4.val) := Lib.hid (by repeat first | with_reducible exact Below.refl _ _ | with_reducible refine Below.setCell ?_ (by first | omega | (simp; done) | (simp; omega)) _ | with_reducible refine Below.alloc ?_ (by first | omega | (simp; done) | (simp; omega)) _ | with_reducible refine Below.drew ?_ | with_reducible refine Ext.on _ ?_ (by first | omega | (simp; done) | (simp; omega)))
        have HU0 : Hid (FrsUp ((x4.val.alloc (.cells #[.int .i64 rN, .int .i64 rD] 34)).alloc (.cells (madeCells #[.int .i64 0, .int .i64 0] (un * 2)) 34)) (x4.val.heap.size + 1) un 0 fN fD) := Lib.hid (by
          have := FrsUp.made (x4.val.alloc (.cells #[.int .i64 rN, .int .i64 rD] 34)) un fN fD
          simpa using this)
        clear C1 C2 CT CFR hmk c0 c1 c2 z0 z1
        go_loopw [9, 11] (fun ok i wr => ∃ k : Nat, k ≤ un ∧ i = .int .i64 k ∧ ∃ b : Bool, ok = .bool b ∧ Hid (b = true → rO = true ∧ ∀ i, i < k → fO i = true) ∧ Hid (b = false → ce = 8) ∧ Hid (FrsUp wr (x4.val.heap.size + 1) un k fN fD) ∧ Hid (Below (x4.val.heap.size + 1) (x4.val.alloc (.cells #[.int .i64 rN, .int .i64 rD] 34)) wr)) (fun _ i _ => un - (intOf i).toNat)
        case atStart => exact ⟨0, Nat.zero_le _, rfl, rO, rfl, Lib.hid (fun h => ⟨h, fun i hi => absurd hi (Nat.not_lt_zero _)⟩), F8a, HU0, Lib.hid (by repeat first | with_reducible exact Below.refl _ _ | with_reducible refine Below.setCell ?_ (by first | omega | (simp; done) | (simp; omega)) _ | with_reducible refine Below.alloc ?_ (by first | omega | (simp; done) | (simp; omega)) _ | with_reducible refine Below.drew ?_ | with_reducible refine Ext.on _ ?_ (by first | omega | (simp; done) | (simp; omega)))⟩
        case round =>
          obtain ⟨k, hk, rfl, b, rfl, HT, HF, HU, HB⟩ := hrel
          have hbs := HB.out.size
          simp at hbs
          have hx4 : w.heap.size + 1 < x4.val.heap.size := (by omega)
          have hb0 := (HB.out.block w.heap.size (by omega)).trans ((Below.heap_alloc _ _ _ (by omega)).trans HX0.out)
          have hb1 := (HB.out.block (w.heap.size + 1) (by omega)).trans ((Below.heap_alloc _ _ _ (by omega)).trans HX1.out)
          obtain ⟨hx0, c0, c1, c2⟩ := three_s hb0
          obtain ⟨hx1, zf0, zf1, z0, z1⟩ := two_n hb1
          have HW : Hid (Below w.heap.size w wr) := Lib.hid (HW4.out.trans (((Below.refl _ _).alloc (Nat.le_refl _) _).trans (HB.out.mono (by simp)) |>.mono (by omega)))
          have HB1 := Lib.hid hb1
          clear hb0 hb1
          cases b
          case false =>
            have HV := Lib.hid (HF.out rfl)
            clear HT HF CT2 CC CFK F0 F8b HU F8a
            go_wp2_with fail
            refine ret_ex rfl ⟨.tuple #[.slice none 0 0, .agg #[.int .i64 0, .int .i64 0], .int .i64 8], by simp [results, Try.results9, go_sem, z0, z1], ⟨⟨none, 0, 0⟩, by rw [HV.out, (VN8.out (by rw [HV.out]; decide)).1, (VN8.out (by rw [HV.out]; decide)).2], fun h => absurd h (by rw [HV.out]; decide), fun _ => rfl, Cls.of ?_⟩⟩
            exact (HW.out.setCell (by simp) _).setCell (by simp) _
          case true =>
            have HT1 := Lib.hid (HT.out rfl)
            clear HT
            by_cases hk2 : k < un
            · have CCk := Lib.hid (CC.out k hk2)
              have CTk := Lib.hid (CT2.out k hk2)
              have CFk := Lib.hid (CFK.out k)
              have H8 := Lib.hid (F8b.out k hk2)
              clear CC CT2 CFK F8a F8b F0 HF
              have d5 : decide ((k : Int) < (un : Int)) = true := decide_eq_true (by omega)
              go_wp2_with (first
                | (go_at_call 28; (with_reducible refine Calls.mono (CCk.out _ HW.out) ?_); rintro e _ ⟨s1, rfl, hl1, hs1, ⟨y1, rfl⟩⟩; have y1s := y1.size; have HL1 := Lib.hid hl1; have HS1 := Lib.hid hs1; clear hl1 hs1)
                | (go_at_call 26; ((with_reducible refine Calls.mono (CTk.out _ s1 (Ext.on y1 HW.out (by omega)) HL1.out HS1.out) ?_); rintro e _ ⟨g, s, t, rfl, hs, ht, hcy⟩; obtain ⟨y2, rfl⟩ := Cls.step y1 hcy; have y2s := y2.size))
                | (go_at_call 27; ((with_reducible refine Calls.mono (CFk.out _ g s t hs ht) ?_); rintro e _ ⟨rfl, hcy2⟩; obtain ⟨y3, rfl⟩ := Cls.step y2 hcy2; have y3s := y3.size; obtain ⟨hBlt, ef0, ef1, p, q, e0, e1⟩ := (HU.out.later y3.below).cells hk2; clear hs ht)))
              have HB3 : Hid (Below (x4.val.heap.size + 1) (x4.val.alloc (.cells #[.int .i64 rN, .int .i64 rD] 34)) y3.val) := Lib.hid (Ext.on y3 HB.out (by omega))
              go_roundw
              case rel => exact ⟨k + 1, by omega, by go_num, fO k, rfl, Lib.hid (fun h => ⟨HT1.out.1, fun i hi => by
                rcases Nat.lt_or_ge i k with h' | h'
                · exact HT1.out.2 i h'
                · obtain rfl : i = k := by omega
                  exact h⟩), H8, Lib.hid ((HU.out.later y3.below).next hk2), Lib.hid ((HB3.out.setCell (by simp) _).setCell (by simp) _)⟩
              case measure => simp [intOf]; omega
            · obtain rfl : k = un := by omega
              have HV := Lib.hid (F0.out HT1.out.1 HT1.out.2)
              have hb2 := (HB.out.block x4.val.heap.size (by omega)).trans (heap_alloc_new _ _)
              obtain ⟨hx2, rf0, rf1, r0, r1⟩ := two_n hb2
              have d5 : decide ((k : Int) < (k : Int)) = false := decide_eq_false (by omega)
              have hz := heap_setCell_same _ (w.heap.size + 1) 1 _ _ (.int .i64 rD) (heap_setCell_same wr (w.heap.size + 1) 0 _ _ (.int .i64 rN) HB1.out)
              obtain ⟨_, k0, k1⟩ := two_s hz
              have k2 : (((wr.setCell ⟨w.heap.size + 1, 0, none⟩ (.int .i64 rN)).setCell ⟨w.heap.size + 1, 1, none⟩ (.int .i64 rD)).drew).cell? ⟨w.heap.size + 1, 0, none⟩ = some (.int .i64 rN) := k0
              have k3 : (((wr.setCell ⟨w.heap.size + 1, 0, none⟩ (.int .i64 rN)).setCell ⟨w.heap.size + 1, 1, none⟩ (.int .i64 rD)).drew).cell? ⟨w.heap.size + 1, 1, none⟩ = some (.int .i64 rD) := k1
              have HU2 : Hid (FrsUp (((wr.setCell ⟨w.heap.size + 1, 0, none⟩ (.int .i64 rN)).setCell ⟨w.heap.size + 1, 1, none⟩ (.int .i64 rD)).drew) (x4.val.heap.size + 1) k k fN fD) := Lib.hid (HU.out.at (by
                show ((wr.setCell ⟨w.heap.size + 1, 0, none⟩ (.int .i64 rN)).setCell ⟨w.heap.size + 1, 1, none⟩ (.int .i64 rD)).heap[x4.val.heap.size + 1]? = _
                rw [heap_setCell_other _ _ _ _ (by show _ ≠ _; simp only []; omega), heap_setCell_other _ _ _ _ (by show _ ≠ _; simp only []; omega)]))
              have K2 := Lib.hid k2
              have K3 := Lib.hid k3
              clear CC CT2 CFK F8a F8b F0 HF hb2 hz k0 k1 k2 k3
              go_wp2_with fail
              go_region
              all_goals
                go_wp2_with fail
                refine ret_ex rfl ⟨.tuple #[.slice (some ⟨x4.val.heap.size + 1, 0, none⟩) k k, .agg #[.int .i64 rN, .int .i64 rD], .int .i64 0], by simp [results, Try.results9, go_sem, K2.out, K3.out], ⟨⟨some ⟨x4.val.heap.size + 1, 0, none⟩, k, k⟩, by rw [HV.out, (VN0.out HV.out).1, (VN0.out HV.out).2], fun _ => ⟨rfl, HU2.out.all (by omega)⟩, fun h => absurd HV.out h, Cls.of ?_⟩⟩
                exact ((HW.out.setCell (by simp) _).setCell (by simp) _).drew

end Go.Proofs.Ythbdkhmgopahbaa
