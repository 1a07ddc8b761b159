/-
  Whether there is an element with a property: slices.ContainsFunc in its three instances; within, allValid.
-/
import Derived.Test.YtogjollefllajaaLSys
import Derived.Test.YtogjollefllajaaFBig7
set_option linter.unusedVariables false
namespace Go.Proofs.Ytogjollefllajaa
open Go Go.RowKit Go.Deep
set_option maxHeartbeats 4000000 in
set_option maxRecDepth 20000 in
theorem index_int (a : Option Addr) (sn sc : Nat) (f : Nat → Int) (p : Nat → Bool) (B1 B2 : Nat) (w : World) (hs : IntsA w ⟨a, sn, sc⟩ f) (C : ∀ (W : World), Below w.heap.size w W → ∀ j, j < sn → Calls Try.prog 67 #[.int .i64 (f j), .pointer (some ⟨B1, 0, none⟩), .pointer (some ⟨B2, 0, none⟩)] W fun e w' => e = .returned (.bool (p j)) ∧ Cls W w') :
    Calls Try.prog 86 #[.slice a sn sc, .func (.func 67) #[] #[.pointer (some ⟨B1, 0, none⟩), .pointer (some ⟨B2, 0, none⟩)]] w fun e w' => e = .returned (.int .i64 (fstI p 0 sn)) ∧ Cls w w' := by
  obtain ⟨hle, hmax, hh⟩ := hs
  simp only at hle hmax hh
  unfold maxLen at hmax
  have H := Lib.hid hh
  have HC := Lib.hid C
  clear hh C
  go_enter Try.func86, Try.ntmps86
  go_wp2_with fail
  go_loopw [8] (fun i wr => ∃ j : Nat, j ≤ sn ∧ i = .int .i64 j ∧ Hid (fstI p 0 sn = fstI p j (sn - j)) ∧ Cls w wr) (fun i _ => sn - (intOf i).toNat)
  case atStart => exact ⟨0, Nat.zero_le _, rfl, Lib.hid rfl, Cls.of (Below.refl _ _)⟩
  case round =>
    obtain ⟨j, hj, rfl, HE, x, rfl⟩ := hrel
    have xs := x.size
    by_cases hltj : j < sn
    · obtain ⟨b, off, ha, hb2, hc⟩ := H.out.resolve_left (by omega)
      subst ha
      have q0 := hc j hltj
      have hS : Hid (sn - j = (sn - (j + 1)) + 1) := Lib.hid (by omega)
      have C1 := Lib.hid (HC.out x.val x.below j hltj)
      clear hc HC H
      cases hbb : p j
      all_goals
        have HB := Lib.hid hbb
        rw [hbb] at C1
        clear hbb
        generalize f j = tj at q0 C1
        go_wp2_with (go_at_call 67; ((with_reducible refine (Cls.call C1.out).mono ?_); rintro r _ ⟨rfl, y, rfl⟩))
      · go_roundw
        case rel => exact ⟨j + 1, by omega, by go_num, Lib.hid (by rw [HE.out, hS.out, fstI_go HB.out]), y, rfl⟩
        case measure => simp [intOf]; omega
      · go_ret
        exact ⟨ret_int (by rw [HE.out, hS.out, fstI_stop HB.out]), y, rfl⟩
    · have hz : Hid (sn - j = 0) := Lib.hid (by omega)
      go_wp2_with fail
      go_ret
      exact ⟨ret_int (by rw [HE.out, hz.out]; rfl), x, rfl⟩
set_option maxHeartbeats 4000000 in
set_option maxRecDepth 20000 in
theorem contains_int (a : Option Addr) (sn sc : Nat) (f : Nat → Int) (p : Nat → Bool) (B1 B2 : Nat) (w : World) (hs : IntsA w ⟨a, sn, sc⟩ f) (C : ∀ (W : World), Below w.heap.size w W → ∀ j, j < sn → Calls Try.prog 67 #[.int .i64 (f j), .pointer (some ⟨B1, 0, none⟩), .pointer (some ⟨B2, 0, none⟩)] W fun e w' => e = .returned (.bool (p j)) ∧ Cls W w') :
    Calls Try.prog 66 #[.slice a sn sc, .func (.func 67) #[] #[.pointer (some ⟨B1, 0, none⟩), .pointer (some ⟨B2, 0, none⟩)]] w fun e w' => e = .returned (.bool (anyB p sn)) ∧ Cls w w' := by
  have C1 := Lib.hid (index_int a sn sc f p B1 B2 w hs C)
  clear hs C
  unfold anyB
  generalize fstI p 0 sn = n at C1 ⊢
  go_enter Try.func66, Try.ntmps66
  go_wp2_with (go_at_call 86; ((with_reducible refine C1.out.mono ?_); rintro r _ ⟨rfl, y, rfl⟩))
  go_ret
  exact ⟨ret_bool (by simp), y, rfl⟩
set_option maxHeartbeats 4000000 in
set_option maxRecDepth 20000 in
theorem index_row (a : Option Addr) (sn sc : Nat) (r : Nat → Sl) (f : Nat → Nat → Int) (p : Nat → Bool) (B1 : Nat) (w : World) (hs : RowsA w ⟨a, sn, sc⟩ r f) (C : ∀ (W : World), Below w.heap.size w W → ∀ j, j < sn → Calls Try.prog 45 #[.slice (r j).a (r j).len (r j).cap, .pointer (some ⟨B1, 0, none⟩)] W fun e w' => e = .returned (.bool (p j)) ∧ Cls W w') :
    Calls Try.prog 68 #[.slice a sn sc, .func (.func 45) #[] #[.pointer (some ⟨B1, 0, none⟩)]] w fun e w' => e = .returned (.int .i64 (fstI p 0 sn)) ∧ Cls w w' := by
  obtain ⟨hle, hmax, _, hh⟩ := hs
  simp only at hle hmax hh
  unfold maxLen at hmax
  have H := Lib.hid hh
  have HC := Lib.hid C
  clear hh C
  go_enter Try.func68, Try.ntmps68
  go_wp2_with fail
  go_loopw [8] (fun i wr => ∃ j : Nat, j ≤ sn ∧ i = .int .i64 j ∧ Hid (fstI p 0 sn = fstI p j (sn - j)) ∧ Cls w wr) (fun i _ => sn - (intOf i).toNat)
  case atStart => exact ⟨0, Nat.zero_le _, rfl, Lib.hid rfl, Cls.of (Below.refl _ _)⟩
  case round =>
    obtain ⟨j, hj, rfl, HE, x, rfl⟩ := hrel
    have xs := x.size
    by_cases hltj : j < sn
    · obtain ⟨b, off, ha, hb2, hc⟩ := H.out.resolve_left (by omega)
      subst ha
      have q0 := hc j hltj
      have hS : Hid (sn - j = (sn - (j + 1)) + 1) := Lib.hid (by omega)
      have C1 := Lib.hid (HC.out x.val x.below j hltj)
      clear hc HC H
      cases hbb : p j
      all_goals
        have HB := Lib.hid hbb
        rw [hbb] at C1
        clear hbb
        generalize r j = tj at q0 C1
        go_wp2_with (go_at_call 45; ((with_reducible refine (Cls.call C1.out).mono ?_); rintro r _ ⟨rfl, y, rfl⟩))
      · go_roundw
        case rel => exact ⟨j + 1, by omega, by go_num, Lib.hid (by rw [HE.out, hS.out, fstI_go HB.out]), y, rfl⟩
        case measure => simp [intOf]; omega
      · go_ret
        exact ⟨ret_int (by rw [HE.out, hS.out, fstI_stop HB.out]), y, rfl⟩
    · have hz : Hid (sn - j = 0) := Lib.hid (by omega)
      go_wp2_with fail
      go_ret
      exact ⟨ret_int (by rw [HE.out, hz.out]; rfl), x, rfl⟩
set_option maxHeartbeats 4000000 in
set_option maxRecDepth 20000 in
theorem contains_row (a : Option Addr) (sn sc : Nat) (r : Nat → Sl) (f : Nat → Nat → Int) (p : Nat → Bool) (B1 : Nat) (w : World) (hs : RowsA w ⟨a, sn, sc⟩ r f) (C : ∀ (W : World), Below w.heap.size w W → ∀ j, j < sn → Calls Try.prog 45 #[.slice (r j).a (r j).len (r j).cap, .pointer (some ⟨B1, 0, none⟩)] W fun e w' => e = .returned (.bool (p j)) ∧ Cls W w') :
    Calls Try.prog 46 #[.slice a sn sc, .func (.func 45) #[] #[.pointer (some ⟨B1, 0, none⟩)]] w fun e w' => e = .returned (.bool (anyB p sn)) ∧ Cls w w' := by
  have C1 := Lib.hid (index_row a sn sc r f p B1 w hs C)
  clear hs C
  unfold anyB
  generalize fstI p 0 sn = n at C1 ⊢
  go_enter Try.func46, Try.ntmps46
  go_wp2_with (go_at_call 68; ((with_reducible refine C1.out.mono ?_); rintro r _ ⟨rfl, y, rfl⟩))
  go_ret
  exact ⟨ret_bool (by simp), y, rfl⟩
set_option maxHeartbeats 4000000 in
set_option maxRecDepth 20000 in
theorem index_fr (a : Option Addr) (sn sc : Nat) (f g : Nat → Int) (p : Nat → Bool)  (w : World) (hs : FrsA w ⟨a, sn, sc⟩ f g) (C : ∀ (W : World), Below w.heap.size w W → ∀ j, j < sn → Calls Try.prog 47 #[.agg #[.int .i64 (f j), .int .i64 (g j)]] W fun e w' => e = .returned (.bool (p j)) ∧ Cls W w') :
    Calls Try.prog 64 #[.slice a sn sc, .func (.func 47) #[] #[]] w fun e w' => e = .returned (.int .i64 (fstI p 0 sn)) ∧ Cls w w' := by
  obtain ⟨hle, hmax, hh⟩ := hs
  simp only at hle hmax hh
  unfold maxLen at hmax
  have H := Lib.hid hh
  have HC := Lib.hid C
  clear hh C
  go_enter Try.func64, Try.ntmps64
  go_wp2_with fail
  go_loopw [8] (fun i wr => ∃ j : Nat, j ≤ sn ∧ i = .int .i64 j ∧ Hid (fstI p 0 sn = fstI p j (sn - j)) ∧ Cls w wr) (fun i _ => sn - (intOf i).toNat)
  case atStart => exact ⟨0, Nat.zero_le _, rfl, Lib.hid rfl, Cls.of (Below.refl _ _)⟩
  case round =>
    obtain ⟨j, hj, rfl, HE, x, rfl⟩ := hrel
    have xs := x.size
    by_cases hltj : j < sn
    · obtain ⟨b, off, ha, hb2, hc⟩ := H.out.resolve_left (by omega)
      subst ha
      have q0 := hc j hltj
      have hS : Hid (sn - j = (sn - (j + 1)) + 1) := Lib.hid (by omega)
      have C1 := Lib.hid (HC.out x.val x.below j hltj)
      clear hc HC H
      cases hbb : p j
      all_goals
        have HB := Lib.hid hbb
        rw [hbb] at C1
        clear hbb
        generalize f j = tj at q0 C1
        generalize g j = uj at q0 C1
        obtain ⟨q1, q2⟩ := q0
        go_wp2_with (go_at_call 47; ((with_reducible refine (Cls.call C1.out).mono ?_); rintro r _ ⟨rfl, y, rfl⟩))
      · go_roundw
        case rel => exact ⟨j + 1, by omega, by go_num, Lib.hid (by rw [HE.out, hS.out, fstI_go HB.out]), y, rfl⟩
        case measure => simp [intOf]; omega
      · go_ret
        exact ⟨ret_int (by rw [HE.out, hS.out, fstI_stop HB.out]), y, rfl⟩
    · have hz : Hid (sn - j = 0) := Lib.hid (by omega)
      go_wp2_with fail
      go_ret
      exact ⟨ret_int (by rw [HE.out, hz.out]; rfl), x, rfl⟩
set_option maxHeartbeats 4000000 in
set_option maxRecDepth 20000 in
theorem contains_fr (a : Option Addr) (sn sc : Nat) (f g : Nat → Int) (p : Nat → Bool)  (w : World) (hs : FrsA w ⟨a, sn, sc⟩ f g) (C : ∀ (W : World), Below w.heap.size w W → ∀ j, j < sn → Calls Try.prog 47 #[.agg #[.int .i64 (f j), .int .i64 (g j)]] W fun e w' => e = .returned (.bool (p j)) ∧ Cls W w') :
    Calls Try.prog 40 #[.slice a sn sc, .func (.func 47) #[] #[]] w fun e w' => e = .returned (.bool (anyB p sn)) ∧ Cls w w' := by
  have C1 := Lib.hid (index_fr a sn sc f g p  w hs C)
  clear hs C
  unfold anyB
  generalize fstI p 0 sn = n at C1 ⊢
  go_enter Try.func40, Try.ntmps40
  go_wp2_with (go_at_call 64; ((with_reducible refine C1.out.mono ?_); rintro r _ ⟨rfl, y, rfl⟩))
  go_ret
  exact ⟨ret_bool (by simp), y, rfl⟩
theorem in64_parts {n : Int} (h : In64 n) : -9223372036854775808 ≤ n ∧ n ≤ 9223372036854775807 := h
set_option maxHeartbeats 2000000 in
set_option maxRecDepth 20000 in
theorem within1_calls (n lo hi : Int) (B1 B2 : Nat) (w : World) (h1 : w.cell? ⟨B1, 0, none⟩ = some (.int .i64 lo)) (h2 : w.cell? ⟨B2, 0, none⟩ = some (.int .i64 hi)) :
    Calls Try.prog 67 #[.int .i64 n, .pointer (some ⟨B1, 0, none⟩), .pointer (some ⟨B2, 0, none⟩)] w fun e w' => e = .returned (.bool (outB lo hi n)) ∧ Cls w w' := by
  by_cases d1 : n < lo
  · have e : outB lo hi n = true := by simp [outB, d1]
    have d2 : decide (n < lo) = true := decide_eq_true d1
    rw [e]
    clear e d1
    go_enter Try.func67, Try.ntmps67
    go_wp2_with fail
    go_ret
    exact ⟨rfl, Cls.of (Below.refl _ _)⟩
  · have d2 : decide (n < lo) = false := decide_eq_false d1
    have e : outB lo hi n = decide (hi < n) := by simp [outB, d1]
    rw [e]
    clear e d1
    go_enter Try.func67, Try.ntmps67
    go_wp2_with fail
    go_ret
    exact ⟨rfl, Cls.of (Below.refl _ _)⟩
set_option maxHeartbeats 2000000 in
set_option maxRecDepth 20000 in
theorem within_calls (a : Option Addr) (n c : Nat) (f : Nat → Int) (lo hi : Int) (w : World) (h : IntsA w ⟨a, n, c⟩ f) :
    Calls Try.prog 44 #[.slice a n c, .int .i64 lo, .int .i64 hi] w fun e w' => e = .returned (.bool (!anyB (fun i => outB lo hi (f i)) n)) ∧ Cls w w' := by
  have C1 : Hid (Calls Try.prog 66 #[.slice a n c, .func (.func 67) #[] #[.pointer (some ⟨w.heap.size, 0, none⟩), .pointer (some ⟨w.heap.size + 1, 0, none⟩)]] ((w.alloc (.cells #[.int .i64 lo] 2)).alloc (.cells #[.int .i64 hi] 2)) fun e w' => e = .returned (.bool (anyB (fun i => outB lo hi (f i)) n)) ∧ Cls ((w.alloc (.cells #[.int .i64 lo] 2)).alloc (.cells #[.int .i64 hi] 2)) w') := Lib.hid (by
    refine contains_int a n c f (fun i => outB lo hi (f i)) w.heap.size (w.heap.size + 1) _ (h.later (by repeat first | with_reducible exact Below.refl _ _ | with_reducible refine Below.setCell ?_ (by first | omega | (simp; done) | (simp; omega)) _ | with_reducible refine Below.alloc ?_ (by first | omega | (simp; done) | (simp; omega)) _ | with_reducible refine Below.drew ?_ | with_reducible refine Ext.on _ ?_ (by first | omega | (simp; done) | (simp; omega)))) fun V hV j hj => within1_calls (f j) lo hi _ _ V ?_ ?_
    · refine (hV.cell (p := ⟨w.heap.size, 0, none⟩) (by simp; omega)).trans ?_
      rw [cell_of_row _ _ _ _ _ (0, 0) (new2_0 w _ _)]; rfl
    · refine (hV.cell (p := ⟨w.heap.size + 1, 0, none⟩) (by simp)).trans ?_
      rw [cell_of_row _ _ _ _ _ (0, 0) (new2_1 w _ _)]; rfl)
  clear h
  generalize anyB (fun i => outB lo hi (f i)) n = r at *
  go_enter Try.func44, Try.ntmps44
  go_wp2_with (go_at_call 66; (with_reducible refine C1.out.mono ?_); rintro e _ ⟨rfl, ⟨y, rfl⟩⟩)
  go_ret
  refine ⟨rfl, Cls.of ?_⟩
  repeat first | with_reducible exact Below.refl _ _ | with_reducible refine Below.setCell ?_ (by first | omega | (simp; done) | (simp; omega)) _ | with_reducible refine Below.alloc ?_ (by first | omega | (simp; done) | (simp; omega)) _ | with_reducible refine Below.drew ?_ | with_reducible refine Ext.on _ ?_ (by first | omega | (simp; done) | (simp; omega))
set_option maxHeartbeats 2000000 in
set_option maxRecDepth 20000 in
theorem allValid1_calls (n d : Int) (w : World) (h1 : In64 n) (h2 : In64 d) :
    Calls Try.prog 47 #[.agg #[.int .i64 n, .int .i64 d]] w fun e w' => e = .returned (.bool (!vaB n d)) ∧ Cls w w' := by
  have C1 := Lib.hid (fun W => Valid_calls n d W h1.1 h1.2 h2.1 h2.2)
  clear h1 h2
  generalize vaB n d = v at *
  go_enter Try.func47, Try.ntmps47
  go_wp2_with (go_at_call 48; (with_reducible refine (C1.out _).mono ?_); rintro e _ ⟨rfl, ⟨y1, rfl⟩⟩)
  go_ret
  refine ⟨rfl, Cls.of ?_⟩
  repeat first | with_reducible exact Below.refl _ _ | with_reducible refine Below.setCell ?_ (by first | omega | (simp; done) | (simp; omega)) _ | with_reducible refine Below.alloc ?_ (by first | omega | (simp; done) | (simp; omega)) _ | with_reducible refine Below.drew ?_ | with_reducible refine Ext.on _ ?_ (by first | omega | (simp; done) | (simp; omega))
set_option maxHeartbeats 2000000 in
set_option maxRecDepth 20000 in
theorem allValid_calls (a : Option Addr) (n c : Nat) (f g : Nat → Int) (w : World) (h : FrsA w ⟨a, n, c⟩ f g) (h1 : ∀ i, i < n → In64 (f i) ∧ In64 (g i)) :
    Calls Try.prog 23 #[.slice a n c] w fun e w' => e = .returned (.bool (!anyB (fun i => !vaB (f i) (g i)) n)) ∧ Cls w w' := by
  have C1 : Hid (∀ W, Below w.heap.size w W → Calls Try.prog 40 #[.slice a n c, .func (.func 47) #[] #[]] W fun e w' => e = .returned (.bool (anyB (fun i => !vaB (f i) (g i)) n)) ∧ Cls W w') := Lib.hid fun W hW =>
    contains_fr a n c f g (fun i => !vaB (f i) (g i)) W (h.later hW) fun V hV j hj => allValid1_calls (f j) (g j) V (h1 j hj).1 (h1 j hj).2
  clear h h1
  generalize anyB (fun i => !vaB (f i) (g i)) n = r at *
  go_enter Try.func23, Try.ntmps23
  go_wp2_with (go_at_call 40; (with_reducible refine Calls.mono (C1.out _ ?_) ?_); (focus (repeat first | with_reducible exact Below.refl _ _ | with_reducible refine Below.setCell ?_ (by first | omega | (simp; done) | (simp; omega)) _ | with_reducible refine Below.alloc ?_ (by first | omega | (simp; done) | (simp; omega)) _ | with_reducible refine Below.drew ?_ | with_reducible refine Ext.on _ ?_ (by first | omega | (simp; done) | (simp; omega)))); rintro e _ ⟨rfl, ⟨y, rfl⟩⟩)
  go_ret
  refine ⟨rfl, Cls.of ?_⟩
  repeat first | with_reducible exact Below.refl _ _ | with_reducible refine Below.setCell ?_ (by first | omega | (simp; done) | (simp; omega)) _ | with_reducible refine Below.alloc ?_ (by first | omega | (simp; done) | (simp; omega)) _ | with_reducible refine Below.drew ?_ | with_reducible refine Ext.on _ ?_ (by first | omega | (simp; done) | (simp; omega))
end Go.Proofs.Ytogjollefllajaa
