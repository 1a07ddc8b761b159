/-
  The reference's fractions of any size: products, and the other sign. The reference's comparison of fractions. Whether there is an element with a property: slices.ContainsFunc in its three instances; within, allValid. Which systems are valid: the program's limited, rectangular, Valid.
-/
import Derived.Test.YthbdkhmgopahbaaJ07
import Derived.Test.YthbdkhmgopahbaaJ06
import Derived.Test.YthbdkhmgopahbaaJ05
set_option linter.unusedVariables false
namespace Go.Proofs.Ythbdkhmgopahbaa
open Go Go.RowKit Go.Deep
theorem new_at1d (w : World) (o : Obj) (cs : Array Value) (t : TypeId) : ((w.alloc o).alloc (.cells cs t)).heap[w.heap.size + 1]? = some (.cells cs t) := by
  have := heap_alloc_new (w.alloc o) (.cells cs t)
  simpa using this
theorem cell_a30 (W : World) (b off : Nat) (v0 v1 v2 : Value) : (((W.setCell ⟨b + 1 + 1, 0, none⟩ v0).setCell ⟨b + 1 + 1, 1, none⟩ v1).setCell ⟨b + 1 + 1, 2, none⟩ v2).cell? ⟨b, off, none⟩ = W.cell? ⟨b, off, none⟩ := cell_after3 _ _ _ _ _ _ (by show b ≠ b + 1 + 1; omega)
theorem cell_a31 (W : World) (b off : Nat) (v0 v1 v2 : Value) : (((W.setCell ⟨b + 1 + 1, 0, none⟩ v0).setCell ⟨b + 1 + 1, 1, none⟩ v1).setCell ⟨b + 1 + 1, 2, none⟩ v2).cell? ⟨b + 1, off, none⟩ = W.cell? ⟨b + 1, off, none⟩ := cell_after3 _ _ _ _ _ _ (by show b + 1 ≠ b + 1 + 1; omega)
theorem Turned_calls (N : Int) (a : Option Addr) (n c : Nat) (a' : Option Addr) (n' c' : Nat) (w : World) (h : NumAt w ⟨a, n, c⟩ N.natAbs) :
    Calls Try.prog 73 #[.agg #[.bool (decide (N < 0)), .slice a n c, .slice a' n' c']] w fun e w' => e = .returned (.agg #[.bool (decide (-N < 0)), .slice a n c, .slice a' n' c']) ∧ Cls w w' := by
  have hl : n = (digs N.natAbs).length := h.1
  have h0 : (0 < n ↔ N ≠ 0) := by
    rw [hl]
    constructor
    · intro hp hN
      rw [hN] at hp
      simp [digs_zero] at hp
    · intro hN
      exact digs_len_pos (by omega)
  obtain ⟨g, hg⟩ : ∃ g, decide (N < 0) = g := ⟨_, rfl⟩
  obtain ⟨r, hr⟩ : ∃ r, decide (-N < 0) = r := ⟨_, rfl⟩
  have hgr : r = (decide ((0 : Int) < n) && !g) := by
    rw [← hg, ← hr, Bool.eq_iff_iff]
    simp
    omega
  rw [hg, hr, hgr]
  clear h h0 hl hg hr hgr
  by_cases hn : (0 : Int) < n
  · have hd : decide ((0 : Int) < n) = true := decide_eq_true hn
    go_enter Try.func73, Try.ntmps73
    go_wp2_with fail
    refine ret_ex rfl ?_
    simp [results, Try.results73, go_sem]
    first | refine ⟨fun _ => (by omega), Cls.of ?_⟩ | refine Cls.of ?_
    repeat first | with_reducible exact Below.refl _ _ | with_reducible refine Below.setCell ?_ (by first | omega | (simp; done) | (simp; omega)) _ | with_reducible refine Below.alloc ?_ (by first | omega | (simp; done) | (simp; omega)) _ | with_reducible refine Below.drew ?_ | with_reducible refine Ext.on _ ?_ (by first | omega | (simp; done) | (simp; omega))
  · have hd : decide ((0 : Int) < n) = false := decide_eq_false hn
    go_enter Try.func73, Try.ntmps73
    go_wp2_with fail
    refine ret_ex rfl ?_
    simp [results, Try.results73, go_sem]
    first | refine ⟨fun _ => (by omega), Cls.of ?_⟩ | refine Cls.of ?_
    repeat first | with_reducible exact Below.refl _ _ | with_reducible refine Below.setCell ?_ (by first | omega | (simp; done) | (simp; omega)) _ | with_reducible refine Below.alloc ?_ (by first | omega | (simp; done) | (simp; omega)) _ | with_reducible refine Below.drew ?_ | with_reducible refine Ext.on _ ?_ (by first | omega | (simp; done) | (simp; omega))
theorem sg_mul (N1 N2 : Int) : sg (decide (N1 < 0) != decide (N2 < 0)) (N1.natAbs * N2.natAbs) = N1 * N2 := by
  have e : ((N1.natAbs * N2.natAbs : Nat) : Int) = (N1.natAbs : Int) * N2.natAbs := Int.natCast_mul _ _
  by_cases h1 : N1 < 0 <;> by_cases h2 : N2 < 0
  · rw [decide_eq_true h1, decide_eq_true h2]; simp only [sg, bne_self_eq_false, Bool.false_eq_true, if_false]
    rw [e, show ((N1.natAbs : Nat) : Int) = -N1 by omega, show ((N2.natAbs : Nat) : Int) = -N2 by omega, Int.neg_mul_neg]
  · rw [decide_eq_true h1, decide_eq_false h2]; simp only [sg, Bool.true_bne, Bool.not_false, if_true]
    rw [e, show ((N1.natAbs : Nat) : Int) = -N1 by omega, show ((N2.natAbs : Nat) : Int) = N2 by omega, Int.neg_mul, Int.neg_neg]
  · rw [decide_eq_false h1, decide_eq_true h2]; simp only [sg, Bool.false_bne, if_true]
    rw [e, show ((N1.natAbs : Nat) : Int) = N1 by omega, show ((N2.natAbs : Nat) : Int) = -N2 by omega, Int.mul_neg, Int.neg_neg]
  · rw [decide_eq_false h1, decide_eq_false h2]; simp only [sg, bne_self_eq_false, Bool.false_eq_true, if_false]
    rw [e, show ((N1.natAbs : Nat) : Int) = N1 by omega, show ((N2.natAbs : Nat) : Int) = N2 by omega]
theorem sg_div (an bd bn : Int) (h : 0 < bd) : sg (decide (an < 0) != decide (bn < 0)) (an.natAbs * bd.natAbs) = an * (if bn < 0 then -bd else bd) := by
  have := sg_mul an (if bn < 0 then -bd else bd)
  have e1 : decide ((if bn < 0 then -bd else bd) < 0) = decide (bn < 0) := by
    by_cases hb : bn < 0
    · rw [if_pos hb, decide_eq_true hb]; exact decide_eq_true (by omega)
    · rw [if_neg hb, decide_eq_false hb]; exact decide_eq_false (by omega)
  have e2 : (if bn < 0 then -bd else bd).natAbs = bd.natAbs := by split <;> simp
  rwa [e1, e2] at this
def RBig (w : World) (N : Int) (D : Nat) (e : Ending) (w' : World) : Prop := ∃ s t : Sl, e = .returned (.agg #[.bool (decide (frI N D < 0)), .slice s.a s.len s.cap, .slice t.a t.len t.cap]) ∧ NumAt w' s (frI N D).natAbs ∧ NumAt w' t (frd N D) ∧ Cls w w'
theorem Plus_calls (N1 N2 : Int) (D1 D2 : Nat) (a1 : Option Addr) (n1 c1 : Nat) (a2 : Option Addr) (n2 c2 : Nat) (a3 : Option Addr) (n3 c3 : Nat) (a4 : Option Addr) (n4 c4 : Nat) (w : World) (h1 : NumAt w ⟨a1, n1, c1⟩ N1.natAbs) (h2 : NumAt w ⟨a2, n2, c2⟩ D1) (h3 : NumAt w ⟨a3, n3, c3⟩ N2.natAbs) (h4 : NumAt w ⟨a4, n4, c4⟩ D2)
    (k1 : N1.natAbs < 1000000000 ^ 100) (k2 : D1 < 1000000000 ^ 100) (k3 : N2.natAbs < 1000000000 ^ 100) (k4 : D2 < 1000000000 ^ 100) (hD0 : 0 < D1 * D2) :
    Calls Try.prog 41 #[.agg #[.bool (decide (N1 < 0)), .slice a1 n1 c1, .slice a2 n2 c2], .agg #[.bool (decide (N2 < 0)), .slice a3 n3 c3, .slice a4 n4 c4]] w (RBig w (N1 * D2 + N2 * D1) (D1 * D2)) := by
  obtain ⟨p1, p2, p3⟩ := plus_ways N1 N2 D1 D2
  by_cases hb : decide (N1 < 0) = decide (N2 < 0)
  · exact rPlus_same _ _ a1 n1 c1 a2 n2 c2 a3 n3 c3 a4 n4 c4 N1.natAbs D1 N2.natAbs D2 _ _ w h1 h2 h3 h4 k1 k2 k3 k4 rfl hD0 hb (p1 hb)
  · by_cases hx : N2.natAbs * D1 ≤ N1.natAbs * D2
    · exact rPlus_more _ _ a1 n1 c1 a2 n2 c2 a3 n3 c3 a4 n4 c4 N1.natAbs D1 N2.natAbs D2 _ _ w h1 h2 h3 h4 k1 k2 k3 k4 rfl hD0 hb hx (p2 hb hx)
    · exact rPlus_less _ _ a1 n1 c1 a2 n2 c2 a3 n3 c3 a4 n4 c4 N1.natAbs D1 N2.natAbs D2 _ _ w h1 h2 h3 h4 k1 k2 k3 k4 rfl hD0 hb (by omega) (p3 hb (by omega))
end Go.Proofs.Ythbdkhmgopahbaa
set_option linter.unusedVariables false
namespace Go.Proofs.Ythbdkhmgopahbaa
open Go Go.RowKit Go.Deep
theorem new3_0 (w : World) (o o' o'' : Obj) : (((w.alloc o).alloc o').alloc o'').heap[w.heap.size]? = some o := by
  have := (((Below.refl (w.heap.size + 1) (w.alloc o)).alloc (by simp) o').alloc (by simp) o'').block w.heap.size (by omega)
  exact this.trans (heap_alloc_new w o)
theorem new3_1 (w : World) (o o' o'' : Obj) : (((w.alloc o).alloc o').alloc o'').heap[w.heap.size + 1]? = some o' := by
  have := ((Below.refl (w.heap.size + 1 + 1) ((w.alloc o).alloc o')).alloc (by simp) o'').block (w.heap.size + 1) (by omega)
  have h := heap_alloc_new (w.alloc o) o'
  exact this.trans (by simpa using h)
theorem cell_after2 (W : World) (T : Nat) (c : Addr) (v0 v1 : Value) (h : c.block ≠ T) : ((W.setCell ⟨T, 0, none⟩ v0).setCell ⟨T, 1, none⟩ v1).cell? c = W.cell? c := by
  refine World.cell?_of_block ?_
  rw [heap_setCell_other _ _ _ _ h, heap_setCell_other _ _ _ _ h]
theorem cell_a20 (W : World) (b off : Nat) (v0 v1 : Value) : ((W.setCell ⟨b + 1 + 1, 0, none⟩ v0).setCell ⟨b + 1 + 1, 1, none⟩ v1).cell? ⟨b, off, none⟩ = W.cell? ⟨b, off, none⟩ := cell_after2 _ _ _ _ _ (by show b ≠ b + 1 + 1; omega)
theorem cell_a21 (W : World) (b off : Nat) (v0 v1 : Value) : ((W.setCell ⟨b + 1 + 1, 0, none⟩ v0).setCell ⟨b + 1 + 1, 1, none⟩ v1).cell? ⟨b + 1, off, none⟩ = W.cell? ⟨b + 1, off, none⟩ := cell_after2 _ _ _ _ _ (by show b + 1 ≠ b + 1 + 1; omega)
theorem below2 {B : Nat} {w0 W : World} {T : Nat} (h : Below B w0 W) (hT : B ≤ T) (v0 v1 : Value) : Below B w0 ((W.setCell ⟨T, 0, none⟩ v0).setCell ⟨T, 1, none⟩ v1) := (h.setCell hT v0).setCell hT v1
theorem va_big3 {n d : Int} (h : vaB n d = true) : n.natAbs < 1000000000 ^ 3 ∧ d.natAbs < 1000000000 ^ 3 ∧ 0 < d.natAbs := by
  obtain ⟨h1, h2, h3, h4⟩ := vaB_rng h
  rw [show (1000000000 : Nat) ^ 3 = 1000000000000000000000000000 from rfl]
  omega
theorem pow_big {x k : Nat} (h : x < 1000000000 ^ k) (hk : k ≤ 100) : x < 1000000000 ^ 100 := Nat.lt_of_lt_of_le h (Nat.pow_le_pow_right (by omega) hk)
theorem va_big {n d : Int} (h : vaB n d = true) : n.natAbs < 1000000000 ^ 100 ∧ d.natAbs < 1000000000 ^ 100 ∧ 0 < d.natAbs := by
  obtain ⟨h1, h2, h3⟩ := va_big3 h
  exact ⟨pow_big h1 (by omega), pow_big h2 (by omega), h3⟩
theorem new2_0 (w : World) (o o' : Obj) : ((w.alloc o).alloc o').heap[w.heap.size]? = some o := by
  have := ((Below.refl (w.heap.size + 1) (w.alloc o)).alloc (by simp) o').block w.heap.size (by omega)
  exact this.trans (heap_alloc_new w o)
theorem new2_1 (w : World) (o o' : Obj) : ((w.alloc o).alloc o').heap[w.heap.size + 1]? = some o' := by
  have h := heap_alloc_new (w.alloc o) o'
  simpa using h
theorem sign_fr (N : Int) {D : Nat} (hD : 0 < D) : cmpI (frI N D) 0 = cmpI N 0 := by
  have h1 := frI_neg (N := N) hD
  have h2 := frI_mul N D
  have h3 : (0 : Int) < ((Nat.gcd N.natAbs D : Nat) : Int) := by have := gcd_pos_right (a := N.natAbs) hD; omega
  by_cases h : N < 0
  · rw [show cmpI N 0 = -1 from if_pos h, show cmpI (frI N D) 0 = -1 from if_pos (h1.2 h)]
  · have h4 : ¬ frI N D < 0 := fun e => h (h1.1 e)
    by_cases h5 : N = 0
    · rw [h5, frI_zero]
    · have h6 : frI N D ≠ 0 := fun e => by rw [e, Int.mul_zero] at h2; exact h5 h2.symm
      unfold cmpI
      rw [if_neg h, if_neg h4, if_pos (by omega), if_pos (by omega)]
theorem cmpI_sub (x y : Int) : cmpI (x + -y) 0 = cmpI x y := by unfold cmpI; split <;> (try split) <;> (try split) <;> (try split) <;> omega
end Go.Proofs.Ythbdkhmgopahbaa
set_option linter.unusedVariables false
namespace Go.Proofs.Ythbdkhmgopahbaa
open Go Go.RowKit Go.Deep
set_option maxHeartbeats 4000000 in
set_option maxRecDepth 20000 in
theorem index_int (a : Option Addr) (sn sc : Nat) (f : Nat → Int) (p : Nat → Bool) (B1 B2 : Nat) (w : World) (hs : IntsA w ⟨a, sn, sc⟩ f) (C : ∀ (W : World), Below w.heap.size w W → ∀ j, j < sn → Calls Try.prog 98 #[.int .i64 (f j), .pointer (some ⟨B1, 0, none⟩), .pointer (some ⟨B2, 0, none⟩)] W fun e w' => e = .returned (.bool (p j)) ∧ Cls W w') :
    Calls Try.prog 112 #[.slice a sn sc, .func (.func 98) #[] #[.pointer (some ⟨B1, 0, none⟩), .pointer (some ⟨B2, 0, none⟩)]] w fun e w' => e = .returned (.int .i64 (fstI p 0 sn)) ∧ Cls w w' := by
  obtain ⟨hle, hmax, hh⟩ := hs
  simp only at hle hmax hh
  unfold maxLen at hmax
  have H := Lib.hid hh
  have HC := Lib.hid C
  clear hh C
  go_enter Try.func112, Try.ntmps112
  go_wp2_with fail
  go_loopw [8] (fun i wr => ∃ j : Nat, j ≤ sn ∧ i = .int .i64 j ∧ Hid (fstI p 0 sn = fstI p j (sn - j)) ∧ Cls w wr) (fun i _ => sn - (intOf i).toNat)
  case atStart => exact ⟨0, Nat.zero_le _, rfl, Lib.hid rfl, Cls.of (Below.refl _ _)⟩
  case round =>
    obtain ⟨j, hj, rfl, HE, x, rfl⟩ := hrel
    have xs := x.size
    by_cases hltj : j < sn
    · obtain ⟨b, off, ha, hb2, hc⟩ := H.out.resolve_left (by omega)
      subst ha
      have q0 := hc j hltj
      have hS : Hid (sn - j = (sn - (j + 1)) + 1) := Lib.hid (by omega)
      have C1 := Lib.hid (HC.out x.val x.below j hltj)
      clear hc HC H
      cases hbb : p j
      all_goals
        have HB := Lib.hid hbb
        rw [hbb] at C1
        clear hbb
        generalize f j = tj at q0 C1
        go_wp2_with (go_at_call 98; ((with_reducible refine (Cls.call C1.out).mono ?_); rintro r _ ⟨rfl, y, rfl⟩))
      · go_roundw
        case rel => exact ⟨j + 1, by omega, by go_num, Lib.hid (by rw [HE.out, hS.out, fstI_go HB.out]), y, rfl⟩
        case measure => simp [intOf]; omega
      · go_ret
        exact ⟨ret_int (by rw [HE.out, hS.out, fstI_stop HB.out]), y, rfl⟩
    · have hz : Hid (sn - j = 0) := Lib.hid (by omega)
      go_wp2_with fail
      go_ret
      exact ⟨ret_int (by rw [HE.out, hz.out]; rfl), x, rfl⟩
set_option maxHeartbeats 4000000 in
set_option maxRecDepth 20000 in
theorem contains_int (a : Option Addr) (sn sc : Nat) (f : Nat → Int) (p : Nat → Bool) (B1 B2 : Nat) (w : World) (hs : IntsA w ⟨a, sn, sc⟩ f) (C : ∀ (W : World), Below w.heap.size w W → ∀ j, j < sn → Calls Try.prog 98 #[.int .i64 (f j), .pointer (some ⟨B1, 0, none⟩), .pointer (some ⟨B2, 0, none⟩)] W fun e w' => e = .returned (.bool (p j)) ∧ Cls W w') :
    Calls Try.prog 97 #[.slice a sn sc, .func (.func 98) #[] #[.pointer (some ⟨B1, 0, none⟩), .pointer (some ⟨B2, 0, none⟩)]] w fun e w' => e = .returned (.bool (anyB p sn)) ∧ Cls w w' := by
  have C1 := Lib.hid (index_int a sn sc f p B1 B2 w hs C)
  clear hs C
  unfold anyB
  generalize fstI p 0 sn = n at C1 ⊢
  go_enter Try.func97, Try.ntmps97
  go_wp2_with (go_at_call 112; ((with_reducible refine C1.out.mono ?_); rintro r _ ⟨rfl, y, rfl⟩))
  go_ret
  exact ⟨ret_bool (by simp), y, rfl⟩
set_option maxHeartbeats 4000000 in
set_option maxRecDepth 20000 in
theorem index_row (a : Option Addr) (sn sc : Nat) (r : Nat → Sl) (f : Nat → Nat → Int) (p : Nat → Bool) (B1 : Nat) (w : World) (hs : RowsA w ⟨a, sn, sc⟩ r f) (C : ∀ (W : World), Below w.heap.size w W → ∀ j, j < sn → Calls Try.prog 82 #[.slice (r j).a (r j).len (r j).cap, .pointer (some ⟨B1, 0, none⟩)] W fun e w' => e = .returned (.bool (p j)) ∧ Cls W w') :
    Calls Try.prog 103 #[.slice a sn sc, .func (.func 82) #[] #[.pointer (some ⟨B1, 0, none⟩)]] w fun e w' => e = .returned (.int .i64 (fstI p 0 sn)) ∧ Cls w w' := by
  obtain ⟨hle, hmax, _, hh⟩ := hs
  simp only at hle hmax hh
  unfold maxLen at hmax
  have H := Lib.hid hh
  have HC := Lib.hid C
  clear hh C
  go_enter Try.func103, Try.ntmps103
  go_wp2_with fail
  go_loopw [8] (fun i wr => ∃ j : Nat, j ≤ sn ∧ i = .int .i64 j ∧ Hid (fstI p 0 sn = fstI p j (sn - j)) ∧ Cls w wr) (fun i _ => sn - (intOf i).toNat)
  case atStart => exact ⟨0, Nat.zero_le _, rfl, Lib.hid rfl, Cls.of (Below.refl _ _)⟩
  case round =>
    obtain ⟨j, hj, rfl, HE, x, rfl⟩ := hrel
    have xs := x.size
    by_cases hltj : j < sn
    · obtain ⟨b, off, ha, hb2, hc⟩ := H.out.resolve_left (by omega)
      subst ha
      have q0 := hc j hltj
      have hS : Hid (sn - j = (sn - (j + 1)) + 1) := Lib.hid (by omega)
      have C1 := Lib.hid (HC.out x.val x.below j hltj)
      clear hc HC H
      cases hbb : p j
      all_goals
        have HB := Lib.hid hbb
        rw [hbb] at C1
        clear hbb
        generalize r j = tj at q0 C1
        go_wp2_with (go_at_call 82; ((with_reducible refine (Cls.call C1.out).mono ?_); rintro r _ ⟨rfl, y, rfl⟩))
      · go_roundw
        case rel => exact ⟨j + 1, by omega, by go_num, Lib.hid (by rw [HE.out, hS.out, fstI_go HB.out]), y, rfl⟩
        case measure => simp [intOf]; omega
      · go_ret
        exact ⟨ret_int (by rw [HE.out, hS.out, fstI_stop HB.out]), y, rfl⟩
    · have hz : Hid (sn - j = 0) := Lib.hid (by omega)
      go_wp2_with fail
      go_ret
      exact ⟨ret_int (by rw [HE.out, hz.out]; rfl), x, rfl⟩
set_option maxHeartbeats 4000000 in
set_option maxRecDepth 20000 in
theorem contains_row (a : Option Addr) (sn sc : Nat) (r : Nat → Sl) (f : Nat → Nat → Int) (p : Nat → Bool) (B1 : Nat) (w : World) (hs : RowsA w ⟨a, sn, sc⟩ r f) (C : ∀ (W : World), Below w.heap.size w W → ∀ j, j < sn → Calls Try.prog 82 #[.slice (r j).a (r j).len (r j).cap, .pointer (some ⟨B1, 0, none⟩)] W fun e w' => e = .returned (.bool (p j)) ∧ Cls W w') :
    Calls Try.prog 83 #[.slice a sn sc, .func (.func 82) #[] #[.pointer (some ⟨B1, 0, none⟩)]] w fun e w' => e = .returned (.bool (anyB p sn)) ∧ Cls w w' := by
  have C1 := Lib.hid (index_row a sn sc r f p B1 w hs C)
  clear hs C
  unfold anyB
  generalize fstI p 0 sn = n at C1 ⊢
  go_enter Try.func83, Try.ntmps83
  go_wp2_with (go_at_call 103; ((with_reducible refine C1.out.mono ?_); rintro r _ ⟨rfl, y, rfl⟩))
  go_ret
  exact ⟨ret_bool (by simp), y, rfl⟩
set_option maxHeartbeats 4000000 in
set_option maxRecDepth 20000 in
theorem index_fr (a : Option Addr) (sn sc : Nat) (f g : Nat → Int) (p : Nat → Bool)  (w : World) (hs : FrsA w ⟨a, sn, sc⟩ f g) (C : ∀ (W : World), Below w.heap.size w W → ∀ j, j < sn → Calls Try.prog 55 #[.agg #[.int .i64 (f j), .int .i64 (g j)]] W fun e w' => e = .returned (.bool (p j)) ∧ Cls W w') :
    Calls Try.prog 64 #[.slice a sn sc, .func (.func 55) #[] #[]] w fun e w' => e = .returned (.int .i64 (fstI p 0 sn)) ∧ Cls w w' := by
  obtain ⟨hle, hmax, hh⟩ := hs
  simp only at hle hmax hh
  unfold maxLen at hmax
  have H := Lib.hid hh
  have HC := Lib.hid C
  clear hh C
  go_enter Try.func64, Try.ntmps64
  go_wp2_with fail
  go_loopw [8] (fun i wr => ∃ j : Nat, j ≤ sn ∧ i = .int .i64 j ∧ Hid (fstI p 0 sn = fstI p j (sn - j)) ∧ Cls w wr) (fun i _ => sn - (intOf i).toNat)
  case atStart => exact ⟨0, Nat.zero_le _, rfl, Lib.hid rfl, Cls.of (Below.refl _ _)⟩
  case round =>
    obtain ⟨j, hj, rfl, HE, x, rfl⟩ := hrel
    have xs := x.size
    by_cases hltj : j < sn
    · obtain ⟨b, off, ha, hb2, hc⟩ := H.out.resolve_left (by omega)
      subst ha
      have q0 := hc j hltj
      have hS : Hid (sn - j = (sn - (j + 1)) + 1) := Lib.hid (by omega)
      have C1 := Lib.hid (HC.out x.val x.below j hltj)
      clear hc HC H
      cases hbb : p j
      all_goals
        have HB := Lib.hid hbb
        rw [hbb] at C1
        clear hbb
        generalize f j = tj at q0 C1
        generalize g j = uj at q0 C1
        obtain ⟨q1, q2⟩ := q0
        go_wp2_with (go_at_call 55; ((with_reducible refine (Cls.call C1.out).mono ?_); rintro r _ ⟨rfl, y, rfl⟩))
      · go_roundw
        case rel => exact ⟨j + 1, by omega, by go_num, Lib.hid (by rw [HE.out, hS.out, fstI_go HB.out]), y, rfl⟩
        case measure => simp [intOf]; omega
      · go_ret
        exact ⟨ret_int (by rw [HE.out, hS.out, fstI_stop HB.out]), y, rfl⟩
    · have hz : Hid (sn - j = 0) := Lib.hid (by omega)
      go_wp2_with fail
      go_ret
      exact ⟨ret_int (by rw [HE.out, hz.out]; rfl), x, rfl⟩
set_option maxHeartbeats 4000000 in
set_option maxRecDepth 20000 in
theorem contains_fr (a : Option Addr) (sn sc : Nat) (f g : Nat → Int) (p : Nat → Bool)  (w : World) (hs : FrsA w ⟨a, sn, sc⟩ f g) (C : ∀ (W : World), Below w.heap.size w W → ∀ j, j < sn → Calls Try.prog 55 #[.agg #[.int .i64 (f j), .int .i64 (g j)]] W fun e w' => e = .returned (.bool (p j)) ∧ Cls W w') :
    Calls Try.prog 32 #[.slice a sn sc, .func (.func 55) #[] #[]] w fun e w' => e = .returned (.bool (anyB p sn)) ∧ Cls w w' := by
  have C1 := Lib.hid (index_fr a sn sc f g p  w hs C)
  clear hs C
  unfold anyB
  generalize fstI p 0 sn = n at C1 ⊢
  go_enter Try.func32, Try.ntmps32
  go_wp2_with (go_at_call 64; ((with_reducible refine C1.out.mono ?_); rintro r _ ⟨rfl, y, rfl⟩))
  go_ret
  exact ⟨ret_bool (by simp), y, rfl⟩
theorem in64_parts {n : Int} (h : In64 n) : -9223372036854775808 ≤ n ∧ n ≤ 9223372036854775807 := h
set_option maxHeartbeats 2000000 in
set_option maxRecDepth 20000 in
theorem within1_calls (n lo hi : Int) (B1 B2 : Nat) (w : World) (h1 : w.cell? ⟨B1, 0, none⟩ = some (.int .i64 lo)) (h2 : w.cell? ⟨B2, 0, none⟩ = some (.int .i64 hi)) :
    Calls Try.prog 98 #[.int .i64 n, .pointer (some ⟨B1, 0, none⟩), .pointer (some ⟨B2, 0, none⟩)] w fun e w' => e = .returned (.bool (outB lo hi n)) ∧ Cls w w' := by
  by_cases d1 : n < lo
  · have e : outB lo hi n = true := by simp [outB, d1]
    have d2 : decide (n < lo) = true := decide_eq_true d1
    rw [e]
    clear e d1
    go_enter Try.func98, Try.ntmps98
    go_wp2_with fail
    go_ret
    exact ⟨rfl, Cls.of (Below.refl _ _)⟩
  · have d2 : decide (n < lo) = false := decide_eq_false d1
    have e : outB lo hi n = decide (hi < n) := by simp [outB, d1]
    rw [e]
    clear e d1
    go_enter Try.func98, Try.ntmps98
    go_wp2_with fail
    go_ret
    exact ⟨rfl, Cls.of (Below.refl _ _)⟩
set_option maxHeartbeats 2000000 in
set_option maxRecDepth 20000 in
theorem within_calls (a : Option Addr) (n c : Nat) (f : Nat → Int) (lo hi : Int) (w : World) (h : IntsA w ⟨a, n, c⟩ f) :
    Calls Try.prog 65 #[.slice a n c, .int .i64 lo, .int .i64 hi] w fun e w' => e = .returned (.bool (!anyB (fun i => outB lo hi (f i)) n)) ∧ Cls w w' := by
  have C1 : Hid (Calls Try.prog 97 #[.slice a n c, .func (.func 98) #[] #[.pointer (some ⟨w.heap.size, 0, none⟩), .pointer (some ⟨w.heap.size + 1, 0, none⟩)]] ((w.alloc (.cells #[.int .i64 lo] 2)).alloc (.cells #[.int .i64 hi] 2)) fun e w' => e = .returned (.bool (anyB (fun i => outB lo hi (f i)) n)) ∧ Cls ((w.alloc (.cells #[.int .i64 lo] 2)).alloc (.cells #[.int .i64 hi] 2)) w') := Lib.hid (by
    refine contains_int a n c f (fun i => outB lo hi (f i)) w.heap.size (w.heap.size + 1) _ (h.later (by repeat first | with_reducible exact Below.refl _ _ | with_reducible refine Below.setCell ?_ (by first | omega | (simp; done) | (simp; omega)) _ | with_reducible refine Below.alloc ?_ (by first | omega | (simp; done) | (simp; omega)) _ | with_reducible refine Below.drew ?_ | with_reducible refine Ext.on _ ?_ (by first | omega | (simp; done) | (simp; omega)))) fun V hV j hj => within1_calls (f j) lo hi _ _ V ?_ ?_
    · refine (hV.cell (p := ⟨w.heap.size, 0, none⟩) (by simp; omega)).trans ?_
      rw [cell_of_row _ _ _ _ _ (0, 0) (new2_0 w _ _)]; rfl
    · refine (hV.cell (p := ⟨w.heap.size + 1, 0, none⟩) (by simp)).trans ?_
      rw [cell_of_row _ _ _ _ _ (0, 0) (new2_1 w _ _)]; rfl)
  clear h
  generalize anyB (fun i => outB lo hi (f i)) n = r at *
  go_enter Try.func65, Try.ntmps65
  go_wp2_with (go_at_call 97; (with_reducible refine C1.out.mono ?_); rintro e _ ⟨rfl, ⟨y, rfl⟩⟩)
  go_ret
  refine ⟨rfl, Cls.of ?_⟩
  repeat first | with_reducible exact Below.refl _ _ | with_reducible refine Below.setCell ?_ (by first | omega | (simp; done) | (simp; omega)) _ | with_reducible refine Below.alloc ?_ (by first | omega | (simp; done) | (simp; omega)) _ | with_reducible refine Below.drew ?_ | with_reducible refine Ext.on _ ?_ (by first | omega | (simp; done) | (simp; omega))
set_option maxHeartbeats 2000000 in
set_option maxRecDepth 20000 in
theorem allValid1_calls (n d : Int) (w : World) (h1 : In64 n) (h2 : In64 d) :
    Calls Try.prog 55 #[.agg #[.int .i64 n, .int .i64 d]] w fun e w' => e = .returned (.bool (!vaB n d)) ∧ Cls w w' := by
  have C1 := Lib.hid (fun W => Valid_calls n d W h1.1 h1.2 h2.1 h2.2)
  clear h1 h2
  generalize vaB n d = v at *
  go_enter Try.func55, Try.ntmps55
  go_wp2_with (go_at_call 56; (with_reducible refine (C1.out _).mono ?_); rintro e _ ⟨rfl, ⟨y1, rfl⟩⟩)
  go_ret
  refine ⟨rfl, Cls.of ?_⟩
  repeat first | with_reducible exact Below.refl _ _ | with_reducible refine Below.setCell ?_ (by first | omega | (simp; done) | (simp; omega)) _ | with_reducible refine Below.alloc ?_ (by first | omega | (simp; done) | (simp; omega)) _ | with_reducible refine Below.drew ?_ | with_reducible refine Ext.on _ ?_ (by first | omega | (simp; done) | (simp; omega))
set_option maxHeartbeats 2000000 in
set_option maxRecDepth 20000 in
theorem allValid_calls (a : Option Addr) (n c : Nat) (f g : Nat → Int) (w : World) (h : FrsA w ⟨a, n, c⟩ f g) (h1 : ∀ i, i < n → In64 (f i) ∧ In64 (g i)) :
    Calls Try.prog 25 #[.slice a n c] w fun e w' => e = .returned (.bool (!anyB (fun i => !vaB (f i) (g i)) n)) ∧ Cls w w' := by
  have C1 : Hid (∀ W, Below w.heap.size w W → Calls Try.prog 32 #[.slice a n c, .func (.func 55) #[] #[]] W fun e w' => e = .returned (.bool (anyB (fun i => !vaB (f i) (g i)) n)) ∧ Cls W w') := Lib.hid fun W hW =>
    contains_fr a n c f g (fun i => !vaB (f i) (g i)) W (h.later hW) fun V hV j hj => allValid1_calls (f j) (g j) V (h1 j hj).1 (h1 j hj).2
  clear h h1
  generalize anyB (fun i => !vaB (f i) (g i)) n = r at *
  go_enter Try.func25, Try.ntmps25
  go_wp2_with (go_at_call 32; (with_reducible refine Calls.mono (C1.out _ ?_) ?_); (focus (repeat first | with_reducible exact Below.refl _ _ | with_reducible refine Below.setCell ?_ (by first | omega | (simp; done) | (simp; omega)) _ | with_reducible refine Below.alloc ?_ (by first | omega | (simp; done) | (simp; omega)) _ | with_reducible refine Below.drew ?_ | with_reducible refine Ext.on _ ?_ (by first | omega | (simp; done) | (simp; omega)))); rintro e _ ⟨rfl, ⟨y, rfl⟩⟩)
  go_ret
  refine ⟨rfl, Cls.of ?_⟩
  repeat first | with_reducible exact Below.refl _ _ | with_reducible refine Below.setCell ?_ (by first | omega | (simp; done) | (simp; omega)) _ | with_reducible refine Below.alloc ?_ (by first | omega | (simp; done) | (simp; omega)) _ | with_reducible refine Below.drew ?_ | with_reducible refine Ext.on _ ?_ (by first | omega | (simp; done) | (simp; omega))
end Go.Proofs.Ythbdkhmgopahbaa
set_option linter.unusedVariables false
namespace Go.Proofs.Ythbdkhmgopahbaa
open Go Go.RowKit Go.Deep
def Sy.v (y : Sy) : Value := .agg #[.slice y.U.a y.U.len y.U.cap, .slice y.R.a y.R.len y.R.cap, .slice y.B.a y.B.len y.B.cap]
/-- A row with a number beyond its limit. -/
def rowOut (y : Sy) (i : Nat) : Bool := anyB (fun j => outB (-1000000) 1000000 (y.co i j)) (y.row i).len
def limB (y : Sy) : Bool := decide (y.U.len ≤ 200) && (decide (y.R.len ≤ 100) && (!anyB (rowOut y) y.R.len && (!anyB (fun i => outB (-1000000000) 1000000000 (y.rt i)) y.B.len && !anyB (fun i => outB 0 1000000000 (y.up i)) y.U.len)))
def lenB (y : Sy) (i : Nat) : Bool := ((((y.row i).len : Nat) : Int) != ((y.U.len : Nat) : Int))
def rectB (y : Sy) : Bool := (((y.B.len : Nat) : Int) == ((y.R.len : Nat) : Int)) && !anyB (lenB y) y.R.len
def vaS (y : Sy) : Int := if limB y = true then if rectB y = true then 0 else 9 else 8
theorem three_s {W : World} {b : Nat} {a0 a1 a2 : Value} {t : TypeId} (h : W.heap[b]? = some (.cells #[a0, a1, a2] t)) : b < W.heap.size ∧ W.cell? ⟨b, 0, none⟩ = some a0 ∧ W.cell? ⟨b, 1, none⟩ = some a1 ∧ W.cell? ⟨b, 2, none⟩ = some a2 := by
  obtain ⟨h1, _, _, _, h2, h3, h4⟩ := three_b h
  exact ⟨h1, h2, h3, h4⟩
set_option maxHeartbeats 8000000 in
set_option maxRecDepth 20000 in
theorem limited_calls (y : Sy) (w : World) (h : SysA w y) :
    Calls Try.prog 53 #[y.v] w fun e w' => e = .returned (.bool (limB y)) ∧ Cls w w' := by
  obtain ⟨hU, hR, hB⟩ := h
  obtain ⟨rl, rm, hrow, hh⟩ := hR
  unfold maxLen at rm
  have C1 := Lib.hid (fun (W : World) (hb : Below w.heap.size w W) (i : Nat) (hi : i < y.R.len) => within_calls (y.row i).a (y.row i).len (y.row i).cap (y.co i) (-1000000) 1000000 W ((hrow i hi).later hb))
  have C2 := Lib.hid (fun (W : World) (hb : Below w.heap.size w W) => within_calls y.B.a y.B.len y.B.cap y.rt (-1000000000) 1000000000 W (hB.later hb))
  have C3 := Lib.hid (fun (W : World) (hb : Below w.heap.size w W) => within_calls y.U.a y.U.len y.U.cap y.up 0 1000000000 W (hU.later hb))
  have H := Lib.hid hh
  unfold limB Sy.v
  clear hU hB hh hrow
  have EP : Hid (∀ i, rowOut y i = anyB (fun j => outB (-1000000) 1000000 (y.co i j)) (y.row i).len) := Lib.hid fun i => rfl
  generalize rowOut y = p at *
  generalize anyB (fun i => outB (-1000000000) 1000000000 (y.rt i)) y.B.len = b1 at *
  generalize anyB (fun i => outB 0 1000000000 (y.up i)) y.U.len = b2 at *
  obtain ⟨⟨ua, un, uc⟩, ⟨ra, rn, rc⟩, ⟨ba, bn, bc⟩, up, row, co, rt⟩ := y
  simp only at *
  by_cases hu : un ≤ 200
  case neg =>
    have d1 : decide ((200 : Int) < ((un : Nat) : Int)) = true := decide_eq_true (by omega)
    rw [decide_eq_false hu, Bool.false_and]
    clear C1 C2 C3 H EP hu
    go_enter Try.func53, Try.ntmps53
    go_wp2_with fail
    go_ret
    refine ⟨rfl, Cls.of ?_⟩
    repeat first | with_reducible exact Below.refl _ _ | with_reducible refine Below.setCell ?_ (by first | omega | (simp; done) | (simp; omega)) _ | with_reducible refine Below.alloc ?_ (by first | omega | (simp; done) | (simp; omega)) _ | with_reducible refine Below.drew ?_ | with_reducible refine Ext.on _ ?_ (by first | omega | (simp; done) | (simp; omega))
  case pos =>
    have d1 : decide ((200 : Int) < ((un : Nat) : Int)) = false := decide_eq_false (by omega)
    rw [decide_eq_true hu, Bool.true_and]
    by_cases hr : rn ≤ 100
    case neg =>
      have d2 : decide ((100 : Int) < ((rn : Nat) : Int)) = true := decide_eq_true (by omega)
      rw [decide_eq_false hr, Bool.false_and]
      clear C1 C2 C3 H EP hu hr
      go_enter Try.func53, Try.ntmps53
      go_wp2_with fail
      go_ret
      refine ⟨rfl, Cls.of ?_⟩
      repeat first | with_reducible exact Below.refl _ _ | with_reducible refine Below.setCell ?_ (by first | omega | (simp; done) | (simp; omega)) _ | with_reducible refine Below.alloc ?_ (by first | omega | (simp; done) | (simp; omega)) _ | with_reducible refine Below.drew ?_ | with_reducible refine Ext.on _ ?_ (by first | omega | (simp; done) | (simp; omega))
    case pos =>
      have d2 : decide ((100 : Int) < ((rn : Nat) : Int)) = false := decide_eq_false (by omega)
      rw [decide_eq_true hr, Bool.true_and]
      unfold anyB
      clear hu
      go_enter Try.func53, Try.ntmps53
      go_wp2_with fail
      go_loopw [18] (fun i wr => ∃ j : Nat, j ≤ rn ∧ i = .int .i64 j ∧ Hid (fstI (p) 0 rn = fstI (p) j (rn - j)) ∧ Cls (w.alloc (.cells #[.slice ua un uc, .slice ra rn rc, .slice ba bn bc] 30)) wr) (fun i _ => rn - (intOf i).toNat)
      case atStart => exact ⟨0, Nat.zero_le _, rfl, Lib.hid rfl, Cls.of (Below.refl _ _)⟩
      case round =>
        obtain ⟨j, hj, rfl, HE, x, rfl⟩ := hrel
        have xs := x.size
        simp at xs
        by_cases hltj : j < rn
        · obtain ⟨b, off, ha, hb2, hc⟩ := H.out.resolve_left (by omega)
          subst ha
          have q0 := (x.below.cell (p := ⟨b, off + j, none⟩) (by simp; omega)).trans (((Below.refl w.heap.size w).alloc (Nat.le_refl _) _).cell (p := ⟨b, off + j, none⟩) hb2 |>.trans (hc j hltj))
          have hS : Hid (rn - j = (rn - (j + 1)) + 1) := Lib.hid (by omega)
          have K1 : Hid (∀ W, Below w.heap.size w W → Calls Try.prog 65 #[.slice (row j).a (row j).len (row j).cap, .int .i64 (-1000000), .int .i64 1000000] W fun e w' => e = .returned (.bool (!p j)) ∧ Cls W w') := Lib.hid fun W hW => by
            rw [EP.out]; exact C1.out W hW j hltj
          have hbx : b < x.val.heap.size := by omega
          clear hc H C1 C2 C3
          cases hbb : p j
          all_goals
            have HB := Lib.hid hbb
            rw [hbb] at K1
            clear hbb
            generalize row j = tj at q0 K1
            go_wp2_with (go_at_call 65; ((with_reducible refine Calls.mono (K1.out _ ?_) ?_); (focus (repeat first | with_reducible exact Below.refl _ _ | with_reducible refine Below.setCell ?_ (by first | omega | (simp; done) | (simp; omega)) _ | with_reducible refine Below.alloc ?_ (by first | omega | (simp; done) | (simp; omega)) _ | with_reducible refine Below.drew ?_ | with_reducible refine Ext.on _ ?_ (by first | omega | (simp; done) | (simp; omega)))); rintro r _ ⟨rfl, z, rfl⟩))
          · go_roundw
            case rel => exact ⟨j + 1, by omega, by go_num, Lib.hid (by rw [HE.out, hS.out, fstI_go HB.out]), Cls.step x ⟨z, rfl⟩⟩
            case measure => simp [intOf]; omega
          · go_ret
            refine ⟨ret_bool ?_, Cls.of ?_⟩
            · rw [HE.out, hS.out, fstI_stop HB.out]; simp
            · repeat first | with_reducible exact Below.refl _ _ | with_reducible refine Below.setCell ?_ (by first | omega | (simp; done) | (simp; omega)) _ | with_reducible refine Below.alloc ?_ (by first | omega | (simp; done) | (simp; omega)) _ | with_reducible refine Below.drew ?_ | with_reducible refine Ext.on _ ?_ (by first | omega | (simp; done) | (simp; omega))
        · have hz : Hid (rn - j = 0) := Lib.hid (by omega)
          obtain ⟨_, c0, c1, c2⟩ := three_s ((x.below.block w.heap.size (by simp)).trans (heap_alloc_new w _))
          have HF : Hid ((!decide (0 ≤ fstI (p) 0 rn)) = true) := Lib.hid (by rw [HE.out, hz.out]; rfl)
          clear H C1
          cases b1
          all_goals
            go_wp2_with (first | (go_at_call 65; ((with_reducible refine Calls.mono (C2.out _ ?_) ?_); (focus (repeat first | with_reducible exact Below.refl _ _ | with_reducible refine Below.setCell ?_ (by first | omega | (simp; done) | (simp; omega)) _ | with_reducible refine Below.alloc ?_ (by first | omega | (simp; done) | (simp; omega)) _ | with_reducible refine Below.drew ?_ | with_reducible refine Ext.on _ ?_ (by first | omega | (simp; done) | (simp; omega)))); rintro r _ ⟨rfl, z, rfl⟩; have zs := z.size; have zw : w.heap.size < z.val.heap.size := (by omega))) | (go_at_call 65; ((with_reducible refine Calls.mono (C3.out _ ?_) ?_); (focus (repeat first | with_reducible exact Below.refl _ _ | with_reducible refine Below.setCell ?_ (by first | omega | (simp; done) | (simp; omega)) _ | with_reducible refine Below.alloc ?_ (by first | omega | (simp; done) | (simp; omega)) _ | with_reducible refine Below.drew ?_ | with_reducible refine Ext.on _ ?_ (by first | omega | (simp; done) | (simp; omega)))); rintro r _ ⟨rfl, z2, rfl⟩)))
            go_ret
            refine ⟨ret_bool ?_, Cls.of ?_⟩
            · rw [HF.out]; simp
            · repeat first | with_reducible exact Below.refl _ _ | with_reducible refine Below.setCell ?_ (by first | omega | (simp; done) | (simp; omega)) _ | with_reducible refine Below.alloc ?_ (by first | omega | (simp; done) | (simp; omega)) _ | with_reducible refine Below.drew ?_ | with_reducible refine Ext.on _ ?_ (by first | omega | (simp; done) | (simp; omega))
end Go.Proofs.Ythbdkhmgopahbaa
