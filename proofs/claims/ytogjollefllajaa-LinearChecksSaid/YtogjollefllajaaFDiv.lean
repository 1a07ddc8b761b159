/-
  The reference's numbers: quotients and rests, greatest common divisors.
-/
import Derived.Test.YtogjollefllajaaFMul
import Derived.Test.YtogjollefllajaaFDivM
set_option linter.unusedVariables false
namespace Go.Proofs.Ytogjollefllajaa
open Go Go.RowKit Go.Deep
theorem UAt.grown {w w' : World} {s : Sl} {l : List Nat} {row : Option Nat} (h : UAt w s l) (hg : w.grownBy w' row) (hr : ∀ b off, s.a = some ⟨b, off, none⟩ → b < w.heap.size → row ≠ some b) : UAt w' s l := by
  obtain ⟨h1, h2, h3, h4⟩ := h
  refine ⟨h1, h2, h3, h4.imp id ?_⟩
  rintro ⟨b, off, ha, hlt, hc⟩
  exact ⟨b, off, ha, Nat.lt_of_lt_of_le hlt hg.size, fun i hi => by rw [World.cell?_of_block (w := w) (hg.block b hlt (fun e => hr b off ha hlt e.symm))]; exact hc i hi⟩
theorem own_slLen {w : World} {base size n : Nat} {e : TypeId} {v : Value} {xs : List Value} (h : w.ownsRow base e size v n xs) : slLen v = n := by
  rcases h.2 with ⟨rfl, h0⟩ | ⟨g, cap, cur, rfl, _⟩
  · exact h0.symm
  · rfl
theorem infoN : (Try.prog.info? 60).map (fun i => (i.zero, i.size, i.bytes)) = some (some (.slice none 0 0), 1, 24) := by kernel_rfl
def slV (s : Sl) : Value := .slice s.a s.len s.cap
def pwL (P : Nat → Sl) (k : Nat) : List Value := (List.range k).map fun i => slV (P i)
theorem pwL_succ (P : Nat → Sl) (k : Nat) : pwL P (k + 1) = pwL P k ++ [slV (P k)] := by simp [pwL, List.range_succ]
theorem pwL_length (P : Nat → Sl) (k : Nat) : (pwL P k).length = k := by simp [pwL]
def setP (P : Nat → Sl) (k : Nat) (s : Sl) : Nat → Sl := fun i => if i = k then s else P i
theorem pwL_set (P : Nat → Sl) (k : Nat) (s : Sl) {n : Nat} (h : n ≤ k) : pwL (setP P k s) n = pwL P n := by
  unfold pwL
  apply List.map_congr_left
  intro i hi
  have := List.mem_range.1 hi
  simp [setP, show ¬ i = k by omega]
/-- The powers: k of them are gathered, the k-th is at hand. -/
structure Pw (w wr : World) (y k : Nat) (P : Nat → Sl) (v : Value) : Prop where
  own : wr.ownsRow w.heap.size 60 1 v k (pwL P k)
  nums : ∀ i, i ≤ k → NumAt wr (P i) (y * 2 ^ i)
  sep : ∀ i, i ≤ k → ∀ b off, (P i).a = some ⟨b, off, none⟩ → v.ownBlock ≠ some b
  bel : Below w.heap.size w wr
theorem Pw.later {w wr wr' : World} {y k : Nat} {P : Nat → Sl} {v : Value} (h : Pw w wr y k P v) (hb : Below wr.heap.size wr wr') : Pw w wr' y k P v :=
  ⟨own_later' h.own hb, fun i hi => (h.nums i hi).later hb, h.sep, h.bel.trans (hb.mono h.bel.size)⟩
theorem Pw.start {w : World} {y : Nat} {s : Sl} (h : NumAt w s y) : Pw w w y 0 (fun _ => s) (.slice none 0 0) :=
  ⟨World.ownsRow_nil _ _ _ 1, fun i hi => by
    obtain rfl : i = 0 := by omega
    rw [Nat.pow_zero, Nat.mul_one]; exact h, fun i hi b off ha hv => (by cases hv), Below.refl _ _⟩
theorem NumAt.blk {w : World} {s : Sl} {n : Nat} (h : NumAt w s n) (hn : 0 < n) {b off : Nat} (ha : s.a = some ⟨b, off, none⟩) : b < w.heap.size := by
  rcases h.2.2.2 with h0 | ⟨b', off', ha', hb, _⟩
  · have := h.1
    have := digs_len_pos hn
    omega
  · rw [ha] at ha'
    simp only [Option.some.injEq, Addr.mk.injEq] at ha'
    omega
theorem Pw.push {w W w1 : World} {y k : Nat} {P : Nat → Sl} {v v1 : Value} {o : Obj} (h : Pw w W y k P v) (hy : 0 < y) (hg : (W.alloc o).grownBy w1 v.ownBlock) (hob : v1.ownBlock = v.ownBlock ∨ v1.ownBlock = some (W.alloc o).heap.size) :
    (∀ i, i ≤ k → NumAt w1 (P i) (y * 2 ^ i)) ∧ (∀ i, i ≤ k → ∀ b off, (P i).a = some ⟨b, off, none⟩ → v1.ownBlock ≠ some b) ∧ Below w.heap.size w w1 := by
  refine ⟨fun i hi => UAt.grown (h.nums i hi) ((World.grownBy_alloc W o _).trans hg) fun b off ha _ => h.sep i hi b off ha, fun i hi b off ha => ?_, Below.grown (w := W.alloc o) (h.bel.alloc h.bel.size _) hg (by simp; have := h.bel.size; omega) (fun k hk => (h.own.lt k hk).1)⟩
  have hb := (h.nums i hi).blk (Nat.mul_pos hy (Nat.two_pow_pos _)) ha
  rcases hob with e | e
  · rw [e]; exact h.sep i hi b off ha
  · rw [e]; simp; omega
theorem Pw.next {w w1 w2 : World} {y k : Nat} {P : Nat → Sl} {v1 : Value} {s : Sl} (hown : w1.ownsRow w.heap.size 60 1 v1 (k + 1) (pwL P k ++ [slV (P k)]))
    (h : (∀ i, i ≤ k → NumAt w1 (P i) (y * 2 ^ i)) ∧ (∀ i, i ≤ k → ∀ b off, (P i).a = some ⟨b, off, none⟩ → v1.ownBlock ≠ some b) ∧ Below w.heap.size w w1)
    (hb : Below w1.heap.size w1 w2) (hs : NumAt w2 s (y * 2 ^ k + y * 2 ^ k)) (hf : ∀ b off, s.a = some ⟨b, off, none⟩ → w1.heap.size ≤ b) : Pw w w2 y (k + 1) (setP P (k + 1) s) v1 := by
  obtain ⟨h1, h2, h3⟩ := h
  refine ⟨by rw [pwL_set _ _ _ (Nat.le_refl _), pwL_succ]; exact own_later' hown hb, fun i hi => ?_, fun i hi b off ha => ?_, h3.trans (hb.mono h3.size)⟩
  · by_cases e : i = k + 1
    · subst e; simp only [setP, if_pos]; rw [pow_step]; exact hs
    · simp only [setP, if_neg e]; exact (h1 i (by omega)).later hb
  · by_cases e : i = k + 1
    · subst e
      simp only [setP, if_pos] at ha
      intro hv
      have := (hown.lt b hv).2
      have := hf b off ha
      omega
    · simp only [setP, if_neg e] at ha
      exact h2 i (by omega) b off ha
theorem Pw.cell {w wr : World} {y k : Nat} {P : Nat → Sl} {v : Value} (h : Pw w wr y k P v) : ∃ va cap, v = .slice va k cap ∧ k ≤ cap ∧ cap ≤ maxLen ∧ (0 < k → ∃ g, va = some ⟨g, 0, none⟩ ∧ g < wr.heap.size ∧ ∀ i, i < k → wr.cell? ⟨g, i, none⟩ = some (slV (P i))) := by
  rcases h.own.2 with ⟨rfl, h0⟩ | ⟨g, cap, cur, rfl, hb, hh, hn, hc, hr, ht⟩
  · subst h0; exact ⟨none, 0, rfl, Nat.le_refl _, Nat.zero_le _, fun h => absurd h (Nat.lt_irrefl _)⟩
  · refine ⟨_, cap, rfl, hn, hc, fun _ => ⟨g, rfl, (Array.getElem?_eq_some_iff.1 hh).1, fun i hi => ?_⟩⟩
    have hcell := World.ownsRow.cells h.own (g := g) rfl
    have c0 := hcell i (slV (P i)) (by simp [pwL, hi])
    rw [add_none, Nat.zero_add] at c0
    exact c0
theorem one_sl (s : Sl) : ∀ u ∈ [slV s], u.oneCell' = true := by
  intro u hu; simp at hu; subst hu; rfl
theorem digs_one : digs 1 = [1] := by rw [digs_pos (by decide), digs_zero]
theorem one_num (w : World) (t : TypeId) : NumAt (w.alloc (.cells #[.int .u64 1] t)) ⟨some ⟨w.heap.size, 0, none⟩, 1, 1⟩ 1 := UAt.new w (digs 1) _ t 1 (by rw [digs_one]; rfl) (by rw [digs_one]; rfl) (by rw [digs_one]; simp)
theorem cmpN_le (a b : Nat) : (cmpN a b ≤ 0 ↔ a ≤ b) := by unfold cmpN; split <;> (try split) <;> omega
set_option maxHeartbeats 8000000 in
theorem div_calls (a : Option Addr) (n c : Nat) (a' : Option Addr) (n' c' : Nat) (x y : Nat) (w : World) (h : NumAt w ⟨a, n, c⟩ x) (h' : NumAt w ⟨a', n', c'⟩ y) (hn : n ≤ 500) (hn' : n' ≤ 500) (hy : 0 < y) :
    Calls Try.prog 83 #[.slice a n c, .slice a' n' c'] w fun e w' => ∃ s t : Sl, e = .returned (.tuple #[.slice s.a s.len s.cap, .slice t.a t.len t.cap]) ∧ NumAt w' s (x / y) ∧ NumAt w' t (x % y) ∧ Cls w w' := by
  have HN := Lib.hid h
  have HN' := Lib.hid h'
  have HL : Hid (n = (digs x).length) := Lib.hid h.1
  have HL' : Hid (n' = (digs y).length) := Lib.hid h'.1
  have HY := Lib.hid hy
  clear h h'
  obtain ⟨i0, hi, hz0, hz1, hz2⟩ := info_parts infoN
  go_enter Try.func83, Try.ntmps83
  go_wp2_with fail
  go_loopw [6, 7] (fun v p wr => ∃ (k : Nat) (P : Nat → Sl), p = .slice (P k).a (P k).len (P k).cap ∧ k ≤ 15000 ∧ Hid (k = 0 ∨ y * 2 ^ (k - 1) ≤ x) ∧ Hid (Pw w wr y k P v)) (fun v _ _ => 15001 - slLen v)
  case atStart => exact ⟨0, fun _ => ⟨a', n', c'⟩, rfl, by omega, Lib.hid (.inl rfl), Lib.hid (Pw.start HN'.out)⟩
  case round =>
    obtain ⟨k, P, rfl, hk, hlast, hP⟩ := hrel
    have hsz := hP.out.bel.size
    have C1 := Lib.hid (compare_calls (P k).a (P k).len (P k).cap a n c (y * 2 ^ k) x wr (hP.out.nums k (Nat.le_refl _)) (HN.out.later hP.out.bel))
    by_cases hgo : y * 2 ^ k ≤ x
    · have d1 : decide (cmpN (y * 2 ^ k) x ≤ 0) = true := decide_eq_true ((cmpN_le _ _).2 hgo)
      have hk2 : k < 15000 := by
        have := len_bound HY.out hgo (n := 500) (by rw [← HL.out]; exact hn)
        omega
      have hpl : (P k).len ≤ 1000 := by
        have e := (hP.out.nums k (Nat.le_refl _)).1
        have := digs_mono hgo
        rw [← HL.out] at this
        omega
      have HGO := Lib.hid hgo
      clear hgo
      generalize cmpN (y * 2 ^ k) x = cr at *
      go_wp2_with (first | (go_at_call 53; (with_reducible refine C1.out.mono ?_); rintro e _ ⟨rfl, ⟨y1, rfl⟩⟩; have ys := y1.size; have HP1 := Lib.hid (hP.out.later y1.below)) | (at_builtin; refine wpList_append_own_at _ rfl _ _ 126 rfl w.heap.size 60 i0 (.slice none 0 0) 1 24 Try.underlying126 hi hz0 hz1 hz2 rfl (by decide) _ k _ rfl (own_later' HP1.out.own (by repeat first | with_reducible exact Below.refl _ _ | with_reducible refine Below.setCell ?_ (by first | omega | (simp; done) | (simp; omega)) _ | with_reducible refine Below.alloc ?_ (by first | omega | (simp; done) | (simp; omega)) _ | with_reducible refine Below.drew ?_ | with_reducible refine Ext.on _ ?_ (by first | omega | (simp; done) | (simp; omega)))) ⟨y1.val.heap.size, 0, none⟩ 1 1 [slV (P k)] rfl rfl (cells_new' _ _ _) (one_sl _) (by unfold maxLen; omega) (by omega) (by first | (simp; done) | (simp; omega)) ?_; intro v1 w1 hown1 hg1 _ hob1; have HU := Lib.hid (HP1.out.push HY.out hg1 hob1); have HO1 := Lib.hid hown1; have s1 := HU.out.2.2.size; have C2 := Lib.hid (plus_calls (P k).a (P k).len (P k).cap (P k).a (P k).len (P k).cap _ _ w1 (HU.out.1 k (Nat.le_refl _)) (HU.out.1 k (Nat.le_refl _)) hpl hpl); clear hown1 hg1 hob1) | (go_at_call 59; (with_reducible refine C2.out.mono ?_); rintro e _ ⟨sn, rfl, hns, hfs, ⟨y2, rfl⟩⟩; have HP3 := Lib.hid (Pw.next HO1.out HU.out y2.below hns hfs); clear hns hfs))
      go_roundw
      case rel => exact ⟨k + 1, setP P (k + 1) sn, by simp [setP], by omega, Lib.hid (.inr HGO.out), HP3⟩
      case measure => have m1 := own_slLen hP.out.own; have m2 := own_slLen HO1.out; (simp [m1, m2]; omega)
    · have d1 : decide (cmpN (y * 2 ^ k) x ≤ 0) = false := decide_eq_false (fun h => hgo ((cmpN_le _ _).1 h))
      have HI0 : Hid (DivI x y k 0 x) := Lib.hid (DivI.start (by omega))
      clear hgo
      generalize cmpN (y * 2 ^ k) x = cr at *
      obtain ⟨va, cap, hv, hkc, hcm, hrest⟩ := hP.out.cell
      subst hv
      have HCL := Lib.hid hrest
      clear hrest
      unfold maxLen at hcm
      go_wp2_with (go_at_call 53; (with_reducible refine C1.out.mono ?_); rintro e _ ⟨rfl, ⟨y1, rfl⟩⟩; have ys := y1.size; have HP1 := Lib.hid (hP.out.later y1.below))
      go_loopw [0, 8, 9] (fun s0 s8 s9 wq => ∃ (j q r : Nat) (A Q : Sl), j ≤ k ∧ s9 = .int .i64 ((j : Int) - 1) ∧ s0 = .slice A.a A.len A.cap ∧ s8 = .slice Q.a Q.len Q.cap ∧ Hid (DivI x y j q r) ∧ Hid (NumAt wq A r) ∧ Hid (NumAt wq Q q) ∧ Cls y1.val wq) (fun _ _ s9 _ => (intOf s9 + 1).toNat)
      case atStart => exact ⟨k, 0, x, ⟨a, n, c⟩, Sl.z, Nat.le_refl _, rfl, rfl, rfl, HI0, Lib.hid (HN.out.later HP1.out.bel), Lib.hid (by unfold NumAt; rw [digs_zero]; exact UAt.nil), Cls.of (Below.refl _ _)⟩
      case round =>
        obtain ⟨j, q, r, A, Q, hj, rfl, rfl, rfl, hI, hA, hQ, z, rfl⟩ := hrel
        have hzs := z.size
        by_cases hj0 : 0 < j
        · obtain ⟨i, rfl⟩ : ∃ i, j = i + 1 := ⟨j - 1, by omega⟩
          obtain ⟨g, hva, hgs, hcell⟩ := HCL.out (by omega)
          subst hva
          have HPZ := Lib.hid (HP1.out.later z.below)
          have hgz : g < z.val.heap.size := by omega
          have zc : z.val.cell? ⟨g, i, none⟩ = some (.slice (P i).a (P i).len (P i).cap) := (z.below.cell (p := ⟨g, i, none⟩) (by show g < _; omega)).trans ((y1.below.cell (p := ⟨g, i, none⟩) hgs).trans (hcell i (by omega)))
          clear hcell
          have hAl : A.len ≤ 500 := by
            have := hA.out.1
            have := digs_mono hI.out.r_le
            have := HL.out
            omega
          have hQl : Q.len ≤ 1000 := by
            have := hQ.out.1
            have := digs_mono (hI.out.q_le HY.out)
            have := HL.out
            omega
          have hQ2 : Hid (∀ (s : Sl) (W : World), NumAt W s (q + q) → s.len ≤ 1000) := Lib.hid fun s W h => by
            have := h.1
            have := digs_mono (hI.out.qq_le HY.out)
            have := HL.out
            omega
          have C2 := Lib.hid (plus_calls Q.a Q.len Q.cap Q.a Q.len Q.cap _ _ z.val hQ.out hQ.out hQl hQl)
          have C3 : Hid (∀ W : World, Below z.val.heap.size z.val W → Calls Try.prog 53 #[.slice (P i).a (P i).len (P i).cap, .slice A.a A.len A.cap] W fun e w' => e = .returned (.int .i64 (cmpN (y * 2 ^ i) r)) ∧ Cls W w') := Lib.hid fun W hb => compare_calls (P i).a (P i).len (P i).cap A.a A.len A.cap _ _ W ((HPZ.out.nums i (by omega)).later hb) (hA.out.later hb)
          have C4 : Hid (y * 2 ^ i ≤ r → ∀ W : World, Below z.val.heap.size z.val W → Calls Try.prog 60 #[.slice A.a A.len A.cap, .slice (P i).a (P i).len (P i).cap] W fun e w' => ∃ s : Sl, e = .returned (.slice s.a s.len s.cap) ∧ NumAt w' s (r - y * 2 ^ i) ∧ Cls W w') := Lib.hid fun hle W hb => minus_calls A.a A.len A.cap (P i).a (P i).len (P i).cap _ _ W (hA.out.later hb) ((HPZ.out.nums i (by omega)).later hb) (by omega) hle
          have e0 : ((i + 1 : Nat) : Int) - 1 = (i : Int) := by omega
          rw [e0]
          clear e0
          have hik : i < k := by omega
          by_cases hgo : y * 2 ^ i ≤ r
          · have d2 : decide (cmpN (y * 2 ^ i) r ≤ 0) = true := decide_eq_true ((cmpN_le _ _).2 hgo)
            have C5 := Lib.hid (C4.out hgo)
            have HIN := Lib.hid (hI.out.yes hgo)
            clear hgo C4 hI
            generalize cmpN (y * 2 ^ i) r = cr2 at *
            have tok1 : True := trivial
            go_wp2_with (first | (go_at_call 59; have _t := tok1; (with_reducible refine C2.out.mono ?_); rintro e _ ⟨s2, rfl, hn2, _, ⟨y2, rfl⟩⟩; have y2s := y2.size; have hgy2 : g < y2.val.heap.size := (by omega); have HQ2 := Lib.hid hn2; have hs2 := hQ2.out _ _ hn2; clear hn2 tok1 _t) | (go_at_call 53; (with_reducible refine (C3.out _ y2.below).mono ?_); rintro e _ ⟨rfl, ⟨y3, rfl⟩⟩; have y3s := y3.size; have hgy3 : g < y3.val.heap.size := (by omega)) | (go_at_call 60; (with_reducible refine (C5.out _ (y3.on y2.below y2.size)).mono ?_); rintro e _ ⟨s4, rfl, hn4, ⟨y4, rfl⟩⟩; have y4s := y4.size; have HA4 := Lib.hid hn4; have HQ4 := Lib.hid ((HQ2.out.later y3.below).later y4.below); clear hn4) | (go_at_call 59; (with_reducible refine (plus_calls s2.a s2.len s2.cap (some ⟨y4.val.heap.size, 0, none⟩) 1 1 (q + q) 1 _ (HQ4.out.later ((Below.refl _ _).alloc (Nat.le_refl _) _)) (one_num _ _) hs2 (by decide)).mono ?_); rintro e _ ⟨s5, rfl, hn5, _, ⟨y5, rfl⟩⟩))
            go_roundw
            case rel => exact ⟨i, q + q + 1, r - y * 2 ^ i, s4, s5, by omega, rfl, rfl, rfl, HIN, Lib.hid ((HA4.out.later ((Below.refl _ _).alloc (Nat.le_refl _) _)).later (y5.below.mono (by simp))), Lib.hid hn5, Cls.of (y5.on ((y4.on (y3.on (y2.on z.below (by omega)) (by omega)) (by omega)).alloc (by omega) _) (by simp; omega))⟩
            case measure => first | (simp [intOf]; done) | (simp [intOf]; omega)
          · have d2 : decide (cmpN (y * 2 ^ i) r ≤ 0) = false := decide_eq_false (fun h => hgo ((cmpN_le _ _).1 h))
            have HIN := Lib.hid (hI.out.no (by omega))
            clear hgo C4 hI
            generalize cmpN (y * 2 ^ i) r = cr2 at *
            go_wp2_with (first | (go_at_call 59; (with_reducible refine C2.out.mono ?_); rintro e _ ⟨s2, rfl, hn2, _, ⟨y2, rfl⟩⟩; have y2s := y2.size; have hgy2 : g < y2.val.heap.size := (by omega); have HQ2 := Lib.hid hn2; clear hn2) | (go_at_call 53; (with_reducible refine (C3.out _ y2.below).mono ?_); rintro e _ ⟨rfl, ⟨y3, rfl⟩⟩; have y3s := y3.size))
            go_roundw
            case rel => exact ⟨i, q + q, r, A, s2, by omega, rfl, rfl, rfl, HIN, Lib.hid ((hA.out.later y2.below).later y3.below), Lib.hid (HQ2.out.later y3.below), Cls.of (y3.on (y2.on z.below (by omega)) (by omega))⟩
            case measure => first | (simp [intOf]; done) | (simp [intOf]; omega)
        · obtain rfl : j = 0 := by omega
          have HE := Lib.hid (hI.out.end HY.out)
          go_wp2_with fail
          go_ret2
          exact ⟨Q, A, rfl, by rw [← HE.out.1]; exact hQ.out, by rw [← HE.out.2]; exact hA.out, Cls.of (z.on (y1.on hP.out.bel (by omega)) (by omega))⟩
end Go.Proofs.Ytogjollefllajaa
