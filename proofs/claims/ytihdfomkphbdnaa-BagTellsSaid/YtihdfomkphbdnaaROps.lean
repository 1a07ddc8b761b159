/-
  Union, Except, Intersect and Distinct of the reference.
-/
import Derived.Test.YtihdfomkphbdnaaRTimes
set_option linter.unusedVariables false
namespace Go.Proofs.Ytihdfomkphbdnaa
open Go Go.RowKit
set_option maxHeartbeats 8000000 in
theorem rUnion_true (a : Option Addr) (n c : Nat) (l : List Rw) (a' : Option Addr) (n' c' : Nat) (l' : List Rw) (w : World) (h : Rws w a n l) (h' : Rws w a' n' l') (hn : n ≤ 10000) (hn' : n' ≤ 10000) (hnc : n ≤ c) (hnc' : n' ≤ c') (hc : c ≤ maxLen) (hc' : c' ≤ maxLen) :
    Calls Try.prog 19 #[.slice a n c, .slice a' n' c', .bool true] w fun e w' => Gives w w' e (repF true addF) (vss l) (vss l') := by
  have C1 := Lib.hid (groups_calls a n c l a' n' c' l' w h h' hn hn' hnc hnc' hc hc')
  have hl := h.ln
  have hl' := h'.ln
  clear h h' hc hc' hnc hnc'
  go_enter Try.func19, Try.ntmps19
  go_wp2_with (go_at_call 30; ((with_reducible refine C1.out.mono ?_); rintro e w1 ⟨v, T, w0, rfl, hx⟩; have H1 := Lib.hid hx; clear hx; obtain ⟨at', ct, ev, kt, mt, dt⟩ := H1.out.1.read; have HD := Lib.hid dt; subst ev; clear dt))
  obtain ⟨ho, hT, hTl, hpos, hb0, hb⟩ := H1.out
  have HC := Lib.hid (hT.comb (repF true addF) (by simp [repF, addF, subF, minF]))
  have HCL : Hid ((comb (repF true addF) (T.map Tr.tl)).length ≤ n + n') := Lib.hid (by have := HC.out.le (repF_le addF_le); rw [vss_len, vss_len] at this; omega)
  have HMN : Hid (∀ i, i < T.length → (T.getD i default).m ≤ 10000 ∧ (T.getD i default).n ≤ 10000) := Lib.hid fun i hi => by
    have := hT.bound i hi
    rw [vss_len, vss_len] at this
    omega
  have HPO : Hid (∀ i, i < T.length → 0 < (T.getD i default).m + (T.getD i default).n) := Lib.hid fun i hi => hpos _ (getD_mem hi)
  have HO := Lib.hid ho
  have hbt := hb.trans (hb0.mono hb.size)
  have HB := Lib.hid hbt
  have HB0 := Lib.hid hb0
  have sw := hbt.size
  have s0 := hb0.size
  unfold maxLen at mt
  clear H1 hT ho hb0 hb hbt C1 hpos
  go_loopw [8, 9] (fun s8 s9 wr => ∃ j R, j ≤ T.length ∧ s9 = .int .i64 ((j : Nat) : Int) ∧ Hid (RowsOwn wr w1.heap.size s8 R) ∧ Hid (vss R = comb (repF true addF) ((T.take j).map Tr.tl)) ∧ Hid (Below w1.heap.size w1 wr)) (fun _ s9 _ => T.length - (intOf s9).toNat)
  case atStart => exact ⟨0, [], Nat.zero_le _, rfl, Lib.hid (RowsOwn.start _ _), Lib.hid rfl, Lib.hid (Below.refl _ _)⟩
  case round =>
    obtain ⟨j, R, hj, rfl, hR, hE, hBr⟩ := hrel
    have sr := hBr.out.size
    by_cases h1 : j < T.length
    · obtain ⟨b, ea, hbb, hcell⟩ := HD.out.resolve_left (by omega)
      obtain ⟨q0, q1, q2⟩ := hcell j h1
      have r0 := (hBr.out.cell (p := ⟨b, j * 3, none⟩) hbb).trans q0
      have r1 := (hBr.out.cell (p := ⟨b, j * 3 + 1, none⟩) hbb).trans q1
      have r2 := (hBr.out.cell (p := ⟨b, j * 3 + 2, none⟩) hbb).trans q2
      have hbw : b < wr.heap.size := by omega
      have HOK : Hid (Rw.Ok w1 (T.getD j default).row) := Lib.hid ((HO.out.get j).later HB0.out)
      have hsucc := Lib.hid (comb_succ (repF true addF) T h1)
      have hmn := HMN.out j h1
      have hpo := HPO.out j h1
      have HLE : Hid (R.length + (repF true addF) (T.getD j default).m (T.getD j default).n ≤ 20000) := Lib.hid (by
        have e := Nat.le_trans (comb_take_le (repF true addF) T (j + 1)) HCL.out
        rw [hsucc.out, List.length_append, List.length_replicate, ← hE.out, vss_len] at e
        omega)
      have HRc := hR
      have HBc := hBr
      clear q0 q1 q2 hcell HD HO
      subst ea
      generalize T.getD j default = t at *
      obtain ⟨⟨ra, rl, rc, rv⟩, m, k⟩ := t
      simp only [Rw.enc] at r0 r1 r2
      simp only at hmn hpo HLE HOK hsucc
      have HF : Hid ((repF true addF) m k = (m + k)) := Lib.hid (by simp only [repF, addF, subF, minF, if_true, Bool.false_eq_true, if_false] <;> omega)
      have HLE2 : Hid (R.length + (m + k) ≤ 20000) := Lib.hid (by have e := HLE.out; rw [HF.out] at e; omega)
      go_wp2_with fail
      refine wp_region_ext (by kernel_rfl) (by kernel_rfl) ?_
      repeat (go_big_quiet_step (fail))
      refine wpQuiet_nil ?_
      rintro _ ⟨Y, rfl⟩
      have HRc := Lib.hid (HRc.out.later Y.below)
      have HBc := Lib.hid (HBc.out.trans (Y.below.mono sr))
      go_wp2_with (go_at_call 39; ((with_reducible refine (times_calls _ R ra rl rc rv _ (m + k) w1 _ HRc.out HBc.out HOK.out (by first | omega | (simp; done) | (simp; omega)) (by have := HLE2.out; omega)).mono ?_); rintro e w5 ⟨v5, R5, rfl, hx⟩; have H5 := Lib.hid hx; clear hx))
      go_roundw
      case rel => exact ⟨j + 1, R5, by omega, by go_num, Lib.hid H5.out.1, Lib.hid (by rw [H5.out.2.1, hE.out, hsucc.out, HF.out]), Lib.hid H5.out.2.2⟩
      case measure => simp [intOf]; omega
    · obtain rfl : j = T.length := by omega
      rw [List.take_length] at hE
      go_wp2_with fail
      go_ret
      refine Gives.of ⟨_, R, rfl, hR.out.mono sw, ?_, HB.out.trans (hBr.out.mono sw)⟩
      rw [hE.out]
      exact HC.out
set_option maxHeartbeats 8000000 in
theorem rUnion_false (a : Option Addr) (n c : Nat) (l : List Rw) (a' : Option Addr) (n' c' : Nat) (l' : List Rw) (w : World) (h : Rws w a n l) (h' : Rws w a' n' l') (hn : n ≤ 10000) (hn' : n' ≤ 10000) (hnc : n ≤ c) (hnc' : n' ≤ c') (hc : c ≤ maxLen) (hc' : c' ≤ maxLen) :
    Calls Try.prog 19 #[.slice a n c, .slice a' n' c', .bool false] w fun e w' => Gives w w' e (repF false addF) (vss l) (vss l') := by
  have C1 := Lib.hid (groups_calls a n c l a' n' c' l' w h h' hn hn' hnc hnc' hc hc')
  have hl := h.ln
  have hl' := h'.ln
  clear h h' hc hc' hnc hnc'
  go_enter Try.func19, Try.ntmps19
  go_wp2_with (go_at_call 30; ((with_reducible refine C1.out.mono ?_); rintro e w1 ⟨v, T, w0, rfl, hx⟩; have H1 := Lib.hid hx; clear hx; obtain ⟨at', ct, ev, kt, mt, dt⟩ := H1.out.1.read; have HD := Lib.hid dt; subst ev; clear dt))
  obtain ⟨ho, hT, hTl, hpos, hb0, hb⟩ := H1.out
  have HC := Lib.hid (hT.comb (repF false addF) (by simp [repF, addF, subF, minF]))
  have HCL : Hid ((comb (repF false addF) (T.map Tr.tl)).length ≤ n + n') := Lib.hid (by have := HC.out.le (repF_le addF_le); rw [vss_len, vss_len] at this; omega)
  have HMN : Hid (∀ i, i < T.length → (T.getD i default).m ≤ 10000 ∧ (T.getD i default).n ≤ 10000) := Lib.hid fun i hi => by
    have := hT.bound i hi
    rw [vss_len, vss_len] at this
    omega
  have HPO : Hid (∀ i, i < T.length → 0 < (T.getD i default).m + (T.getD i default).n) := Lib.hid fun i hi => hpos _ (getD_mem hi)
  have HO := Lib.hid ho
  have hbt := hb.trans (hb0.mono hb.size)
  have HB := Lib.hid hbt
  have HB0 := Lib.hid hb0
  have sw := hbt.size
  have s0 := hb0.size
  unfold maxLen at mt
  clear H1 hT ho hb0 hb hbt C1 hpos
  go_loopw [8, 9] (fun s8 s9 wr => ∃ j R, j ≤ T.length ∧ s9 = .int .i64 ((j : Nat) : Int) ∧ Hid (RowsOwn wr w1.heap.size s8 R) ∧ Hid (vss R = comb (repF false addF) ((T.take j).map Tr.tl)) ∧ Hid (Below w1.heap.size w1 wr)) (fun _ s9 _ => T.length - (intOf s9).toNat)
  case atStart => exact ⟨0, [], Nat.zero_le _, rfl, Lib.hid (RowsOwn.start _ _), Lib.hid rfl, Lib.hid (Below.refl _ _)⟩
  case round =>
    obtain ⟨j, R, hj, rfl, hR, hE, hBr⟩ := hrel
    have sr := hBr.out.size
    by_cases h1 : j < T.length
    · obtain ⟨b, ea, hbb, hcell⟩ := HD.out.resolve_left (by omega)
      obtain ⟨q0, q1, q2⟩ := hcell j h1
      have r0 := (hBr.out.cell (p := ⟨b, j * 3, none⟩) hbb).trans q0
      have r1 := (hBr.out.cell (p := ⟨b, j * 3 + 1, none⟩) hbb).trans q1
      have r2 := (hBr.out.cell (p := ⟨b, j * 3 + 2, none⟩) hbb).trans q2
      have hbw : b < wr.heap.size := by omega
      have HOK : Hid (Rw.Ok w1 (T.getD j default).row) := Lib.hid ((HO.out.get j).later HB0.out)
      have hsucc := Lib.hid (comb_succ (repF false addF) T h1)
      have hmn := HMN.out j h1
      have hpo := HPO.out j h1
      have HLE : Hid (R.length + (repF false addF) (T.getD j default).m (T.getD j default).n ≤ 20000) := Lib.hid (by
        have e := Nat.le_trans (comb_take_le (repF false addF) T (j + 1)) HCL.out
        rw [hsucc.out, List.length_append, List.length_replicate, ← hE.out, vss_len] at e
        omega)
      have HRc := hR
      have HBc := hBr
      clear q0 q1 q2 hcell HD HO
      subst ea
      generalize T.getD j default = t at *
      obtain ⟨⟨ra, rl, rc, rv⟩, m, k⟩ := t
      simp only [Rw.enc] at r0 r1 r2
      simp only at hmn hpo HLE HOK hsucc
      have HF : Hid ((repF false addF) m k = 1) := Lib.hid (by simp only [repF, addF, subF, minF, if_true, Bool.false_eq_true, if_false] <;> omega)
      have HLE2 : Hid (R.length + 1 ≤ 20000) := Lib.hid (by have e := HLE.out; rw [HF.out] at e; omega)
      go_wp2_with (go_at_call 39; ((with_reducible refine (times_calls _ R ra rl rc rv _ 1 w1 _ HRc.out HBc.out HOK.out (by first | omega | (simp; done) | (simp; omega)) (by have := HLE2.out; omega)).mono ?_); rintro e w5 ⟨v5, R5, rfl, hx⟩; have H5 := Lib.hid hx; clear hx))
      go_roundw
      case rel => exact ⟨j + 1, R5, by omega, by go_num, Lib.hid H5.out.1, Lib.hid (by rw [H5.out.2.1, hE.out, hsucc.out, HF.out]), Lib.hid H5.out.2.2⟩
      case measure => simp [intOf]; omega
    · obtain rfl : j = T.length := by omega
      rw [List.take_length] at hE
      go_wp2_with fail
      go_ret
      refine Gives.of ⟨_, R, rfl, hR.out.mono sw, ?_, HB.out.trans (hBr.out.mono sw)⟩
      rw [hE.out]
      exact HC.out
set_option maxHeartbeats 8000000 in
theorem rExcept_true (a : Option Addr) (n c : Nat) (l : List Rw) (a' : Option Addr) (n' c' : Nat) (l' : List Rw) (w : World) (h : Rws w a n l) (h' : Rws w a' n' l') (hn : n ≤ 10000) (hn' : n' ≤ 10000) (hnc : n ≤ c) (hnc' : n' ≤ c') (hc : c ≤ maxLen) (hc' : c' ≤ maxLen) :
    Calls Try.prog 21 #[.slice a n c, .slice a' n' c', .bool true] w fun e w' => Gives w w' e (repF true subF) (vss l) (vss l') := by
  have C1 := Lib.hid (groups_calls a n c l a' n' c' l' w h h' hn hn' hnc hnc' hc hc')
  have hl := h.ln
  have hl' := h'.ln
  clear h h' hc hc' hnc hnc'
  go_enter Try.func21, Try.ntmps21
  go_wp2_with (go_at_call 30; ((with_reducible refine C1.out.mono ?_); rintro e w1 ⟨v, T, w0, rfl, hx⟩; have H1 := Lib.hid hx; clear hx; obtain ⟨at', ct, ev, kt, mt, dt⟩ := H1.out.1.read; have HD := Lib.hid dt; subst ev; clear dt))
  obtain ⟨ho, hT, hTl, hpos, hb0, hb⟩ := H1.out
  have HC := Lib.hid (hT.comb (repF true subF) (by simp [repF, addF, subF, minF]))
  have HCL : Hid ((comb (repF true subF) (T.map Tr.tl)).length ≤ n + n') := Lib.hid (by have := HC.out.le (repF_le subF_le); rw [vss_len, vss_len] at this; omega)
  have HMN : Hid (∀ i, i < T.length → (T.getD i default).m ≤ 10000 ∧ (T.getD i default).n ≤ 10000) := Lib.hid fun i hi => by
    have := hT.bound i hi
    rw [vss_len, vss_len] at this
    omega
  have HPO : Hid (∀ i, i < T.length → 0 < (T.getD i default).m + (T.getD i default).n) := Lib.hid fun i hi => hpos _ (getD_mem hi)
  have HO := Lib.hid ho
  have hbt := hb.trans (hb0.mono hb.size)
  have HB := Lib.hid hbt
  have HB0 := Lib.hid hb0
  have sw := hbt.size
  have s0 := hb0.size
  unfold maxLen at mt
  clear H1 hT ho hb0 hb hbt C1 hpos
  go_loopw [8, 9] (fun s8 s9 wr => ∃ j R, j ≤ T.length ∧ s9 = .int .i64 ((j : Nat) : Int) ∧ Hid (RowsOwn wr w1.heap.size s8 R) ∧ Hid (vss R = comb (repF true subF) ((T.take j).map Tr.tl)) ∧ Hid (Below w1.heap.size w1 wr)) (fun _ s9 _ => T.length - (intOf s9).toNat)
  case atStart => exact ⟨0, [], Nat.zero_le _, rfl, Lib.hid (RowsOwn.start _ _), Lib.hid rfl, Lib.hid (Below.refl _ _)⟩
  case round =>
    obtain ⟨j, R, hj, rfl, hR, hE, hBr⟩ := hrel
    have sr := hBr.out.size
    by_cases h1 : j < T.length
    · obtain ⟨b, ea, hbb, hcell⟩ := HD.out.resolve_left (by omega)
      obtain ⟨q0, q1, q2⟩ := hcell j h1
      have r0 := (hBr.out.cell (p := ⟨b, j * 3, none⟩) hbb).trans q0
      have r1 := (hBr.out.cell (p := ⟨b, j * 3 + 1, none⟩) hbb).trans q1
      have r2 := (hBr.out.cell (p := ⟨b, j * 3 + 2, none⟩) hbb).trans q2
      have hbw : b < wr.heap.size := by omega
      have HOK : Hid (Rw.Ok w1 (T.getD j default).row) := Lib.hid ((HO.out.get j).later HB0.out)
      have hsucc := Lib.hid (comb_succ (repF true subF) T h1)
      have hmn := HMN.out j h1
      have hpo := HPO.out j h1
      have HLE : Hid (R.length + (repF true subF) (T.getD j default).m (T.getD j default).n ≤ 20000) := Lib.hid (by
        have e := Nat.le_trans (comb_take_le (repF true subF) T (j + 1)) HCL.out
        rw [hsucc.out, List.length_append, List.length_replicate, ← hE.out, vss_len] at e
        omega)
      have HRc := hR
      have HBc := hBr
      clear q0 q1 q2 hcell HD HO
      subst ea
      generalize T.getD j default = t at *
      obtain ⟨⟨ra, rl, rc, rv⟩, m, k⟩ := t
      simp only [Rw.enc] at r0 r1 r2
      simp only at hmn hpo HLE HOK hsucc
      by_cases hm0 : m = 0
      · subst hm0
        have HF : Hid ((repF true subF) 0 k = (0 - k)) := Lib.hid (by simp only [repF, addF, subF, minF, if_true, Bool.false_eq_true, if_false] <;> omega)
        have HLE2 : Hid (R.length + (0 - k) ≤ 20000) := Lib.hid (by have e := HLE.out; rw [HF.out] at e; omega)
        go_wp2_with (go_at_call 41; ((with_reducible refine (one_calls _ _).mono ?_); rintro e _ ⟨rfl, rfl⟩))
        refine wp_region_ext (by kernel_rfl) (by kernel_rfl) ?_
        repeat (go_big_quiet_step (fail))
        refine wpQuiet_nil ?_
        rintro _ ⟨Y, rfl⟩
        have HRc := Lib.hid (HRc.out.later Y.below)
        have HBc := Lib.hid (HBc.out.trans (Y.below.mono sr))
        go_wp2_with (go_at_call 39; ((with_reducible refine (times_calls _ R ra rl rc rv _ (0 - k) w1 _ HRc.out HBc.out HOK.out (by first | omega | (simp; done) | (simp; omega)) (by have := HLE2.out; omega)).mono ?_); rintro e w5 ⟨v5, R5, rfl, hx⟩; have H5 := Lib.hid hx; clear hx))
        go_roundw
        case rel => exact ⟨j + 1, R5, by omega, by go_num, Lib.hid H5.out.1, Lib.hid (by rw [H5.out.2.1, hE.out, hsucc.out, HF.out]), Lib.hid H5.out.2.2⟩
        case measure => simp [intOf]; omega
      · have hmz : (0 : Int) < (m : Int) := by omega
        by_cases hk0 : k = 0
        · subst hk0
          have HF : Hid ((repF true subF) m 0 = (m - 0)) := Lib.hid (by simp only [repF, addF, subF, minF, if_true, Bool.false_eq_true, if_false] <;> omega)
          have HLE2 : Hid (R.length + (m - 0) ≤ 20000) := Lib.hid (by have e := HLE.out; rw [HF.out] at e; omega)
          go_wp2_with (go_at_call 41; ((with_reducible refine (one_calls _ _).mono ?_); rintro e _ ⟨rfl, rfl⟩))
          refine wp_region_ext (by kernel_rfl) (by kernel_rfl) ?_
          repeat (go_big_quiet_step (fail))
          refine wpQuiet_nil ?_
          rintro _ ⟨Y, rfl⟩
          have HRc := Lib.hid (HRc.out.later Y.below)
          have HBc := Lib.hid (HBc.out.trans (Y.below.mono sr))
          go_wp2_with (go_at_call 39; ((with_reducible refine (times_calls _ R ra rl rc rv _ (m - 0) w1 _ HRc.out HBc.out HOK.out (by first | omega | (simp; done) | (simp; omega)) (by have := HLE2.out; omega)).mono ?_); rintro e w5 ⟨v5, R5, rfl, hx⟩; have H5 := Lib.hid hx; clear hx))
          go_roundw
          case rel => exact ⟨j + 1, R5, by omega, by go_num, Lib.hid H5.out.1, Lib.hid (by rw [H5.out.2.1, hE.out, hsucc.out, HF.out]), Lib.hid H5.out.2.2⟩
          case measure => simp [intOf]; omega
        · have hkb : ((k : Int) == 0) = false := by rw [beq_eq_false_iff_ne]; omega
          have HF : Hid ((repF true subF) m k = (m - k)) := Lib.hid (by simp only [repF, addF, subF, minF, if_true, Bool.false_eq_true, if_false] <;> omega)
          have HLE2 : Hid (R.length + (m - k) ≤ 20000) := Lib.hid (by have e := HLE.out; rw [HF.out] at e; omega)
          go_wp2_with (go_at_call 41; ((with_reducible refine (one_calls _ _).mono ?_); rintro e _ ⟨rfl, rfl⟩))
          refine wp_region_ext (by kernel_rfl) (by kernel_rfl) ?_
          repeat (go_big_quiet_step (fail))
          refine wpQuiet_nil ?_
          rintro _ ⟨Y, rfl⟩
          have HRc := Lib.hid (HRc.out.later Y.below)
          have HBc := Lib.hid (HBc.out.trans (Y.below.mono sr))
          go_wp2_with (go_at_call 39; ((with_reducible refine (times_calls _ R ra rl rc rv _ (m - k) w1 _ HRc.out HBc.out HOK.out (by first | omega | (simp; done) | (simp; omega)) (by have := HLE2.out; omega)).mono ?_); rintro e w5 ⟨v5, R5, rfl, hx⟩; have H5 := Lib.hid hx; clear hx))
          go_roundw
          case rel => exact ⟨j + 1, R5, by omega, by go_num, Lib.hid H5.out.1, Lib.hid (by rw [H5.out.2.1, hE.out, hsucc.out, HF.out]), Lib.hid H5.out.2.2⟩
          case measure => simp [intOf]; omega
    · obtain rfl : j = T.length := by omega
      rw [List.take_length] at hE
      go_wp2_with fail
      go_ret
      refine Gives.of ⟨_, R, rfl, hR.out.mono sw, ?_, HB.out.trans (hBr.out.mono sw)⟩
      rw [hE.out]
      exact HC.out
set_option maxHeartbeats 8000000 in
theorem rExcept_false (a : Option Addr) (n c : Nat) (l : List Rw) (a' : Option Addr) (n' c' : Nat) (l' : List Rw) (w : World) (h : Rws w a n l) (h' : Rws w a' n' l') (hn : n ≤ 10000) (hn' : n' ≤ 10000) (hnc : n ≤ c) (hnc' : n' ≤ c') (hc : c ≤ maxLen) (hc' : c' ≤ maxLen) :
    Calls Try.prog 21 #[.slice a n c, .slice a' n' c', .bool false] w fun e w' => Gives w w' e (repF false subF) (vss l) (vss l') := by
  have C1 := Lib.hid (groups_calls a n c l a' n' c' l' w h h' hn hn' hnc hnc' hc hc')
  have hl := h.ln
  have hl' := h'.ln
  clear h h' hc hc' hnc hnc'
  go_enter Try.func21, Try.ntmps21
  go_wp2_with (go_at_call 30; ((with_reducible refine C1.out.mono ?_); rintro e w1 ⟨v, T, w0, rfl, hx⟩; have H1 := Lib.hid hx; clear hx; obtain ⟨at', ct, ev, kt, mt, dt⟩ := H1.out.1.read; have HD := Lib.hid dt; subst ev; clear dt))
  obtain ⟨ho, hT, hTl, hpos, hb0, hb⟩ := H1.out
  have HC := Lib.hid (hT.comb (repF false subF) (by simp [repF, addF, subF, minF]))
  have HCL : Hid ((comb (repF false subF) (T.map Tr.tl)).length ≤ n + n') := Lib.hid (by have := HC.out.le (repF_le subF_le); rw [vss_len, vss_len] at this; omega)
  have HMN : Hid (∀ i, i < T.length → (T.getD i default).m ≤ 10000 ∧ (T.getD i default).n ≤ 10000) := Lib.hid fun i hi => by
    have := hT.bound i hi
    rw [vss_len, vss_len] at this
    omega
  have HPO : Hid (∀ i, i < T.length → 0 < (T.getD i default).m + (T.getD i default).n) := Lib.hid fun i hi => hpos _ (getD_mem hi)
  have HO := Lib.hid ho
  have hbt := hb.trans (hb0.mono hb.size)
  have HB := Lib.hid hbt
  have HB0 := Lib.hid hb0
  have sw := hbt.size
  have s0 := hb0.size
  unfold maxLen at mt
  clear H1 hT ho hb0 hb hbt C1 hpos
  go_loopw [8, 9] (fun s8 s9 wr => ∃ j R, j ≤ T.length ∧ s9 = .int .i64 ((j : Nat) : Int) ∧ Hid (RowsOwn wr w1.heap.size s8 R) ∧ Hid (vss R = comb (repF false subF) ((T.take j).map Tr.tl)) ∧ Hid (Below w1.heap.size w1 wr)) (fun _ s9 _ => T.length - (intOf s9).toNat)
  case atStart => exact ⟨0, [], Nat.zero_le _, rfl, Lib.hid (RowsOwn.start _ _), Lib.hid rfl, Lib.hid (Below.refl _ _)⟩
  case round =>
    obtain ⟨j, R, hj, rfl, hR, hE, hBr⟩ := hrel
    have sr := hBr.out.size
    by_cases h1 : j < T.length
    · obtain ⟨b, ea, hbb, hcell⟩ := HD.out.resolve_left (by omega)
      obtain ⟨q0, q1, q2⟩ := hcell j h1
      have r0 := (hBr.out.cell (p := ⟨b, j * 3, none⟩) hbb).trans q0
      have r1 := (hBr.out.cell (p := ⟨b, j * 3 + 1, none⟩) hbb).trans q1
      have r2 := (hBr.out.cell (p := ⟨b, j * 3 + 2, none⟩) hbb).trans q2
      have hbw : b < wr.heap.size := by omega
      have HOK : Hid (Rw.Ok w1 (T.getD j default).row) := Lib.hid ((HO.out.get j).later HB0.out)
      have hsucc := Lib.hid (comb_succ (repF false subF) T h1)
      have hmn := HMN.out j h1
      have hpo := HPO.out j h1
      have HLE : Hid (R.length + (repF false subF) (T.getD j default).m (T.getD j default).n ≤ 20000) := Lib.hid (by
        have e := Nat.le_trans (comb_take_le (repF false subF) T (j + 1)) HCL.out
        rw [hsucc.out, List.length_append, List.length_replicate, ← hE.out, vss_len] at e
        omega)
      have HRc := hR
      have HBc := hBr
      clear q0 q1 q2 hcell HD HO
      subst ea
      generalize T.getD j default = t at *
      obtain ⟨⟨ra, rl, rc, rv⟩, m, k⟩ := t
      simp only [Rw.enc] at r0 r1 r2
      simp only at hmn hpo HLE HOK hsucc
      by_cases hm0 : m = 0
      · subst hm0
        have HF : Hid ((repF false subF) 0 k = 0) := Lib.hid (by simp only [repF, addF, subF, minF, if_true, Bool.false_eq_true, if_false] <;> omega)
        have HLE2 : Hid (R.length + 0 ≤ 20000) := Lib.hid (by have e := HLE.out; rw [HF.out] at e; omega)
        go_wp2_with (first | (go_at_call 41; ((with_reducible refine (one_calls _ _).mono ?_); rintro e _ ⟨rfl, rfl⟩)) | (go_at_call 39; ((with_reducible refine (times_calls _ R ra rl rc rv _ 0 w1 _ HRc.out HBc.out HOK.out (by first | omega | (simp; done) | (simp; omega)) (by have := HLE2.out; omega)).mono ?_); rintro e w5 ⟨v5, R5, rfl, hx⟩; have H5 := Lib.hid hx; clear hx)))
        go_roundw
        case rel => exact ⟨j + 1, R5, by omega, by go_num, Lib.hid H5.out.1, Lib.hid (by rw [H5.out.2.1, hE.out, hsucc.out, HF.out]), Lib.hid H5.out.2.2⟩
        case measure => simp [intOf]; omega
      · have hmz : (0 : Int) < (m : Int) := by omega
        by_cases hk0 : k = 0
        · subst hk0
          have HF : Hid ((repF false subF) m 0 = 1) := Lib.hid (by simp only [repF, addF, subF, minF, if_true, Bool.false_eq_true, if_false] <;> omega)
          have HLE2 : Hid (R.length + 1 ≤ 20000) := Lib.hid (by have e := HLE.out; rw [HF.out] at e; omega)
          go_wp2_with (first | (go_at_call 41; ((with_reducible refine (one_calls _ _).mono ?_); rintro e _ ⟨rfl, rfl⟩)) | (go_at_call 39; ((with_reducible refine (times_calls _ R ra rl rc rv _ 1 w1 _ HRc.out HBc.out HOK.out (by first | omega | (simp; done) | (simp; omega)) (by have := HLE2.out; omega)).mono ?_); rintro e w5 ⟨v5, R5, rfl, hx⟩; have H5 := Lib.hid hx; clear hx)))
          go_roundw
          case rel => exact ⟨j + 1, R5, by omega, by go_num, Lib.hid H5.out.1, Lib.hid (by rw [H5.out.2.1, hE.out, hsucc.out, HF.out]), Lib.hid H5.out.2.2⟩
          case measure => simp [intOf]; omega
        · have hkb : ((k : Int) == 0) = false := by rw [beq_eq_false_iff_ne]; omega
          have HF : Hid ((repF false subF) m k = 0) := Lib.hid (by simp only [repF, addF, subF, minF, if_true, Bool.false_eq_true, if_false] <;> omega)
          have HLE2 : Hid (R.length + 0 ≤ 20000) := Lib.hid (by have e := HLE.out; rw [HF.out] at e; omega)
          go_wp2_with (first | (go_at_call 41; ((with_reducible refine (one_calls _ _).mono ?_); rintro e _ ⟨rfl, rfl⟩)) | (go_at_call 39; ((with_reducible refine (times_calls _ R ra rl rc rv _ 0 w1 _ HRc.out HBc.out HOK.out (by first | omega | (simp; done) | (simp; omega)) (by have := HLE2.out; omega)).mono ?_); rintro e w5 ⟨v5, R5, rfl, hx⟩; have H5 := Lib.hid hx; clear hx)))
          go_roundw
          case rel => exact ⟨j + 1, R5, by omega, by go_num, Lib.hid H5.out.1, Lib.hid (by rw [H5.out.2.1, hE.out, hsucc.out, HF.out]), Lib.hid H5.out.2.2⟩
          case measure => simp [intOf]; omega
    · obtain rfl : j = T.length := by omega
      rw [List.take_length] at hE
      go_wp2_with fail
      go_ret
      refine Gives.of ⟨_, R, rfl, hR.out.mono sw, ?_, HB.out.trans (hBr.out.mono sw)⟩
      rw [hE.out]
      exact HC.out
set_option maxHeartbeats 8000000 in
theorem rIntersect_true (a : Option Addr) (n c : Nat) (l : List Rw) (a' : Option Addr) (n' c' : Nat) (l' : List Rw) (w : World) (h : Rws w a n l) (h' : Rws w a' n' l') (hn : n ≤ 10000) (hn' : n' ≤ 10000) (hnc : n ≤ c) (hnc' : n' ≤ c') (hc : c ≤ maxLen) (hc' : c' ≤ maxLen) :
    Calls Try.prog 23 #[.slice a n c, .slice a' n' c', .bool true] w fun e w' => Gives w w' e (repF true minF) (vss l) (vss l') := by
  have C1 := Lib.hid (groups_calls a n c l a' n' c' l' w h h' hn hn' hnc hnc' hc hc')
  have hl := h.ln
  have hl' := h'.ln
  clear h h' hc hc' hnc hnc'
  go_enter Try.func23, Try.ntmps23
  go_wp2_with (go_at_call 30; ((with_reducible refine C1.out.mono ?_); rintro e w1 ⟨v, T, w0, rfl, hx⟩; have H1 := Lib.hid hx; clear hx; obtain ⟨at', ct, ev, kt, mt, dt⟩ := H1.out.1.read; have HD := Lib.hid dt; subst ev; clear dt))
  obtain ⟨ho, hT, hTl, hpos, hb0, hb⟩ := H1.out
  have HC := Lib.hid (hT.comb (repF true minF) (by simp [repF, addF, subF, minF]))
  have HCL : Hid ((comb (repF true minF) (T.map Tr.tl)).length ≤ n + n') := Lib.hid (by have := HC.out.le (repF_le minF_le); rw [vss_len, vss_len] at this; omega)
  have HMN : Hid (∀ i, i < T.length → (T.getD i default).m ≤ 10000 ∧ (T.getD i default).n ≤ 10000) := Lib.hid fun i hi => by
    have := hT.bound i hi
    rw [vss_len, vss_len] at this
    omega
  have HPO : Hid (∀ i, i < T.length → 0 < (T.getD i default).m + (T.getD i default).n) := Lib.hid fun i hi => hpos _ (getD_mem hi)
  have HO := Lib.hid ho
  have hbt := hb.trans (hb0.mono hb.size)
  have HB := Lib.hid hbt
  have HB0 := Lib.hid hb0
  have sw := hbt.size
  have s0 := hb0.size
  unfold maxLen at mt
  clear H1 hT ho hb0 hb hbt C1 hpos
  go_loopw [8, 9] (fun s8 s9 wr => ∃ j R, j ≤ T.length ∧ s9 = .int .i64 ((j : Nat) : Int) ∧ Hid (RowsOwn wr w1.heap.size s8 R) ∧ Hid (vss R = comb (repF true minF) ((T.take j).map Tr.tl)) ∧ Hid (Below w1.heap.size w1 wr)) (fun _ s9 _ => T.length - (intOf s9).toNat)
  case atStart => exact ⟨0, [], Nat.zero_le _, rfl, Lib.hid (RowsOwn.start _ _), Lib.hid rfl, Lib.hid (Below.refl _ _)⟩
  case round =>
    obtain ⟨j, R, hj, rfl, hR, hE, hBr⟩ := hrel
    have sr := hBr.out.size
    by_cases h1 : j < T.length
    · obtain ⟨b, ea, hbb, hcell⟩ := HD.out.resolve_left (by omega)
      obtain ⟨q0, q1, q2⟩ := hcell j h1
      have r0 := (hBr.out.cell (p := ⟨b, j * 3, none⟩) hbb).trans q0
      have r1 := (hBr.out.cell (p := ⟨b, j * 3 + 1, none⟩) hbb).trans q1
      have r2 := (hBr.out.cell (p := ⟨b, j * 3 + 2, none⟩) hbb).trans q2
      have hbw : b < wr.heap.size := by omega
      have HOK : Hid (Rw.Ok w1 (T.getD j default).row) := Lib.hid ((HO.out.get j).later HB0.out)
      have hsucc := Lib.hid (comb_succ (repF true minF) T h1)
      have hmn := HMN.out j h1
      have hpo := HPO.out j h1
      have HLE : Hid (R.length + (repF true minF) (T.getD j default).m (T.getD j default).n ≤ 20000) := Lib.hid (by
        have e := Nat.le_trans (comb_take_le (repF true minF) T (j + 1)) HCL.out
        rw [hsucc.out, List.length_append, List.length_replicate, ← hE.out, vss_len] at e
        omega)
      have HRc := hR
      have HBc := hBr
      clear q0 q1 q2 hcell HD HO
      subst ea
      generalize T.getD j default = t at *
      obtain ⟨⟨ra, rl, rc, rv⟩, m, k⟩ := t
      simp only [Rw.enc] at r0 r1 r2
      simp only at hmn hpo HLE HOK hsucc
      have HF : Hid ((repF true minF) m k = (min m k)) := Lib.hid (by simp only [repF, addF, subF, minF, if_true, Bool.false_eq_true, if_false] <;> omega)
      have HLE2 : Hid (R.length + (min m k) ≤ 20000) := Lib.hid (by have e := HLE.out; rw [HF.out] at e; omega)
      go_wp2_with fail
      refine wp_region_ext (by kernel_rfl) (by kernel_rfl) ?_
      repeat (go_big_quiet_step (fail))
      refine wpQuiet_nil ?_
      rintro _ ⟨Y, rfl⟩
      have HRc := Lib.hid (HRc.out.later Y.below)
      have HBc := Lib.hid (HBc.out.trans (Y.below.mono sr))
      go_wp2_with (go_at_call 39; ((with_reducible refine (times_calls _ R ra rl rc rv _ (min m k) w1 _ HRc.out HBc.out HOK.out (by first | omega | (simp; done) | (simp; omega)) (by have := HLE2.out; omega)).mono ?_); rintro e w5 ⟨v5, R5, rfl, hx⟩; have H5 := Lib.hid hx; clear hx))
      go_roundw
      case rel => exact ⟨j + 1, R5, by omega, by go_num, Lib.hid H5.out.1, Lib.hid (by rw [H5.out.2.1, hE.out, hsucc.out, HF.out]), Lib.hid H5.out.2.2⟩
      case measure => simp [intOf]; omega
    · obtain rfl : j = T.length := by omega
      rw [List.take_length] at hE
      go_wp2_with fail
      go_ret
      refine Gives.of ⟨_, R, rfl, hR.out.mono sw, ?_, HB.out.trans (hBr.out.mono sw)⟩
      rw [hE.out]
      exact HC.out
set_option maxHeartbeats 8000000 in
theorem rIntersect_false (a : Option Addr) (n c : Nat) (l : List Rw) (a' : Option Addr) (n' c' : Nat) (l' : List Rw) (w : World) (h : Rws w a n l) (h' : Rws w a' n' l') (hn : n ≤ 10000) (hn' : n' ≤ 10000) (hnc : n ≤ c) (hnc' : n' ≤ c') (hc : c ≤ maxLen) (hc' : c' ≤ maxLen) :
    Calls Try.prog 23 #[.slice a n c, .slice a' n' c', .bool false] w fun e w' => Gives w w' e (repF false minF) (vss l) (vss l') := by
  have C1 := Lib.hid (groups_calls a n c l a' n' c' l' w h h' hn hn' hnc hnc' hc hc')
  have hl := h.ln
  have hl' := h'.ln
  clear h h' hc hc' hnc hnc'
  go_enter Try.func23, Try.ntmps23
  go_wp2_with (go_at_call 30; ((with_reducible refine C1.out.mono ?_); rintro e w1 ⟨v, T, w0, rfl, hx⟩; have H1 := Lib.hid hx; clear hx; obtain ⟨at', ct, ev, kt, mt, dt⟩ := H1.out.1.read; have HD := Lib.hid dt; subst ev; clear dt))
  obtain ⟨ho, hT, hTl, hpos, hb0, hb⟩ := H1.out
  have HC := Lib.hid (hT.comb (repF false minF) (by simp [repF, addF, subF, minF]))
  have HCL : Hid ((comb (repF false minF) (T.map Tr.tl)).length ≤ n + n') := Lib.hid (by have := HC.out.le (repF_le minF_le); rw [vss_len, vss_len] at this; omega)
  have HMN : Hid (∀ i, i < T.length → (T.getD i default).m ≤ 10000 ∧ (T.getD i default).n ≤ 10000) := Lib.hid fun i hi => by
    have := hT.bound i hi
    rw [vss_len, vss_len] at this
    omega
  have HPO : Hid (∀ i, i < T.length → 0 < (T.getD i default).m + (T.getD i default).n) := Lib.hid fun i hi => hpos _ (getD_mem hi)
  have HO := Lib.hid ho
  have hbt := hb.trans (hb0.mono hb.size)
  have HB := Lib.hid hbt
  have HB0 := Lib.hid hb0
  have sw := hbt.size
  have s0 := hb0.size
  unfold maxLen at mt
  clear H1 hT ho hb0 hb hbt C1 hpos
  go_loopw [8, 9] (fun s8 s9 wr => ∃ j R, j ≤ T.length ∧ s9 = .int .i64 ((j : Nat) : Int) ∧ Hid (RowsOwn wr w1.heap.size s8 R) ∧ Hid (vss R = comb (repF false minF) ((T.take j).map Tr.tl)) ∧ Hid (Below w1.heap.size w1 wr)) (fun _ s9 _ => T.length - (intOf s9).toNat)
  case atStart => exact ⟨0, [], Nat.zero_le _, rfl, Lib.hid (RowsOwn.start _ _), Lib.hid rfl, Lib.hid (Below.refl _ _)⟩
  case round =>
    obtain ⟨j, R, hj, rfl, hR, hE, hBr⟩ := hrel
    have sr := hBr.out.size
    by_cases h1 : j < T.length
    · obtain ⟨b, ea, hbb, hcell⟩ := HD.out.resolve_left (by omega)
      obtain ⟨q0, q1, q2⟩ := hcell j h1
      have r0 := (hBr.out.cell (p := ⟨b, j * 3, none⟩) hbb).trans q0
      have r1 := (hBr.out.cell (p := ⟨b, j * 3 + 1, none⟩) hbb).trans q1
      have r2 := (hBr.out.cell (p := ⟨b, j * 3 + 2, none⟩) hbb).trans q2
      have hbw : b < wr.heap.size := by omega
      have HOK : Hid (Rw.Ok w1 (T.getD j default).row) := Lib.hid ((HO.out.get j).later HB0.out)
      have hsucc := Lib.hid (comb_succ (repF false minF) T h1)
      have hmn := HMN.out j h1
      have hpo := HPO.out j h1
      have HLE : Hid (R.length + (repF false minF) (T.getD j default).m (T.getD j default).n ≤ 20000) := Lib.hid (by
        have e := Nat.le_trans (comb_take_le (repF false minF) T (j + 1)) HCL.out
        rw [hsucc.out, List.length_append, List.length_replicate, ← hE.out, vss_len] at e
        omega)
      have HRc := hR
      have HBc := hBr
      clear q0 q1 q2 hcell HD HO
      subst ea
      generalize T.getD j default = t at *
      obtain ⟨⟨ra, rl, rc, rv⟩, m, k⟩ := t
      simp only [Rw.enc] at r0 r1 r2
      simp only at hmn hpo HLE HOK hsucc
      by_cases hmk0 : m = 0 ∨ k = 0
      · have hz : ¬ (0 : Int) < min (m : Int) (k : Int) := by omega
        have HF : Hid ((repF false minF) m k = 0) := Lib.hid (by simp only [repF, addF, subF, minF, if_true, Bool.false_eq_true, if_false] <;> omega)
        have HLE2 : Hid (R.length + 0 ≤ 20000) := Lib.hid (by have e := HLE.out; rw [HF.out] at e; omega)
        go_wp2_with fail
        refine wp_region_ext (by kernel_rfl) (by kernel_rfl) ?_
        repeat (go_big_quiet_step (fail))
        refine wpQuiet_nil ?_
        rintro _ ⟨Y, rfl⟩
        have HRc := Lib.hid (HRc.out.later Y.below)
        have HBc := Lib.hid (HBc.out.trans (Y.below.mono sr))
        go_wp2_with (first | (go_at_call 41; ((with_reducible refine (one_calls _ _).mono ?_); rintro e _ ⟨rfl, rfl⟩)) | (go_at_call 39; ((with_reducible refine (times_calls _ R ra rl rc rv _ 0 w1 _ HRc.out HBc.out HOK.out (by first | omega | (simp; done) | (simp; omega)) (by have := HLE2.out; omega)).mono ?_); rintro e w5 ⟨v5, R5, rfl, hx⟩; have H5 := Lib.hid hx; clear hx)))
        go_roundw
        case rel => exact ⟨j + 1, R5, by omega, by go_num, Lib.hid H5.out.1, Lib.hid (by rw [H5.out.2.1, hE.out, hsucc.out, HF.out]), Lib.hid H5.out.2.2⟩
        case measure => simp [intOf]; omega
      · have hz : (0 : Int) < min (m : Int) (k : Int) := by omega
        have HF : Hid ((repF false minF) m k = 1) := Lib.hid (by simp only [repF, addF, subF, minF, if_true, Bool.false_eq_true, if_false] <;> omega)
        have HLE2 : Hid (R.length + 1 ≤ 20000) := Lib.hid (by have e := HLE.out; rw [HF.out] at e; omega)
        go_wp2_with fail
        refine wp_region_ext (by kernel_rfl) (by kernel_rfl) ?_
        repeat (go_big_quiet_step (fail))
        refine wpQuiet_nil ?_
        rintro _ ⟨Y, rfl⟩
        have HRc := Lib.hid (HRc.out.later Y.below)
        have HBc := Lib.hid (HBc.out.trans (Y.below.mono sr))
        go_wp2_with (first | (go_at_call 41; ((with_reducible refine (one_calls _ _).mono ?_); rintro e _ ⟨rfl, rfl⟩)) | (go_at_call 39; ((with_reducible refine (times_calls _ R ra rl rc rv _ 1 w1 _ HRc.out HBc.out HOK.out (by first | omega | (simp; done) | (simp; omega)) (by have := HLE2.out; omega)).mono ?_); rintro e w5 ⟨v5, R5, rfl, hx⟩; have H5 := Lib.hid hx; clear hx)))
        go_roundw
        case rel => exact ⟨j + 1, R5, by omega, by go_num, Lib.hid H5.out.1, Lib.hid (by rw [H5.out.2.1, hE.out, hsucc.out, HF.out]), Lib.hid H5.out.2.2⟩
        case measure => simp [intOf]; omega
    · obtain rfl : j = T.length := by omega
      rw [List.take_length] at hE
      go_wp2_with fail
      go_ret
      refine Gives.of ⟨_, R, rfl, hR.out.mono sw, ?_, HB.out.trans (hBr.out.mono sw)⟩
      rw [hE.out]
      exact HC.out
theorem rDistinct_calls (a : Option Addr) (n c : Nat) (l : List Rw) (w : World) (h : Rws w a n l) (hn : n ≤ 10000) (hnc : n ≤ c) (hc : c ≤ maxLen) :
    Calls Try.prog 25 #[.slice a n c] w fun e w' => Gives w w' e (repF false addF) (vss l) [] := by
  have C2 : Hid (Calls Try.prog 19 #[.slice a n c, .slice none 0 0, .bool false] w fun e w' => Gives w w' e (repF false addF) (vss l) (vss [])) := Lib.hid (rUnion_false a n c l none 0 0 [] w h (Rws.nil w none) hn (by omega) hnc (Nat.le_refl _) hc (Nat.zero_le _))
  clear h
  go_enter Try.func25, Try.ntmps25
  go_wp2_with (go_at_call 19; ((with_reducible refine C2.out.mono ?_); rintro e w2 ⟨a1, c1, R, rfl, hy⟩; have HY := Lib.hid hy; clear hy))
  go_ret
  exact ⟨a1, c1, R, rfl, HY.out⟩
end Go.Proofs.Ytihdfomkphbdnaa
