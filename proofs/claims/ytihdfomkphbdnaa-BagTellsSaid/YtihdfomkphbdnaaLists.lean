/-
  Lists of values as slices that came in: what CompareRows gives, of the program and of the reference, for all lists.
-/
import Derived.Test.YtihdfomkphbdnaaOrder
import Derived.LoopTactic
import Derived.Lib.Hide
import Derived.BigQuiet
set_option linter.unusedVariables false
namespace Go.Proofs.Ytihdfomkphbdnaa
open Go Go.RowKit

/-- Kind, number and text of a value. -/
structure Vl where
  k : Int
  n : Int
  s : ByteArray
def Vl.z : Vl := ⟨0, 0, ⟨#[]⟩⟩
/-- The slice holds these values. -/
def Holds (w : World) (a : Option Addr) (len : Nat) (l : List Vl) : Prop :=
  l.length = len ∧ (len = 0 ∨ ∃ b off, a = some ⟨b, off, none⟩ ∧ b < w.heap.size ∧ ∀ i, i < len →
    w.cell? ⟨b, off + i * 3, none⟩ = some (.int .i64 (l.getD i Vl.z).k) ∧ w.cell? ⟨b, off + i * 3 + 1, none⟩ = some (.int .i64 (l.getD i Vl.z).n) ∧ w.cell? ⟨b, off + i * 3 + 2, none⟩ = some (.string (l.getD i Vl.z).s))
theorem Holds.later {w : World} {a : Option Addr} {len : Nat} {l : List Vl} (h : Holds w a len l) {w' : World} (hb : Below w.heap.size w w') : Holds w' a len l := by
  refine ⟨h.1, h.2.imp id ?_⟩
  rintro ⟨b, off, ha, hlt, hc⟩
  refine ⟨b, off, ha, Nat.lt_of_lt_of_le hlt hb.size, fun i hi => ?_⟩
  obtain ⟨h0, h1, h2⟩ := hc i hi
  exact ⟨by rw [hb.cell (p := ⟨b, _, none⟩) hlt]; exact h0, by rw [hb.cell (p := ⟨b, _, none⟩) hlt]; exact h1, by rw [hb.cell (p := ⟨b, _, none⟩) hlt]; exact h2⟩
def cmpW (a b : Vl) : Int := cmpV a.k a.n a.s b.k b.n b.s
def cmpL : List Vl → List Vl → Int
  | [], [] => 0
  | [], _ :: _ => -1
  | _ :: _, [] => 1
  | a :: l, b :: m => if cmpW a b = 0 then cmpL l m else cmpW a b
theorem drop_getD {l : List Vl} {j : Nat} (h : j < l.length) : l.drop j = l.getD j Vl.z :: l.drop (j + 1) := by
  rw [List.drop_eq_getElem_cons h]; simp [List.getD, h]
theorem cmpL_go {l l' : List Vl} {j : Nat} (h : j < l.length) (h' : j < l'.length) (hz : cmpW (l.getD j Vl.z) (l'.getD j Vl.z) = 0) : cmpL (l.drop j) (l'.drop j) = cmpL (l.drop (j + 1)) (l'.drop (j + 1)) := by
  rw [drop_getD h, drop_getD h', cmpL, if_pos hz]
theorem cmpL_stop {l l' : List Vl} {j : Nat} (h : j < l.length) (h' : j < l'.length) (hz : ¬ cmpW (l.getD j Vl.z) (l'.getD j Vl.z) = 0) : cmpL (l.drop j) (l'.drop j) = cmpW (l.getD j Vl.z) (l'.getD j Vl.z) := by
  rw [drop_getD h, drop_getD h', cmpL, if_neg hz]
theorem cmpL_end {l l' : List Vl} {j : Nat} (h : j ≤ l.length) (h' : j ≤ l'.length) (he : j = l.length ∨ j = l'.length) : cmpL (l.drop j) (l'.drop j) = cmpI l.length l'.length := by
  unfold cmpI
  rcases Nat.lt_or_ge j l.length with h1 | h1
  · have h2 : j = l'.length := by omega
    rw [drop_getD h1, List.drop_of_length_le (by omega : l'.length ≤ j), cmpL, if_neg (by omega), if_pos (by omega)]
  · rw [List.drop_of_length_le h1]
    rcases Nat.lt_or_ge j l'.length with h2 | h2
    · rw [drop_getD h2, cmpL, if_pos (by omega)]
    · rw [List.drop_of_length_le h2, cmpL, if_neg (by omega), if_neg (by omega)]
/-- A row comes before each longer one that begins with it. -/
theorem cmpL_append (l m : List Vl) : cmpL l (l ++ m) = if m.length = 0 then 0 else -1 := by
  induction l with
  | nil => cases m <;> simp [cmpL]
  | cons a l ih => rw [List.cons_append, cmpL, if_pos (by unfold cmpW; exact cmpV_self _ _ _), ih]
theorem cmpL_append' (l m : List Vl) : cmpL (l ++ m) l = if m.length = 0 then 0 else 1 := by
  induction l with
  | nil => cases m <;> simp [cmpL]
  | cons a l ih => rw [List.cons_append, cmpL, if_pos (by unfold cmpW; exact cmpV_self _ _ _), ih]

set_option maxHeartbeats 2000000 in
theorem CompareRows_calls (a : Option Addr) (len cap : Nat) (l : List Vl) (a' : Option Addr) (len' cap' : Nat) (l' : List Vl) (w : World) (h : Holds w a len l) (h' : Holds w a' len' l') (hm : len ≤ cap) (hm' : len' ≤ cap') (hc : cap ≤ maxLen) (hc' : cap' ≤ maxLen) :
    Calls Try.prog 49 #[.slice a len cap, .slice a' len' cap'] w fun e w' => e = .returned (.int .i64 (cmpL l l')) ∧ Cls w w' := by
  unfold maxLen at hc hc'
  go_enter Try.func49, Try.ntmps49
  go_wp2_with fail
  go_loopw [5, 6] (fun i c wr => ∃ j : Nat, j ≤ len ∧ j ≤ len' ∧ i = .int .i64 j ∧ cmpL l l' = cmpL (l.drop j) (l'.drop j) ∧ Cls w wr) (fun i _ _ => len - (intOf i).toNat)
  case atStart => exact ⟨0, Nat.zero_le _, Nat.zero_le _, rfl, rfl, Cls.of (Below.refl _ _)⟩
  case round =>
    obtain ⟨j, hj, hj', rfl, he, x, rfl⟩ := hrel
    obtain ⟨hl, hh⟩ := h
    obtain ⟨hl', hh'⟩ := h'
    have HL := Lib.hid hl
    have HL' := Lib.hid hl'
    have HE := Lib.hid he
    clear he hl hl'
    by_cases h1 : j < len
    · by_cases h2 : j < len'
      · obtain ⟨b, off, ea, hb, hcell⟩ := hh.resolve_left (by omega)
        obtain ⟨b', off', ea', hb', hcell'⟩ := hh'.resolve_left (by omega)
        obtain ⟨q0, q1, q2⟩ := hcell j h1
        obtain ⟨q0', q1', q2'⟩ := hcell' j h2
        subst ea ea'
        clear hcell hcell' hh hh'
        cases hz : ((cmpV (l.getD j Vl.z).k (l.getD j Vl.z).n (l.getD j Vl.z).s (l'.getD j Vl.z).k (l'.getD j Vl.z).n (l'.getD j Vl.z).s) != 0)
        · have HG : Hid (cmpL l l' = cmpL (l.drop (j + 1)) (l'.drop (j + 1))) := by
            have hz0 : cmpW (l.getD j Vl.z) (l'.getD j Vl.z) = 0 := by simpa [cmpW, bne] using hz
            exact HE.out.trans (cmpL_go (by rw [HL.out]; exact h1) (by rw [HL'.out]; exact h2) hz0)
          generalize l.getD j Vl.z = u at *
          generalize l'.getD j Vl.z = v at *
          go_wp2_with fail
          refine wp_region_on (by kernel_rfl) (by kernel_rfl) ?_
          repeat (go_big_quiet_step ((go_at_call 54; exact Cls.call (Compare_calls _ _ _ _ _ _ _))))
          refine wpQuiet_nil ?_
          rintro _ ⟨y, rfl⟩
          go_wp2_with fail
          go_roundw
          case rel => exact ⟨j + 1, by omega, by omega, by go_num, HG.out, y, rfl⟩
          case measure => simp [intOf]; omega
        · have HG : Hid (cmpL l l' = cmpV (l.getD j Vl.z).k (l.getD j Vl.z).n (l.getD j Vl.z).s (l'.getD j Vl.z).k (l'.getD j Vl.z).n (l'.getD j Vl.z).s) := by
            have hz0 : ¬ cmpW (l.getD j Vl.z) (l'.getD j Vl.z) = 0 := by simpa [cmpW, bne] using hz
            exact HE.out.trans (cmpL_stop (by rw [HL.out]; exact h1) (by rw [HL'.out]; exact h2) hz0)
          generalize l.getD j Vl.z = u at *
          generalize l'.getD j Vl.z = v at *
          go_wp2_with fail
          refine wp_region_on (by kernel_rfl) (by kernel_rfl) ?_
          repeat (go_big_quiet_step ((go_at_call 54; exact Cls.call (Compare_calls _ _ _ _ _ _ _))))
          refine wpQuiet_nil ?_
          rintro _ ⟨y, rfl⟩
          go_wp2_with fail
          go_ret
          exact ⟨ret_int HG.out.symm, y, rfl⟩
      · have HG : Hid (cmpL l l' = cmpI len len') := by
          have := cmpL_end (l := l) (l' := l') (j := j) (by rw [HL.out]; omega) (by rw [HL'.out]; omega) (by rw [HL'.out]; omega)
          rw [HL.out, HL'.out] at this
          exact HE.out.trans this
        clear hh hh'
        go_wp2_with (go_at_call 55; refine (cmpInt_calls _ _ _).mono ?_; rintro e _ ⟨rfl, rfl⟩)
        all_goals
          go_ret
          refine ⟨ret_int ?_, x, rfl⟩
          rw [HG.out]
          try (unfold cmpI; split <;> (try split) <;> omega)
    · have HG : Hid (cmpL l l' = cmpI len len') := by
        have := cmpL_end (l := l) (l' := l') (j := j) (by rw [HL.out]; omega) (by rw [HL'.out]; omega) (by rw [HL.out]; omega)
        rw [HL.out, HL'.out] at this
        exact HE.out.trans this
      clear hh hh'
      go_wp2_with (go_at_call 55; refine (cmpInt_calls _ _ _).mono ?_; rintro e _ ⟨rfl, rfl⟩)
      all_goals
        go_ret
        refine ⟨ret_int ?_, x, rfl⟩
        rw [HG.out]
        try (unfold cmpI; split <;> (try split) <;> omega)
set_option maxHeartbeats 2000000 in
theorem rCompareRows_calls (a : Option Addr) (len cap : Nat) (l : List Vl) (a' : Option Addr) (len' cap' : Nat) (l' : List Vl) (w : World) (h : Holds w a len l) (h' : Holds w a' len' l') (hm : len ≤ cap) (hm' : len' ≤ cap') (hc : cap ≤ maxLen) (hc' : cap' ≤ maxLen) :
    Calls Try.prog 11 #[.slice a len cap, .slice a' len' cap'] w fun e w' => e = .returned (.int .i64 (cmpL l l')) ∧ Cls w w' := by
  unfold maxLen at hc hc'
  go_enter Try.func11, Try.ntmps11
  go_wp2_with fail
  go_loopw [5, 6] (fun i c wr => ∃ j : Nat, j ≤ len ∧ j ≤ len' ∧ i = .int .i64 j ∧ cmpL l l' = cmpL (l.drop j) (l'.drop j) ∧ Cls w wr) (fun i _ _ => len - (intOf i).toNat)
  case atStart => exact ⟨0, Nat.zero_le _, Nat.zero_le _, rfl, rfl, Cls.of (Below.refl _ _)⟩
  case round =>
    obtain ⟨j, hj, hj', rfl, he, x, rfl⟩ := hrel
    obtain ⟨hl, hh⟩ := h
    obtain ⟨hl', hh'⟩ := h'
    have HL := Lib.hid hl
    have HL' := Lib.hid hl'
    have HE := Lib.hid he
    clear he hl hl'
    by_cases h1 : j < len
    · by_cases h2 : j < len'
      · obtain ⟨b, off, ea, hb, hcell⟩ := hh.resolve_left (by omega)
        obtain ⟨b', off', ea', hb', hcell'⟩ := hh'.resolve_left (by omega)
        obtain ⟨q0, q1, q2⟩ := hcell j h1
        obtain ⟨q0', q1', q2'⟩ := hcell' j h2
        subst ea ea'
        clear hcell hcell' hh hh'
        cases hz : ((cmpV (l.getD j Vl.z).k (l.getD j Vl.z).n (l.getD j Vl.z).s (l'.getD j Vl.z).k (l'.getD j Vl.z).n (l'.getD j Vl.z).s) != 0)
        · have HG : Hid (cmpL l l' = cmpL (l.drop (j + 1)) (l'.drop (j + 1))) := by
            have hz0 : cmpW (l.getD j Vl.z) (l'.getD j Vl.z) = 0 := by simpa [cmpW, bne] using hz
            exact HE.out.trans (cmpL_go (by rw [HL.out]; exact h1) (by rw [HL'.out]; exact h2) hz0)
          generalize l.getD j Vl.z = u at *
          generalize l'.getD j Vl.z = v at *
          go_wp2_with fail
          refine wp_region_on (by kernel_rfl) (by kernel_rfl) ?_
          repeat (go_big_quiet_step ((go_at_call 31; exact Cls.call (rCompare_calls _ _ _ _ _ _ _))))
          refine wpQuiet_nil ?_
          rintro _ ⟨y, rfl⟩
          go_wp2_with fail
          go_roundw
          case rel => exact ⟨j + 1, by omega, by omega, by go_num, HG.out, y, rfl⟩
          case measure => simp [intOf]; omega
        · have HG : Hid (cmpL l l' = cmpV (l.getD j Vl.z).k (l.getD j Vl.z).n (l.getD j Vl.z).s (l'.getD j Vl.z).k (l'.getD j Vl.z).n (l'.getD j Vl.z).s) := by
            have hz0 : ¬ cmpW (l.getD j Vl.z) (l'.getD j Vl.z) = 0 := by simpa [cmpW, bne] using hz
            exact HE.out.trans (cmpL_stop (by rw [HL.out]; exact h1) (by rw [HL'.out]; exact h2) hz0)
          generalize l.getD j Vl.z = u at *
          generalize l'.getD j Vl.z = v at *
          go_wp2_with fail
          refine wp_region_on (by kernel_rfl) (by kernel_rfl) ?_
          repeat (go_big_quiet_step ((go_at_call 31; exact Cls.call (rCompare_calls _ _ _ _ _ _ _))))
          refine wpQuiet_nil ?_
          rintro _ ⟨y, rfl⟩
          go_wp2_with fail
          go_ret
          exact ⟨ret_int HG.out.symm, y, rfl⟩
      · have HG : Hid (cmpL l l' = cmpI len len') := by
          have := cmpL_end (l := l) (l' := l') (j := j) (by rw [HL.out]; omega) (by rw [HL'.out]; omega) (by rw [HL'.out]; omega)
          rw [HL.out, HL'.out] at this
          exact HE.out.trans this
        clear hh hh'
        go_wp2_with fail
        all_goals
          go_ret
          refine ⟨ret_int ?_, x, rfl⟩
          rw [HG.out]
          try (unfold cmpI; split <;> (try split) <;> omega)
    · have HG : Hid (cmpL l l' = cmpI len len') := by
        have := cmpL_end (l := l) (l' := l') (j := j) (by rw [HL.out]; omega) (by rw [HL'.out]; omega) (by rw [HL.out]; omega)
        rw [HL.out, HL'.out] at this
        exact HE.out.trans this
      clear hh hh'
      go_wp2_with fail
      all_goals
        go_ret
        refine ⟨ret_int ?_, x, rfl⟩
        rw [HG.out]
        try (unfold cmpI; split <;> (try split) <;> omega)
end Go.Proofs.Ytihdfomkphbdnaa
