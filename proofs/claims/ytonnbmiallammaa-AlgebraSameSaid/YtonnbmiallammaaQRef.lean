/-
  When two queries are equal, as the reference has it: all queries.
-/
import Derived.Test.YtonnbmiallammaaQSame2
set_option linter.unusedVariables false
namespace Go.Proofs.Ytonnbmiallammaa
open Go Go.RowKit Go.Deep
theorem lenAll_iff {n n' : Nat} {p : Nat → Bool} : lenAll n n' p = true ↔ n = n' ∧ ∀ i, i < n → p i = true := by
  unfold lenAll
  by_cases h : n = n'
  · rw [if_pos h]
    exact ⟨fun h1 => ⟨h, fun i hi => allQ_at n 0 h1 i (by omega) (by omega)⟩, fun h1 => allQ_all n 0 fun i _ hi => h1.2 i (by omega)⟩
  · rw [if_neg h]
    exact ⟨fun h1 => by simp at h1, fun h1 => absurd h1.1 h⟩
def rowL (n : Nat) (f : Nat → Vl) : List Vl := (List.range n).map f
theorem rowL_len (n : Nat) (f : Nat → Vl) : (rowL n f).length = n := by simp [rowL]
theorem rowL_getD {n : Nat} (f : Nat → Vl) {j : Nat} (h : j < n) : (rowL n f).getD j Vl.z = f j := by simp [rowL, List.getD, h]
theorem Holds_of {w : World} {s : Sl} {f : Nat → Vl} (h : SlAt w 3 s fun i => (f i).cells) : Holds w s.a s.len (rowL s.len f) := by
  refine ⟨rowL_len _ _, ?_⟩
  by_cases h0 : s.len = 0
  · exact .inl h0
  · refine .inr ?_
    obtain ⟨b, off, ha, hb, _⟩ := h.2.2.2 0 (by omega)
    refine ⟨b, off, ha, hb, fun i hi => ?_⟩
    obtain ⟨b', off', ha', _, hc⟩ := h.2.2.2 i hi
    have he : b' = b ∧ off' = off := by
      have := ha'.symm.trans ha
      simp only [Option.some.injEq, Addr.mk.injEq] at this
      exact ⟨this.1, this.2.1⟩
    obtain ⟨rfl, rfl⟩ := he
    rw [rowL_getD f hi]
    have q0 := hc 0 (by omega)
    have q1 := hc 1 (by omega)
    have q2 := hc 2 (by omega)
    simp only [Vl.cells, List.getElem?_cons_zero, List.getElem?_cons_succ, Nat.add_zero] at q0 q1 q2
    exact ⟨q0, q1, q2⟩
theorem cmpW_iff {a b : Vl} : cmpW a b = 0 ↔ sameV a b = true := by
  unfold cmpW sameV
  constructor
  · intro h
    obtain ⟨h1, h2, h3⟩ := cmpV_zero h
    simp [h1, h2, h3]
  · intro h
    simp only [Bool.and_eq_true, decide_eq_true_eq] at h
    obtain ⟨⟨h1, h2⟩, h3⟩ := h
    rw [h1, h2, toList_inj h3]
    exact cmpV_self _ _ _
theorem cmpL_iff : ∀ (l m : List Vl), cmpL l m = 0 ↔ l.length = m.length ∧ ∀ i, i < l.length → sameV (l.getD i Vl.z) (m.getD i Vl.z) = true
  | [], [] => by simp [cmpL]
  | [], _ :: _ => by simp [cmpL]
  | _ :: _, [] => by simp [cmpL]
  | a :: l, b :: m => by
    rw [cmpL]
    by_cases h : cmpW a b = 0
    · rw [if_pos h, cmpL_iff l m]
      constructor
      · rintro ⟨h1, h2⟩
        refine ⟨by simp [h1], fun i hi => ?_⟩
        cases i with
        | zero => simpa using cmpW_iff.1 h
        | succ i => simpa using h2 i (by simpa using hi)
      · rintro ⟨h1, h2⟩
        refine ⟨by simpa using h1, fun i hi => ?_⟩
        simpa using h2 (i + 1) (by simpa using hi)
    · rw [if_neg h]
      constructor
      · exact fun h1 => absurd h1 h
      · rintro ⟨h1, h2⟩
        exact absurd (cmpW_iff.2 (by simpa using h2 0 (by simp))) h
theorem rows_iff (n n' : Nat) (f f' : Nat → Vl) : (cmpL (rowL n f) (rowL n' f') != 0) = !(lenAll n n' fun k => sameV (f k) (f' k)) := by
  have key : cmpL (rowL n f) (rowL n' f') = 0 ↔ lenAll n n' (fun k => sameV (f k) (f' k)) = true := by
    rw [cmpL_iff, lenAll_iff, rowL_len, rowL_len]
    constructor
    · rintro ⟨h1, h2⟩
      refine ⟨h1, fun i hi => ?_⟩
      have := h2 i hi
      rwa [rowL_getD f hi, rowL_getD f' (by omega)] at this
    · rintro ⟨h1, h2⟩
      refine ⟨h1, fun i hi => ?_⟩
      rw [rowL_getD f hi, rowL_getD f' (by omega)]
      exact h2 i hi
  cases h : lenAll n n' fun k => sameV (f k) (f' k) with
  | true => rw [key.2 h]; rfl
  | false =>
    have : ¬ cmpL (rowL n f) (rowL n' f') = 0 := fun h1 => by rw [key.1 h1] at h; cases h
    simpa using this
set_option maxHeartbeats 4000000 in
theorem rExprs_calls (l l' : List Ex) (a : Option Addr) (len cap : Nat) (a' : Option Addr) (len' cap' : Nat) (ok ok' : Nat → Prop) (w : World) (hk : Kids w ok a len cap l) (hk' : Kids w ok' a' len' cap' l') :
    Calls Try.prog 39 #[.slice a len cap, .slice a' len' cap'] w fun r w' => r = .returned (.bool (sameL l l')) ∧ Cls w w' := by
  have hlen := hk.len_eq
  have hlen' := hk'.len_eq
  have hle := hk.le
  have hmax := hk.max
  have hle' := hk'.le
  have hmax' := hk'.max
  unfold maxLen at hmax hmax'
  have HL := Lib.hid hlen
  have HL' := Lib.hid hlen'
  clear hlen hlen'
  by_cases hll : len = len'
  · have b5 : ((len : Int) != (len' : Int)) = false := by rw [hll]; simp
    have HLL := Lib.hid hll
    clear hll
    go_enter Try.func39, Try.ntmps39
    go_wp2_with fail
    go_loopw [5] (fun i wr => ∃ j : Nat, j ≤ len ∧ i = .int .i64 j ∧ sameL l l' = sameL (l.drop j) (l'.drop j) ∧ Cls w wr) (fun i _ => len - (intOf i).toNat)
    case atStart => exact ⟨0, Nat.zero_le _, rfl, rfl, Cls.of (Below.refl _ _)⟩
    case round =>
      obtain ⟨j, hj, rfl, he, x, rfl⟩ := hrel
      have HE := Lib.hid he
      clear he
      by_cases hlt : j < len
      · have hlt' : j < len' := by have := HLL.out; omega
        obtain ⟨a1, len1, cap1, ⟨b, off, rfl, hb, hok, q0, q1, q2, q3, q4, q5⟩, hfine, hk1⟩ := hk.at_ hlt
        obtain ⟨a2, len2, cap2, ⟨b', off', rfl, hb', hok', r0, r1, r2, r3, r4, r5⟩, hfine', hk2⟩ := hk'.at_ hlt'
        have C1 : Hid (∀ y : Ext w, Calls Try.prog 11 #[.agg #[.int .i64 (l.getD j Ex.z).op, .int .i64 (l.getD j Ex.z).ty, .int .i64 (l.getD j Ex.z).num, .string (l.getD j Ex.z).text, .int .i64 (l.getD j Ex.z).col, .slice a1 len1 cap1], .agg #[.int .i64 (l'.getD j Ex.z).op, .int .i64 (l'.getD j Ex.z).ty, .int .i64 (l'.getD j Ex.z).num, .string (l'.getD j Ex.z).text, .int .i64 (l'.getD j Ex.z).col, .slice a2 len2 cap2]] y.val fun r w' => r = .returned (.bool (sameE (l.getD j Ex.z) (l'.getD j Ex.z))) ∧ Cls y.val w') := Lib.hid (fun y => rSame_calls _ _ a1 len1 cap1 a2 len2 cap2 ok ok' y.val (hk1.later y.below) (hk2.later y.below))
        clear hk hk' hk1 hk2 hfine hfine'
        cases hb3 : sameE (l.getD j Ex.z) (l'.getD j Ex.z)
        all_goals
          have HB := Lib.hid hb3
          rw [hb3] at C1
          clear hb3
          go_wp2_with fail
          refine wp_region_on (by kernel_rfl) (by kernel_rfl) ?_
          repeat (go_big_quiet_step ((go_at_call 11; exact Cls.call (C1.out _))))
          refine wpQuiet_nil ?_
          rintro _ ⟨y, rfl⟩
          go_wp2_with fail
        · go_ret
          refine ⟨ret_bool (by rw [HE.out, sameL_stop (by rw [HL.out]; exact hlt) (by rw [HL'.out]; exact hlt') HB.out]), Cls.of ?_⟩
          repeat first | with_reducible exact Below.refl _ _ | with_reducible refine Below.setCell ?_ (by first | omega | (simp; done) | (simp; omega)) _ | with_reducible refine Below.alloc ?_ (by first | omega | (simp; done) | (simp; omega)) _ | with_reducible refine Below.drew ?_ | with_reducible refine Ext.on _ ?_ (by first | omega | (simp; done) | (simp; omega))
        · go_roundw
          case rel => exact ⟨j + 1, by omega, by go_num, by rw [HE.out, sameL_go (by rw [HL.out]; exact hlt) (by rw [HL'.out]; exact hlt') HB.out], y, rfl⟩
          case measure => simp [intOf]; omega
      · clear hk hk'
        go_wp2_with fail
        go_ret
        refine ⟨ret_bool (by rw [HE.out, sameL_end (by rw [HL.out]; omega) (by rw [HL'.out, ← HLL.out]; omega)]), x, rfl⟩
  · have HR : Hid (sameL l l' = false) := Lib.hid (sameL_len _ _ (by rw [HL.out, HL'.out]; exact hll))
    have b5 : ((len : Int) != (len' : Int)) = true := by simpa using fun h => hll (by omega)
    clear hll hk hk'
    go_enter Try.func39, Try.ntmps39
    go_wp2_with fail
    go_ret
    refine ⟨ret_bool HR.out.symm, Cls.of ?_⟩
    repeat first | with_reducible exact Below.refl _ _ | with_reducible refine Below.setCell ?_ (by first | omega | (simp; done) | (simp; omega)) _ | with_reducible refine Below.alloc ?_ (by first | omega | (simp; done) | (simp; omega)) _ | with_reducible refine Below.drew ?_ | with_reducible refine Ext.on _ ?_ (by first | omega | (simp; done) | (simp; omega))
end Go.Proofs.Ytonnbmiallammaa
