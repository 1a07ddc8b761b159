/-
  Later worlds, with the draws counted: what slices.SortFunc asks of its comparison.
-/
import Derived.Test.YtihdfomkphbdnaaLists
import Derived.Sort.Grow
import Derived.Deep.Draws
set_option linter.unusedVariables false
namespace Go.Proofs.Ytihdfomkphbdnaa
open Go Go.RowKit Go.Sort
/-- A later world in which all that lay in w is as it was, and no fewer draws were made. -/
structure ExtD (w : World) where
  val : World
  below : Below w.heap.size w val
  drawn : w.drawn ≤ val.drawn
instance (w : World) : Nonempty (ExtD w) := ⟨⟨w, Below.refl _ w, Nat.le_refl _⟩⟩
namespace ExtD
@[go_sem] theorem cell {w : World} (x : ExtD w) {b : Nat} (o : Nat) (h : b < w.heap.size) : x.val.cell? ⟨b, o, none⟩ = w.cell? ⟨b, o, none⟩ := x.below.cell (p := ⟨b, o, none⟩) h
@[go_sem] theorem frozen {w : World} (x : ExtD w) {b : Nat} (o : Nat) (h : b < w.heap.size) : x.val.frozen? ⟨b, o, none⟩ = w.frozen? ⟨b, o, none⟩ := x.below.frozen (p := ⟨b, o, none⟩) h
theorem size {w : World} (x : ExtD w) : w.heap.size ≤ x.val.heap.size := x.below.size
end ExtD
/-- w' is a later world than w. -/
def ClsD (w w' : World) : Prop := ∃ x : ExtD w, w' = x.val
namespace ClsD
theorem of {w w' : World} (h : Below w.heap.size w w') (hd : w.drawn ≤ w'.drawn) : ClsD w w' := ⟨⟨w', h, hd⟩, rfl⟩
theorem below {w w' : World} (h : ClsD w w') : Below w.heap.size w w' := by obtain ⟨x, rfl⟩ := h; exact x.below
theorem drawn {w w' : World} (h : ClsD w w') : w.drawn ≤ w'.drawn := by obtain ⟨x, rfl⟩ := h; exact x.drawn
theorem start (w : World) : ClsD w { w with drawn := w.drawn + 1 } := of (Below.refl _ w).drew (Nat.le_succ _)
theorem step {w : World} (x : ExtD w) {w' : World} (h : ClsD x.val w') : ClsD w w' := of (x.below.trans (h.below.mono x.size)) (Nat.le_trans x.drawn h.drawn)
theorem call {P : Program} {f : FuncId} {args : Array Value} {w : World} {x : ExtD w} {v : Value}
    (h : Calls P f args x.val fun e w' => e = .returned v ∧ ClsD x.val w') : Calls P f args x.val fun e w'' => e = .returned v ∧ ∃ y : ExtD w, w'' = y.val :=
  h.mono fun _ _ ⟨he, hm⟩ => ⟨he, step x hm⟩
theorem cls {w w' : World} (h : ClsD w w') : Cls w w' := Cls.of h.below
theorem grown {w w' : World} (h : ClsD w w') : ∃ q os, w' = grow (w.drewN q) os := by
  have b := h.below
  have d := h.drawn
  refine ⟨w'.drawn - w.drawn, w'.heap.extract w.heap.size w'.heap.size, ?_⟩
  have hh : w'.heap = w.heap ++ w'.heap.extract w.heap.size w'.heap.size := by
    apply Array.ext_getElem?
    intro k
    have hs := b.size
    by_cases hk : k < w.heap.size
    · rw [Array.getElem?_append_left hk, b.block k hk]
    · rw [Array.getElem?_append_right (by omega), Array.getElem?_extract]
      by_cases hk2 : k < w'.heap.size
      · rw [if_pos (by omega), show w.heap.size + (k - w.heap.size) = k by omega]
      · rw [if_neg (by omega), Array.getElem?_eq_none (by omega)]
  have hd : w'.drawn = w.drawn + (w'.drawn - w.drawn) := by omega
  obtain ⟨h1, h2, h3, _, _⟩ := b
  show w' = { heap := w.heap ++ w'.heap.extract w.heap.size w'.heap.size, tape := w.tape, drawn := w.drawn + (w'.drawn - w.drawn), os := w.os, output := w.output }
  rw [← hh, ← hd, ← h1, ← h2, ← h3]
end ClsD
/-- A region from a later world. -/
theorem wp_region_onD {P : Program} {id : Nat} {Q : Exit → Act → World → Prop} {a : Act} {w0 : World} {x : ExtD w0} {l : List Oper} (hm : P.follows .mixedOrders = true) (hB : Region.lexB .any l.toArray = true)
    (h : wpQuiet P l.toArray (fun w' => ∃ x : ExtD w0, w' = x.val) (fun a' => ∀ w', (∃ x : ExtD w0, w' = x.val) → Q .normal a' w') l a) : (Code.region id l.toArray true).wp P Q a x.val :=
  wp_region_quiet (C := fun w' => ∃ x : ExtD w0, w' = x.val) hm hB (ClsD.step x (ClsD.start x.val)) (by simpa using h)
theorem Compare_D (k n : Int) (s : ByteArray) (k' n' : Int) (s' : ByteArray) (w : World) :
    Calls Try.prog 54 #[.agg #[.int .i64 k, .int .i64 n, .string s], .agg #[.int .i64 k', .int .i64 n', .string s']] w fun e w' => e = .returned (.int .i64 (cmpV k n s k' n' s')) ∧ ClsD w w' := by
  go_enter Try.func54, Try.ntmps54
  go_wp2_with (first | (go_at_call 55; refine (cmpInt_calls _ _ _).mono ?_; rintro e _ ⟨rfl, rfl⟩) | (go_at_call 58; refine (cmpInt64_calls _ _ _).mono ?_; rintro e _ ⟨rfl, rfl⟩) | (go_at_call 59; refine (cmpStr_calls _ _ _).mono ?_; rintro e _ ⟨rfl, rfl⟩))
  all_goals
    go_ret
    refine ⟨ret_int ?_, ClsD.of (((Below.refl _ _).alloc (Nat.le_refl _) _).alloc (by simp) _) (Nat.le_refl _)⟩
    simp_all [cmpV]
set_option maxHeartbeats 2000000 in
theorem CompareRows_D (a : Option Addr) (len cap : Nat) (l : List Vl) (a' : Option Addr) (len' cap' : Nat) (l' : List Vl) (w : World) (h : Holds w a len l) (h' : Holds w a' len' l') (hm : len ≤ cap) (hm' : len' ≤ cap') (hc : cap ≤ maxLen) (hc' : cap' ≤ maxLen) :
    Calls Try.prog 49 #[.slice a len cap, .slice a' len' cap'] w fun e w' => e = .returned (.int .i64 (cmpL l l')) ∧ ClsD w w' := by
  unfold maxLen at hc hc'
  go_enter Try.func49, Try.ntmps49
  go_wp2_with fail
  go_loopw [5, 6] (fun i c wr => ∃ j : Nat, j ≤ len ∧ j ≤ len' ∧ i = .int .i64 j ∧ cmpL l l' = cmpL (l.drop j) (l'.drop j) ∧ ClsD w wr) (fun i _ _ => len - (intOf i).toNat)
  case atStart => exact ⟨0, Nat.zero_le _, Nat.zero_le _, rfl, rfl, ClsD.of (Below.refl _ _) (Nat.le_refl _)⟩
  case round =>
    obtain ⟨j, hj, hj', rfl, he, x, rfl⟩ := hrel
    obtain ⟨hl, hh⟩ := h
    obtain ⟨hl', hh'⟩ := h'
    have HL := Lib.hid hl
    have HL' := Lib.hid hl'
    have HE := Lib.hid he
    clear he hl hl'
    by_cases h1 : j < len
    · by_cases h2 : j < len'
      · obtain ⟨b, off, ea, hb, hcell⟩ := hh.resolve_left (by omega)
        obtain ⟨b', off', ea', hb', hcell'⟩ := hh'.resolve_left (by omega)
        obtain ⟨q0, q1, q2⟩ := hcell j h1
        obtain ⟨q0', q1', q2'⟩ := hcell' j h2
        subst ea ea'
        clear hcell hcell' hh hh'
        cases hz : ((cmpV (l.getD j Vl.z).k (l.getD j Vl.z).n (l.getD j Vl.z).s (l'.getD j Vl.z).k (l'.getD j Vl.z).n (l'.getD j Vl.z).s) != 0)
        · have HG : Hid (cmpL l l' = cmpL (l.drop (j + 1)) (l'.drop (j + 1))) := by
            have hz0 : cmpW (l.getD j Vl.z) (l'.getD j Vl.z) = 0 := by simpa [cmpW, bne] using hz
            exact HE.out.trans (cmpL_go (by rw [HL.out]; exact h1) (by rw [HL'.out]; exact h2) hz0)
          generalize l.getD j Vl.z = u at *
          generalize l'.getD j Vl.z = v at *
          go_wp2_with fail
          refine wp_region_onD (by kernel_rfl) (by kernel_rfl) ?_
          repeat (go_big_quiet_step ((go_at_call 54; exact ClsD.call (Compare_D _ _ _ _ _ _ _))))
          refine wpQuiet_nil ?_
          rintro _ ⟨y, rfl⟩
          go_wp2_with fail
          go_roundw
          case rel => exact ⟨j + 1, by omega, by omega, by go_num, HG.out, y, rfl⟩
          case measure => simp [intOf]; omega
        · have HG : Hid (cmpL l l' = cmpV (l.getD j Vl.z).k (l.getD j Vl.z).n (l.getD j Vl.z).s (l'.getD j Vl.z).k (l'.getD j Vl.z).n (l'.getD j Vl.z).s) := by
            have hz0 : ¬ cmpW (l.getD j Vl.z) (l'.getD j Vl.z) = 0 := by simpa [cmpW, bne] using hz
            exact HE.out.trans (cmpL_stop (by rw [HL.out]; exact h1) (by rw [HL'.out]; exact h2) hz0)
          generalize l.getD j Vl.z = u at *
          generalize l'.getD j Vl.z = v at *
          go_wp2_with fail
          refine wp_region_onD (by kernel_rfl) (by kernel_rfl) ?_
          repeat (go_big_quiet_step ((go_at_call 54; exact ClsD.call (Compare_D _ _ _ _ _ _ _))))
          refine wpQuiet_nil ?_
          rintro _ ⟨y, rfl⟩
          go_wp2_with fail
          go_ret
          exact ⟨ret_int HG.out.symm, y, rfl⟩
      · have HG : Hid (cmpL l l' = cmpI len len') := by
          have := cmpL_end (l := l) (l' := l') (j := j) (by rw [HL.out]; omega) (by rw [HL'.out]; omega) (by rw [HL'.out]; omega)
          rw [HL.out, HL'.out] at this
          exact HE.out.trans this
        clear hh hh'
        go_wp2_with (go_at_call 55; refine (cmpInt_calls _ _ _).mono ?_; rintro e _ ⟨rfl, rfl⟩)
        all_goals
          go_ret
          refine ⟨ret_int ?_, x, rfl⟩
          rw [HG.out]
          try (unfold cmpI; split <;> (try split) <;> omega)
    · have HG : Hid (cmpL l l' = cmpI len len') := by
        have := cmpL_end (l := l) (l' := l') (j := j) (by rw [HL.out]; omega) (by rw [HL'.out]; omega) (by rw [HL.out]; omega)
        rw [HL.out, HL'.out] at this
        exact HE.out.trans this
      clear hh hh'
      go_wp2_with (go_at_call 55; refine (cmpInt_calls _ _ _).mono ?_; rintro e _ ⟨rfl, rfl⟩)
      all_goals
        go_ret
        refine ⟨ret_int ?_, x, rfl⟩
        rw [HG.out]
        try (unfold cmpI; split <;> (try split) <;> omega)
end Go.Proofs.Ytihdfomkphbdnaa
