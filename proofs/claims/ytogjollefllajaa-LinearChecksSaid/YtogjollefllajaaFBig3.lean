/-
  The reference's fractions of any size: as fractions again.
-/
import Derived.Test.YtogjollefllajaaFBig2
set_option linter.unusedVariables false
namespace Go.Proofs.Ytogjollefllajaa
open Go Go.RowKit Go.Deep
theorem vl_drop (l : List Nat) (j : Nat) : vl (l.drop j) = l.getD j 0 + 1000000000 * vl (l.drop (j + 1)) := by
  by_cases h : j < l.length
  · rw [List.drop_eq_getElem_cons h]
    simp [vl, List.getD, h]
  · rw [List.drop_eq_nil_of_le (by omega), List.drop_eq_nil_of_le (by omega)]
    have : l.getD j 0 = 0 := by simp [List.getD, List.getElem?_eq_none (Nat.le_of_not_lt h)]
    rw [this]; simp [vl]
theorem vl_drop_le (l : List Nat) (j : Nat) : vl (l.drop j) ≤ vl l := by
  have := vl_split l j
  have h : 1 * vl (l.drop j) ≤ 1000000000 ^ (min j l.length) * vl (l.drop j) := Nat.mul_le_mul_right _ (Nat.pow_pos (by omega))
  omega
set_option maxHeartbeats 4000000 in
set_option maxRecDepth 20000 in
theorem number_no (a : Option Addr) (n c : Nat) (m : Nat) (w : World) (h : NumAt w ⟨a, n, c⟩ m) (hm : ¬ m ≤ 100000000000000000) :
    Calls Try.prog 63 #[.slice a n c] w fun e w' => e = .returned (.tuple #[.int .i64 0, .bool false]) ∧ Cls w w' := by
  have HN := Lib.hid h
  have C1 := Lib.hid (fun W => of_calls 100000000000000000 W (by omega) (by omega))
  have C2 := Lib.hid (fun (W : World) (s : Sl) (hb : Below w.heap.size w W) (hs : NumAt W s (100000000000000000 : Int).natAbs) => compare_calls a n c s.a s.len s.cap m _ W (HN.out.later hb) hs)
  have d1 : decide (0 < cmpN m (100000000000000000 : Int).natAbs) = true := by
    apply decide_eq_true
    unfold cmpN
    rw [if_neg (by omega), if_pos (by omega)]
    omega
  clear h hm HN
  generalize cmpN m (100000000000000000 : Int).natAbs = cr at *
  generalize (100000000000000000 : Int).natAbs = mx at *
  go_enter Try.func63, Try.ntmps63
  go_wp2_with (first | (go_at_call 55; (with_reducible refine (C1.out _).mono ?_); rintro e _ ⟨s1, rfl, hs1, ⟨y1, rfl⟩⟩; have H1 := Lib.hid hs1; clear hs1) | (go_at_call 53; (with_reducible refine (C2.out _ _ y1.below H1.out).mono ?_); rintro e _ ⟨rfl, ⟨y2, rfl⟩⟩))
  go_ret2
  exact ⟨rfl, Cls.of (y2.on y1.below y1.size)⟩
set_option maxHeartbeats 8000000 in
set_option maxRecDepth 20000 in
theorem number_yes (a : Option Addr) (n c : Nat) (m : Nat) (w : World) (h : NumAt w ⟨a, n, c⟩ m) (hm : m ≤ 100000000000000000) :
    Calls Try.prog 63 #[.slice a n c] w fun e w' => e = .returned (.tuple #[.int .i64 (m : Int), .bool true]) ∧ Cls w w' := by
  have HN := Lib.hid h
  have hle : n ≤ c := h.2.1
  have hmax : c ≤ maxLen := h.2.2.1
  unfold maxLen at hmax
  have HL : Hid (n = (digs m).length) := Lib.hid h.1
  have H := Lib.hid h.2.2.2
  have C1 := Lib.hid (fun W => of_calls 100000000000000000 W (by omega) (by omega))
  have C2 := Lib.hid (fun (W : World) (s : Sl) (hb : Below w.heap.size w W) (hs : NumAt W s (100000000000000000 : Int).natAbs) => compare_calls a n c s.a s.len s.cap m _ W (HN.out.later hb) hs)
  have d1 : decide (0 < cmpN m (100000000000000000 : Int).natAbs) = false := by
    apply decide_eq_false
    unfold cmpN
    split <;> (try split) <;> omega
  have HM := Lib.hid hm
  clear h hm HN
  generalize cmpN m (100000000000000000 : Int).natAbs = cr at *
  generalize (100000000000000000 : Int).natAbs = mx at *
  go_enter Try.func63, Try.ntmps63
  go_wp2_with (first | (go_at_call 55; (with_reducible refine (C1.out _).mono ?_); rintro e _ ⟨s1, rfl, hs1, ⟨y1, rfl⟩⟩; have H1 := Lib.hid hs1; clear hs1) | (go_at_call 53; (with_reducible refine (C2.out _ _ y1.below H1.out).mono ?_); rintro e _ ⟨rfl, ⟨y2, rfl⟩⟩))
  have HBW : Hid (Below w.heap.size w y2.val) := Lib.hid (y2.on y1.below y1.size)
  clear C1 C2 H1 d1
  generalize y2.val = Y at *
  go_loopw [4, 5] (fun s4 i wr => ∃ k : Nat, k ≤ n ∧ i = .int .i64 ((k : Int) - 1) ∧ s4 = .int .i64 (vl ((digs m).drop k) : Nat) ∧ wr = Y) (fun _ i _ => (intOf i + 1).toNat)
  case atStart => exact ⟨n, Nat.le_refl _, rfl, by rw [List.drop_eq_nil_of_le (by rw [← HL.out]; exact Nat.le_refl _)]; rfl, by trivial⟩
  case round =>
    obtain ⟨k, hk, rfl, rfl, hwr⟩ := hrel
    subst hwr
    by_cases h0 : 0 < k
    · obtain ⟨j, rfl⟩ : ∃ j, k = j + 1 := ⟨k - 1, by omega⟩
      obtain ⟨b, off, ea, hb, hcell⟩ := H.out.resolve_left (by show ¬ n = 0; omega)
      have ea1 : a = some ⟨b, off, none⟩ := ea
      subst ea1
      clear ea
      have q := (HBW.out.cell (p := ⟨b, off + j, none⟩) hb).trans (hcell j (by show j < n; omega))
      have hb2 := Nat.lt_of_lt_of_le hb HBW.out.size
      have hv := vl_drop (digs m) j
      have hv2 := vl_drop_le (digs m) j
      have hv3 := vl_drop_le (digs m) (j + 1)
      have hdj := (dg_digs m).getD j
      rw [vl_digs] at hv2 hv3
      have hmm := HM.out
      have HV := Lib.hid hv
      rw [hv] at hv2
      clear hcell hv
      generalize (digs m).getD j 0 = d at *
      generalize vl ((digs m).drop (j + 1)) = u at *
      have e0 : ((j + 1 : Nat) : Int) - 1 = (j : Int) := by omega
      rw [e0]
      clear e0
      go_wp2_with fail
      go_roundw
      case rel => exact ⟨j, by omega, rfl, by rw [HV.out]; congr 1; omega, by trivial⟩
      case measure => first | (simp [intOf]; done) | (simp [intOf]; omega)
    · obtain rfl : k = 0 := by omega
      go_wp2_with fail
      go_ret2
      exact ⟨by rw [List.drop_zero, vl_digs]; rfl, Cls.of HBW.out⟩
def nmI (m : Nat) : Int := if m ≤ 100000000000000000 then (m : Int) else 0
theorem number_calls (a : Option Addr) (n c : Nat) (m : Nat) (w : World) (h : NumAt w ⟨a, n, c⟩ m) :
    Calls Try.prog 63 #[.slice a n c] w fun e w' => e = .returned (.tuple #[.int .i64 (nmI m), .bool (decide (m ≤ 100000000000000000))]) ∧ Cls w w' := by
  by_cases hm : m ≤ 100000000000000000
  · have e : nmI m = m := if_pos hm
    rw [e, decide_eq_true hm]; exact number_yes a n c m w h hm
  · have e : nmI m = 0 := if_neg hm
    rw [e, decide_eq_false hm]; exact number_no a n c m w h hm
set_option maxHeartbeats 8000000 in
set_option maxRecDepth 20000 in
theorem Fit_calls (N : Int) (D : Nat) (a : Option Addr) (n c : Nat) (a' : Option Addr) (n' c' : Nat) (w : World) (h : NumAt w ⟨a, n, c⟩ (frI N D).natAbs) (h' : NumAt w ⟨a', n', c'⟩ (frd N D)) :
    Calls Try.prog 38 #[.agg #[.bool (decide (frI N D < 0)), .slice a n c, .slice a' n' c']] w fun e w' => e = .returned (frV N D) ∧ Cls w w' := by
  have HN := Lib.hid h
  have HD := Lib.hid h'
  have C1 := Lib.hid (fun (W : World) (hb : Below w.heap.size w W) => number_calls a n c _ W (HN.out.later hb))
  have C2 := Lib.hid (fun (W : World) (hb : Below w.heap.size w W) => number_calls a' n' c' _ W (HD.out.later hb))
  have FV : Hid ((frI N D).natAbs ≤ 100000000000000000 → frd N D ≤ 100000000000000000 → frV N D = .tuple #[.agg #[.int .i64 (frI N D), .int .i64 ((frd N D : Nat) : Int)], .int .i64 0]) := Lib.hid frV_ok
  have FN2 : Hid (¬ ((frI N D).natAbs ≤ 100000000000000000 ∧ frd N D ≤ 100000000000000000) → frV N D = .tuple #[.agg #[.int .i64 0, .int .i64 0], .int .i64 8]) := Lib.hid frV_no
  clear h h' HN HD
  generalize frV N D = V at *
  generalize frI N D = v at *
  generalize frd N D = d at *
  by_cases h1 : v.natAbs ≤ 100000000000000000
  · by_cases h2 : d ≤ 100000000000000000
    · rw [FV.out h1 h2]
      have e1 : nmI v.natAbs = (v.natAbs : Int) := if_pos h1
      have e2 : nmI d = (d : Int) := if_pos h2
      rw [e1, decide_eq_true h1] at C1
      rw [e2, decide_eq_true h2] at C2
      clear FV FN2 e1 e2
      by_cases hv : v < 0
      · have e3 : (v.natAbs : Int) = -v := by omega
        have e4 : decide (v < 0) = true := decide_eq_true hv
        rw [e3] at C1
        rw [e4]
        clear e3
        go_enter Try.func38, Try.ntmps38
        go_wp2_with (first | (go_at_call 63; have B0 : Below w.heap.size w _ := ((Below.refl w.heap.size w).alloc (Nat.le_refl _) (.cells #[.bool true, .slice a n c, .slice a' n' c'] 62)).alloc (by simp) (.cells #[.int .i64 0, .int .i64 0] 38); (with_reducible refine (C1.out _ B0).mono ?_); rintro e _ ⟨rfl, ⟨y1, rfl⟩⟩; have y1s := y1.size; (try simp at y1s); have B1 := Lib.hid (y1.on B0 (by simp; omega)); clear B0; have k1 : w.heap.size < y1.val.heap.size := (by omega); have HT1 := Lib.hid ((y1.below.block (w.heap.size + 1) (by simp)).trans (new_at1 w _ _ _ 0))) | (go_at_call 63; (with_reducible refine (C2.out _ B1.out).mono ?_); rintro e _ ⟨rfl, ⟨y2, rfl⟩⟩; have y2s := y2.size; have B2 := Lib.hid (y2.on B1.out (by omega)); have k2 : w.heap.size < y2.val.heap.size := (by omega); have HT2 := Lib.hid ((y2.below.block (w.heap.size + 1) (by omega)).trans HT1.out); obtain ⟨c0, c1, c2, c3, c4⟩ := two_z HT2.out))
        refine ret_ex rfl ?_
        simp [results, Try.results38, go_sem, c3, c4]
        exact Cls.of (((B2.out.setCell (Nat.le_succ _) _).setCell (Nat.le_succ _) _))
      · have e3 : (v.natAbs : Int) = v := by omega
        have e4 : decide (v < 0) = false := decide_eq_false hv
        rw [e3] at C1
        rw [e4]
        clear e3
        go_enter Try.func38, Try.ntmps38
        go_wp2_with (first | (go_at_call 63; have B0 : Below w.heap.size w _ := ((Below.refl w.heap.size w).alloc (Nat.le_refl _) (.cells #[.bool false, .slice a n c, .slice a' n' c'] 62)).alloc (by simp) (.cells #[.int .i64 0, .int .i64 0] 38); (with_reducible refine (C1.out _ B0).mono ?_); rintro e _ ⟨rfl, ⟨y1, rfl⟩⟩; have y1s := y1.size; (try simp at y1s); have B1 := Lib.hid (y1.on B0 (by simp; omega)); clear B0; have k1 : w.heap.size < y1.val.heap.size := (by omega); have HT1 := Lib.hid ((y1.below.block (w.heap.size + 1) (by simp)).trans (new_at1 w _ _ _ 0))) | (go_at_call 63; (with_reducible refine (C2.out _ B1.out).mono ?_); rintro e _ ⟨rfl, ⟨y2, rfl⟩⟩; have y2s := y2.size; have B2 := Lib.hid (y2.on B1.out (by omega)); have k2 : w.heap.size < y2.val.heap.size := (by omega); have HT2 := Lib.hid ((y2.below.block (w.heap.size + 1) (by omega)).trans HT1.out); obtain ⟨c0, c1, c2, c3, c4⟩ := two_z HT2.out))
        refine ret_ex rfl ?_
        simp [results, Try.results38, go_sem, c3, c4]
        exact Cls.of (((B2.out.setCell (Nat.le_succ _) _).setCell (Nat.le_succ _) _))
    · rw [FN2.out (fun h => h2 h.2)]
      rw [decide_eq_true h1] at C1
      rw [decide_eq_false h2] at C2
      clear FV FN2 h1 h2
      generalize nmI v.natAbs = i1 at *
      generalize nmI d = i2 at *
      generalize decide (v < 0) = bn at *
      go_enter Try.func38, Try.ntmps38
      go_wp2_with (first | (go_at_call 63; have B0 : Below w.heap.size w _ := ((Below.refl w.heap.size w).alloc (Nat.le_refl _) (.cells #[.bool bn, .slice a n c, .slice a' n' c'] 62)).alloc (by simp) (.cells #[.int .i64 0, .int .i64 0] 38); (with_reducible refine (C1.out _ B0).mono ?_); rintro e _ ⟨rfl, ⟨y1, rfl⟩⟩; have y1s := y1.size; (try simp at y1s); have B1 := Lib.hid (y1.on B0 (by simp; omega)); clear B0; have k1 : w.heap.size < y1.val.heap.size := (by omega); have HT1 := Lib.hid ((y1.below.block (w.heap.size + 1) (by simp)).trans (new_at1 w _ _ _ 0))) | (go_at_call 63; (with_reducible refine (C2.out _ B1.out).mono ?_); rintro e _ ⟨rfl, ⟨y2, rfl⟩⟩; have y2s := y2.size; have B2 := Lib.hid (y2.on B1.out (by omega)); have k2 : w.heap.size < y2.val.heap.size := (by omega); have HT2 := Lib.hid ((y2.below.block (w.heap.size + 1) (by omega)).trans HT1.out); obtain ⟨c0, c1, c2, c3, c4⟩ := two_z HT2.out))
      refine ret_ex rfl ?_
      simp [results, Try.results38, go_sem, c3, c4]
      exact Cls.of (((B2.out.setCell (Nat.le_succ _) _).setCell (Nat.le_succ _) _))
  · rw [FN2.out (fun h => h1 h.1)]
    rw [decide_eq_false h1] at C1
    generalize decide (d ≤ 100000000000000000) = bd at *
    clear FV FN2 h1
    generalize nmI v.natAbs = i1 at *
    generalize nmI d = i2 at *
    generalize decide (v < 0) = bn at *
    go_enter Try.func38, Try.ntmps38
    go_wp2_with (first | (go_at_call 63; have B0 : Below w.heap.size w _ := ((Below.refl w.heap.size w).alloc (Nat.le_refl _) (.cells #[.bool bn, .slice a n c, .slice a' n' c'] 62)).alloc (by simp) (.cells #[.int .i64 0, .int .i64 0] 38); (with_reducible refine (C1.out _ B0).mono ?_); rintro e _ ⟨rfl, ⟨y1, rfl⟩⟩; have y1s := y1.size; (try simp at y1s); have B1 := Lib.hid (y1.on B0 (by simp; omega)); clear B0; have k1 : w.heap.size < y1.val.heap.size := (by omega); have HT1 := Lib.hid ((y1.below.block (w.heap.size + 1) (by simp)).trans (new_at1 w _ _ _ 0))) | (go_at_call 63; (with_reducible refine (C2.out _ B1.out).mono ?_); rintro e _ ⟨rfl, ⟨y2, rfl⟩⟩; have y2s := y2.size; have B2 := Lib.hid (y2.on B1.out (by omega)); have k2 : w.heap.size < y2.val.heap.size := (by omega); have HT2 := Lib.hid ((y2.below.block (w.heap.size + 1) (by omega)).trans HT1.out); obtain ⟨c0, c1, c2, c3, c4⟩ := two_z HT2.out))
    refine ret_ex rfl ?_
    simp [results, Try.results38, go_sem, c3, c4]
    exact Cls.of (((B2.out.setCell (Nat.le_succ _) _).setCell (Nat.le_succ _) _))
end Go.Proofs.Ytogjollefllajaa
