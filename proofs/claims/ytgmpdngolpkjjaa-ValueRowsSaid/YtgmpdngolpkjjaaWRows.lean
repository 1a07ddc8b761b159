/-
  The walk of the law ValueRows: it returns true for every two lists of values.
-/
import Derived.Test.YtgmpdngolpkjjaaOpen
import Derived.OwnWalk
import Derived.Laws.AppendOwnNone
set_option linter.unusedVariables false
namespace Go.Proofs.Ytgmpdngolpkjjaa
open Go Go.RowKit

theorem infoV : (Try.prog.info? 23).map (fun i => (i.zero, i.size, i.bytes)) = some (some (.agg #[.int .i64 0, .int .i64 0, .string ⟨#[]⟩]), 3, 32) := by kernel_rfl
theorem below_grown {B : Nat} {w w' : World} (h : w.grownBy w' none) (hB : B ≤ w.heap.size) : Below B w w' := (Below.refl B w).grown h hB (fun k h => by cases h)
set_option maxHeartbeats 4000000 in
set_option maxRecDepth 100000 in
theorem rows_none_none (w : World) :
    Calls Try.prog 4 #[.slice none 0 0, .slice none 0 0] w fun e w' => e = .returned (.bool true) ∧ Below w.heap.size w w' := by
  obtain ⟨i0, hi, hz0, hz1, hz2⟩ := info_parts infoV
  have HA : Holds w none 0 [] := (⟨rfl, .inl rfl⟩ : Holds w none 0 [])
  have HB : Holds w none 0 [] := (⟨rfl, .inl rfl⟩ : Holds w none 0 [])
  have GA := Lib.hid HA
  have GB := Lib.hid HB
  clear HA HB
  have tok1 : True := trivial
  have tok2 : True := trivial
  go_enter Try.func4, Try.ntmps4
  go_wp2_with fail
  have HV : Hid (Holds w none 0 []) := Lib.hid ⟨rfl, .inl rfl⟩
  have C1 : Hid (∀ W', Below w.heap.size w W' → Calls Try.prog 16 #[.slice none 0 0, .slice none 0 0] W' fun e w' => e = .returned (.int .i64 (0)) ∧ Cls W' w') := Lib.hid (fun W' hW' => by
    have := CompareRows_calls _ _ _ [] _ _ _ [] W' (GA.out.later ((Below.refl w.heap.size w).trans (hW'.mono (Below.refl w.heap.size w).size))) (GB.out.later ((Below.refl w.heap.size w).trans (hW'.mono (Below.refl w.heap.size w).size))) (Nat.le_refl _) (Nat.le_refl _) (Nat.zero_le _) (Nat.zero_le _)
    rw [show cmpL [] [] = 0 from rfl] at this
    exact this)
  have C4 : Hid (∀ W', Below w.heap.size w W' → Calls Try.prog 17 #[.slice none 0 0, .slice none 0 0] W' fun e w' => e = .returned (.int .i64 (0)) ∧ Cls W' w') := Lib.hid (fun W' hW' => by
    have := rCompareRows_calls _ _ _ [] _ _ _ [] W' (GA.out.later ((Below.refl w.heap.size w).trans (hW'.mono (Below.refl w.heap.size w).size))) (GB.out.later ((Below.refl w.heap.size w).trans (hW'.mono (Below.refl w.heap.size w).size))) (Nat.le_refl _) (Nat.le_refl _) (Nat.zero_le _) (Nat.zero_le _)
    rw [show cmpL [] [] = 0 from rfl] at this
    exact this)
  have C2 : Hid (∀ W', Below w.heap.size w W' → Calls Try.prog 16 #[.slice none 0 0, .slice none 0 0] W' fun e w' => e = .returned (.int .i64 (0)) ∧ Cls W' w') := Lib.hid (fun W' hW' => by
    have := CompareRows_calls _ _ _ [] _ _ _ [] W' (GA.out.later ((Below.refl w.heap.size w).trans (hW'.mono (Below.refl w.heap.size w).size))) (HV.out.later hW') (Nat.le_refl _) (Nat.le_refl _) (Nat.zero_le _) (Nat.zero_le _)
    have e := cmpL_append [] []
    try simp only [List.append_nil, List.nil_append] at e
    rw [e] at this
    rw [if_pos (show ([] : List Vl).length = 0 from rfl)] at this
    exact this)
  have C3 : Hid (∀ W', Below w.heap.size w W' → Calls Try.prog 16 #[.slice none 0 0, .slice none 0 0] W' fun e w' => e = .returned (.int .i64 (0)) ∧ Cls W' w') := Lib.hid (fun W' hW' => by
    have := CompareRows_calls _ _ _ [] _ _ _ [] W' (HV.out.later hW') (GA.out.later ((Below.refl w.heap.size w).trans (hW'.mono (Below.refl w.heap.size w).size))) (Nat.le_refl _) (Nat.le_refl _) (Nat.zero_le _) (Nat.zero_le _)
    have e := cmpL_append' [] []
    try simp only [List.append_nil, List.nil_append] at e
    rw [e] at this
    rw [if_pos (show ([] : List Vl).length = 0 from rfl)] at this
    exact this)
  clear GA GB HV
  go_wp2_with (first | (go_at_call 16; ((with_reducible refine (Cls.call (C1.out _ (Ext.below _))).mono ?_); rintro e _ ⟨rfl, y, rfl⟩)) | (go_at_call 16; ((with_reducible refine (C1.out _ (Below.refl _ _)).mono ?_); rintro e _ ⟨rfl, y, rfl⟩)) | (go_at_call 16; ((with_reducible refine (Cls.call (C2.out _ (Ext.below _))).mono ?_); rintro e _ ⟨rfl, y, rfl⟩)) | (go_at_call 16; ((with_reducible refine (C2.out _ (Below.refl _ _)).mono ?_); rintro e _ ⟨rfl, y, rfl⟩)) | (go_at_call 16; ((with_reducible refine (Cls.call (C3.out _ (Ext.below _))).mono ?_); rintro e _ ⟨rfl, y, rfl⟩)) | (go_at_call 16; ((with_reducible refine (C3.out _ (Below.refl _ _)).mono ?_); rintro e _ ⟨rfl, y, rfl⟩)) | (go_at_call 17; ((with_reducible refine (Cls.call (C4.out _ (Ext.below _))).mono ?_); rintro e _ ⟨rfl, y, rfl⟩)) | (go_at_call 17; ((with_reducible refine (C4.out _ (Below.refl _ _)).mono ?_); rintro e _ ⟨rfl, y, rfl⟩)))
  go_ret
  refine ⟨ret_bool ?_, ?_⟩
  · rfl
  · have hsz := (Below.refl w.heap.size w).size
    repeat first | with_reducible exact Below.refl _ _ | with_reducible assumption | with_reducible refine Below.setCell ?_ (by first | omega | (simp; done) | (simp; omega)) _ | with_reducible refine Below.alloc ?_ (by first | omega | (simp; done) | (simp; omega)) _ | with_reducible refine Below.drew ?_ | with_reducible refine Ext.on _ ?_ (by first | omega | (simp; done) | (simp; omega))
set_option maxHeartbeats 4000000 in
set_option maxRecDepth 100000 in
theorem rows_none_zero (x' : Addr) (cap' : Nat) (w : World) (hc' : cap' ≤ maxLen) :
    Calls Try.prog 4 #[.slice none 0 0, .slice (some x') 0 cap'] w fun e w' => e = .returned (.bool true) ∧ Below w.heap.size w w' := by
  obtain ⟨i0, hi, hz0, hz1, hz2⟩ := info_parts infoV
  have HA : Holds w none 0 [] := (⟨rfl, .inl rfl⟩ : Holds w none 0 [])
  have HB : Holds w (some x') 0 [] := (⟨rfl, .inl rfl⟩ : Holds w (some x') 0 [])
  have HC' := Lib.hid hc'
  unfold maxLen at hc'
  have GA := Lib.hid HA
  have GB := Lib.hid HB
  clear HA HB
  have tok1 : True := trivial
  have tok2 : True := trivial
  go_enter Try.func4, Try.ntmps4
  go_wp2_with fail
  have HV : Hid (Holds w none 0 []) := Lib.hid ⟨rfl, .inl rfl⟩
  have C1 : Hid (∀ W', Below w.heap.size w W' → Calls Try.prog 16 #[.slice none 0 0, .slice (some x') 0 cap'] W' fun e w' => e = .returned (.int .i64 (0)) ∧ Cls W' w') := Lib.hid (fun W' hW' => by
    have := CompareRows_calls _ _ _ [] _ _ _ [] W' (GA.out.later ((Below.refl w.heap.size w).trans (hW'.mono (Below.refl w.heap.size w).size))) (GB.out.later ((Below.refl w.heap.size w).trans (hW'.mono (Below.refl w.heap.size w).size))) (Nat.le_refl _) (Nat.zero_le _) (Nat.zero_le _) HC'.out
    rw [show cmpL [] [] = 0 from rfl] at this
    exact this)
  have C4 : Hid (∀ W', Below w.heap.size w W' → Calls Try.prog 17 #[.slice none 0 0, .slice (some x') 0 cap'] W' fun e w' => e = .returned (.int .i64 (0)) ∧ Cls W' w') := Lib.hid (fun W' hW' => by
    have := rCompareRows_calls _ _ _ [] _ _ _ [] W' (GA.out.later ((Below.refl w.heap.size w).trans (hW'.mono (Below.refl w.heap.size w).size))) (GB.out.later ((Below.refl w.heap.size w).trans (hW'.mono (Below.refl w.heap.size w).size))) (Nat.le_refl _) (Nat.zero_le _) (Nat.zero_le _) HC'.out
    rw [show cmpL [] [] = 0 from rfl] at this
    exact this)
  have C2 : Hid (∀ W', Below w.heap.size w W' → Calls Try.prog 16 #[.slice none 0 0, .slice none 0 0] W' fun e w' => e = .returned (.int .i64 (0)) ∧ Cls W' w') := Lib.hid (fun W' hW' => by
    have := CompareRows_calls _ _ _ [] _ _ _ [] W' (GA.out.later ((Below.refl w.heap.size w).trans (hW'.mono (Below.refl w.heap.size w).size))) (HV.out.later hW') (Nat.le_refl _) (Nat.le_refl _) (Nat.zero_le _) (Nat.zero_le _)
    have e := cmpL_append [] []
    try simp only [List.append_nil, List.nil_append] at e
    rw [e] at this
    rw [if_pos (show ([] : List Vl).length = 0 from rfl)] at this
    exact this)
  have C3 : Hid (∀ W', Below w.heap.size w W' → Calls Try.prog 16 #[.slice none 0 0, .slice none 0 0] W' fun e w' => e = .returned (.int .i64 (0)) ∧ Cls W' w') := Lib.hid (fun W' hW' => by
    have := CompareRows_calls _ _ _ [] _ _ _ [] W' (HV.out.later hW') (GA.out.later ((Below.refl w.heap.size w).trans (hW'.mono (Below.refl w.heap.size w).size))) (Nat.le_refl _) (Nat.le_refl _) (Nat.zero_le _) (Nat.zero_le _)
    have e := cmpL_append' [] []
    try simp only [List.append_nil, List.nil_append] at e
    rw [e] at this
    rw [if_pos (show ([] : List Vl).length = 0 from rfl)] at this
    exact this)
  clear GA GB HV
  go_wp2_with (first | (go_at_call 16; ((with_reducible refine (Cls.call (C1.out _ (Ext.below _))).mono ?_); rintro e _ ⟨rfl, y, rfl⟩)) | (go_at_call 16; ((with_reducible refine (C1.out _ (Below.refl _ _)).mono ?_); rintro e _ ⟨rfl, y, rfl⟩)) | (go_at_call 16; ((with_reducible refine (Cls.call (C2.out _ (Ext.below _))).mono ?_); rintro e _ ⟨rfl, y, rfl⟩)) | (go_at_call 16; ((with_reducible refine (C2.out _ (Below.refl _ _)).mono ?_); rintro e _ ⟨rfl, y, rfl⟩)) | (go_at_call 16; ((with_reducible refine (Cls.call (C3.out _ (Ext.below _))).mono ?_); rintro e _ ⟨rfl, y, rfl⟩)) | (go_at_call 16; ((with_reducible refine (C3.out _ (Below.refl _ _)).mono ?_); rintro e _ ⟨rfl, y, rfl⟩)) | (go_at_call 17; ((with_reducible refine (Cls.call (C4.out _ (Ext.below _))).mono ?_); rintro e _ ⟨rfl, y, rfl⟩)) | (go_at_call 17; ((with_reducible refine (C4.out _ (Below.refl _ _)).mono ?_); rintro e _ ⟨rfl, y, rfl⟩)))
  go_ret
  refine ⟨ret_bool ?_, ?_⟩
  · rfl
  · have hsz := (Below.refl w.heap.size w).size
    repeat first | with_reducible exact Below.refl _ _ | with_reducible assumption | with_reducible refine Below.setCell ?_ (by first | omega | (simp; done) | (simp; omega)) _ | with_reducible refine Below.alloc ?_ (by first | omega | (simp; done) | (simp; omega)) _ | with_reducible refine Below.drew ?_ | with_reducible refine Ext.on _ ?_ (by first | omega | (simp; done) | (simp; omega))
set_option maxHeartbeats 4000000 in
set_option maxRecDepth 100000 in
theorem rows_none_more (x' : Addr) (len' cap' : Nat) (l' : List Vl) (w : World) (hm' : len' ≤ cap') (hc' : cap' ≤ maxLen) (h' : Holds w (some x') len' l') (h50' : len' ≤ 50) (hp : 0 < len') :
    Calls Try.prog 4 #[.slice none 0 0, .slice (some x') len' cap'] w fun e w' => e = .returned (.bool true) ∧ Below w.heap.size w w' := by
  obtain ⟨i0, hi, hz0, hz1, hz2⟩ := info_parts infoV
  have HA : Holds w none 0 [] := (⟨rfl, .inl rfl⟩ : Holds w none 0 [])
  have HB : Holds w (some x') len' l' := h'
  have HM' := Lib.hid hm'
  have HC' := Lib.hid hc'
  unfold maxLen at hc'
  have GA := Lib.hid HA
  have GB := Lib.hid HB
  clear HA HB
  clear h'
  have NB : Hid (∀ W', Below w.heap.size w W' → ∀ j u, (flatV l')[j]? = some u → W'.cell? (x'.add j) = some u) := Lib.hid (by
    intro W' hW'
    obtain ⟨hl, hh⟩ := GB.out.later hW'
    rcases hh with h0 | ⟨b, off, ha, _, hcell⟩
    · intro j u hj
      have := (List.getElem?_eq_some_iff.1 hj).1
      rw [flatV_length, hl, h0] at this
      omega
    · obtain rfl : x' = ⟨b, off, none⟩ := by simpa using ha
      exact Holds.flat hcell hl)
  have LNB : Hid ((flatV l').length = len' * 3) := Lib.hid (by rw [flatV_length, GB.out.1])
  have tok1 : True := trivial
  have tok2 : True := trivial
  go_enter Try.func4, Try.ntmps4
  go_wp2_with (first | (at_builtin; have _t := tok1; refine wpList_append_own _ rfl _ _ 24 rfl w.heap.size 23 i0 (.agg #[.int .i64 0, .int .i64 0, .string ⟨#[]⟩]) 3 32 Try.underlying24 hi hz0 hz1 hz2 rfl (by decide) _ _ _ rfl (World.ownsRow_nil w w.heap.size 23 3) x' len' cap' (flatV l') rfl LNB.out (NB.out _ (Below.refl _ _)) (flatV_one l') (by unfold maxLen; omega) (by omega) (Nat.le_refl _) ?_; intro v2 w2 hown2 hgrow2 _; rw [Nat.zero_add, List.nil_append] at hown2; have bel2 := below_grown (B := w.heap.size) hgrow2 (Nat.le_refl _); clear hgrow2 tok1 _t))
  obtain ⟨p, cp, hv, hp1, hp2, HV0⟩ := Holds.own (l := l') hown2
  rw [hv]
  clear hown2 hv
  have HV := Lib.hid HV0
  have HP2 := Lib.hid hp2
  unfold maxLen at hp2
  clear HV0
  have C1 : Hid (∀ W', Below w2.heap.size w2 W' → Calls Try.prog 16 #[.slice none 0 0, .slice (some x') len' cap'] W' fun e w' => e = .returned (.int .i64 (cmpL [] l')) ∧ Cls W' w') := Lib.hid (fun W' hW' => by
    have := CompareRows_calls _ _ _ [] _ _ _ l' W' (GA.out.later (bel2.trans (hW'.mono bel2.size))) (GB.out.later (bel2.trans (hW'.mono bel2.size))) (Nat.le_refl _) hm' (Nat.zero_le _) HC'.out
    exact this)
  have C4 : Hid (∀ W', Below w2.heap.size w2 W' → Calls Try.prog 17 #[.slice none 0 0, .slice (some x') len' cap'] W' fun e w' => e = .returned (.int .i64 (cmpL [] l')) ∧ Cls W' w') := Lib.hid (fun W' hW' => by
    have := rCompareRows_calls _ _ _ [] _ _ _ l' W' (GA.out.later (bel2.trans (hW'.mono bel2.size))) (GB.out.later (bel2.trans (hW'.mono bel2.size))) (Nat.le_refl _) hm' (Nat.zero_le _) HC'.out
    exact this)
  have C2 : Hid (∀ W', Below w2.heap.size w2 W' → Calls Try.prog 16 #[.slice none 0 0, .slice p len' cp] W' fun e w' => e = .returned (.int .i64 (-1)) ∧ Cls W' w') := Lib.hid (fun W' hW' => by
    have := CompareRows_calls _ _ _ [] _ _ _ l' W' (GA.out.later (bel2.trans (hW'.mono bel2.size))) (HV.out.later hW') (Nat.le_refl _) hp1 (Nat.zero_le _) HP2.out
    have e := cmpL_append [] l'
    try simp only [List.append_nil, List.nil_append] at e
    rw [e] at this
    rw [if_neg (by rw [GB.out.1]; omega)] at this
    exact this)
  have C3 : Hid (∀ W', Below w2.heap.size w2 W' → Calls Try.prog 16 #[.slice p len' cp, .slice none 0 0] W' fun e w' => e = .returned (.int .i64 (1)) ∧ Cls W' w') := Lib.hid (fun W' hW' => by
    have := CompareRows_calls _ _ _ l' _ _ _ [] W' (HV.out.later hW') (GA.out.later (bel2.trans (hW'.mono bel2.size))) hp1 (Nat.le_refl _) HP2.out (Nat.zero_le _)
    have e := cmpL_append' [] l'
    try simp only [List.append_nil, List.nil_append] at e
    rw [e] at this
    rw [if_neg (by rw [GB.out.1]; omega)] at this
    exact this)
  clear GA GB HV
  go_wp2_with (first | (go_at_call 16; ((with_reducible refine (Cls.call (C1.out _ (Ext.below _))).mono ?_); rintro e _ ⟨rfl, y, rfl⟩)) | (go_at_call 16; ((with_reducible refine (C1.out _ (Below.refl _ _)).mono ?_); rintro e _ ⟨rfl, y, rfl⟩)) | (go_at_call 16; ((with_reducible refine (Cls.call (C2.out _ (Ext.below _))).mono ?_); rintro e _ ⟨rfl, y, rfl⟩)) | (go_at_call 16; ((with_reducible refine (C2.out _ (Below.refl _ _)).mono ?_); rintro e _ ⟨rfl, y, rfl⟩)) | (go_at_call 16; ((with_reducible refine (Cls.call (C3.out _ (Ext.below _))).mono ?_); rintro e _ ⟨rfl, y, rfl⟩)) | (go_at_call 16; ((with_reducible refine (C3.out _ (Below.refl _ _)).mono ?_); rintro e _ ⟨rfl, y, rfl⟩)) | (go_at_call 17; ((with_reducible refine (Cls.call (C4.out _ (Ext.below _))).mono ?_); rintro e _ ⟨rfl, y, rfl⟩)) | (go_at_call 17; ((with_reducible refine (C4.out _ (Below.refl _ _)).mono ?_); rintro e _ ⟨rfl, y, rfl⟩)))
  go_ret
  refine ⟨ret_bool ?_, ?_⟩
  · rfl
  · have hsz := bel2.size
    repeat first | with_reducible exact Below.refl _ _ | with_reducible assumption | with_reducible refine Below.setCell ?_ (by first | omega | (simp; done) | (simp; omega)) _ | with_reducible refine Below.alloc ?_ (by first | omega | (simp; done) | (simp; omega)) _ | with_reducible refine Below.drew ?_ | with_reducible refine Ext.on _ ?_ (by first | omega | (simp; done) | (simp; omega))
set_option maxHeartbeats 4000000 in
set_option maxRecDepth 100000 in
theorem rows_some_none (x : Addr) (len cap : Nat) (l : List Vl) (w : World) (hm : len ≤ cap) (hc : cap ≤ maxLen) (h : Holds w (some x) len l) (h50 : len ≤ 50) :
    Calls Try.prog 4 #[.slice (some x) len cap, .slice none 0 0] w fun e w' => e = .returned (.bool true) ∧ Below w.heap.size w w' := by
  obtain ⟨i0, hi, hz0, hz1, hz2⟩ := info_parts infoV
  have HA : Holds w (some x) len l := h
  have HB : Holds w none 0 [] := (⟨rfl, .inl rfl⟩ : Holds w none 0 [])
  have HM := Lib.hid hm
  have HC := Lib.hid hc
  unfold maxLen at hc
  have GA := Lib.hid HA
  have GB := Lib.hid HB
  clear HA HB
  clear h
  have NA : Hid (∀ W', Below w.heap.size w W' → ∀ j u, (flatV l)[j]? = some u → W'.cell? (x.add j) = some u) := Lib.hid (by
    intro W' hW'
    obtain ⟨hl, hh⟩ := GA.out.later hW'
    rcases hh with h0 | ⟨b, off, ha, _, hcell⟩
    · intro j u hj
      have := (List.getElem?_eq_some_iff.1 hj).1
      rw [flatV_length, hl, h0] at this
      omega
    · obtain rfl : x = ⟨b, off, none⟩ := by simpa using ha
      exact Holds.flat hcell hl)
  have LNA : Hid ((flatV l).length = len * 3) := Lib.hid (by rw [flatV_length, GA.out.1])
  have tok1 : True := trivial
  have tok2 : True := trivial
  go_enter Try.func4, Try.ntmps4
  go_wp2_with (first | (at_builtin; have _t := tok1; refine wpList_append_own _ rfl _ _ 24 rfl w.heap.size 23 i0 (.agg #[.int .i64 0, .int .i64 0, .string ⟨#[]⟩]) 3 32 Try.underlying24 hi hz0 hz1 hz2 rfl (by decide) _ _ _ rfl (World.ownsRow_nil w w.heap.size 23 3) x len cap (flatV l) rfl LNA.out (NA.out _ (Below.refl _ _)) (flatV_one l) (by unfold maxLen; omega) (by omega) (Nat.le_refl _) ?_; intro v1 w1 hown1 hgrow1 _; rw [Nat.zero_add, List.nil_append] at hown1; have bel1 := below_grown (B := w.heap.size) hgrow1 (Nat.le_refl _); clear hgrow1 tok1 _t) | (at_builtin; have _t := tok2; refine wpList_append_own_none rfl _ _ 24 rfl w.heap.size 23 i0 3 Try.underlying24 hi _ _ _ rfl hown1 rfl ?_; clear tok2 _t))
  obtain ⟨p, cp, hv, hp1, hp2, HV0⟩ := Holds.own (l := l) hown1
  rw [hv]
  clear hown1 hv
  have HV := Lib.hid HV0
  have HP2 := Lib.hid hp2
  unfold maxLen at hp2
  clear HV0
  have C1 : Hid (∀ W', Below w1.heap.size w1 W' → Calls Try.prog 16 #[.slice (some x) len cap, .slice none 0 0] W' fun e w' => e = .returned (.int .i64 (cmpL l [])) ∧ Cls W' w') := Lib.hid (fun W' hW' => by
    have := CompareRows_calls _ _ _ l _ _ _ [] W' (GA.out.later (bel1.trans (hW'.mono bel1.size))) (GB.out.later (bel1.trans (hW'.mono bel1.size))) hm (Nat.le_refl _) HC.out (Nat.zero_le _)
    exact this)
  have C4 : Hid (∀ W', Below w1.heap.size w1 W' → Calls Try.prog 17 #[.slice (some x) len cap, .slice none 0 0] W' fun e w' => e = .returned (.int .i64 (cmpL l [])) ∧ Cls W' w') := Lib.hid (fun W' hW' => by
    have := rCompareRows_calls _ _ _ l _ _ _ [] W' (GA.out.later (bel1.trans (hW'.mono bel1.size))) (GB.out.later (bel1.trans (hW'.mono bel1.size))) hm (Nat.le_refl _) HC.out (Nat.zero_le _)
    exact this)
  have C2 : Hid (∀ W', Below w1.heap.size w1 W' → Calls Try.prog 16 #[.slice (some x) len cap, .slice p len cp] W' fun e w' => e = .returned (.int .i64 (0)) ∧ Cls W' w') := Lib.hid (fun W' hW' => by
    have := CompareRows_calls _ _ _ l _ _ _ l W' (GA.out.later (bel1.trans (hW'.mono bel1.size))) (HV.out.later hW') hm hp1 HC.out HP2.out
    have e := cmpL_append l []
    try simp only [List.append_nil, List.nil_append] at e
    rw [e] at this
    rw [if_pos (show ([] : List Vl).length = 0 from rfl)] at this
    exact this)
  have C3 : Hid (∀ W', Below w1.heap.size w1 W' → Calls Try.prog 16 #[.slice p len cp, .slice (some x) len cap] W' fun e w' => e = .returned (.int .i64 (0)) ∧ Cls W' w') := Lib.hid (fun W' hW' => by
    have := CompareRows_calls _ _ _ l _ _ _ l W' (HV.out.later hW') (GA.out.later (bel1.trans (hW'.mono bel1.size))) hp1 hm HP2.out HC.out
    have e := cmpL_append' l []
    try simp only [List.append_nil, List.nil_append] at e
    rw [e] at this
    rw [if_pos (show ([] : List Vl).length = 0 from rfl)] at this
    exact this)
  clear GA GB HV
  go_wp2_with (first | (go_at_call 16; ((with_reducible refine (Cls.call (C1.out _ (Ext.below _))).mono ?_); rintro e _ ⟨rfl, y, rfl⟩)) | (go_at_call 16; ((with_reducible refine (C1.out _ (Below.refl _ _)).mono ?_); rintro e _ ⟨rfl, y, rfl⟩)) | (go_at_call 16; ((with_reducible refine (Cls.call (C2.out _ (Ext.below _))).mono ?_); rintro e _ ⟨rfl, y, rfl⟩)) | (go_at_call 16; ((with_reducible refine (C2.out _ (Below.refl _ _)).mono ?_); rintro e _ ⟨rfl, y, rfl⟩)) | (go_at_call 16; ((with_reducible refine (Cls.call (C3.out _ (Ext.below _))).mono ?_); rintro e _ ⟨rfl, y, rfl⟩)) | (go_at_call 16; ((with_reducible refine (C3.out _ (Below.refl _ _)).mono ?_); rintro e _ ⟨rfl, y, rfl⟩)) | (go_at_call 17; ((with_reducible refine (Cls.call (C4.out _ (Ext.below _))).mono ?_); rintro e _ ⟨rfl, y, rfl⟩)) | (go_at_call 17; ((with_reducible refine (C4.out _ (Below.refl _ _)).mono ?_); rintro e _ ⟨rfl, y, rfl⟩)))
  go_ret
  refine ⟨ret_bool ?_, ?_⟩
  · rfl
  · have hsz := bel1.size
    repeat first | with_reducible exact Below.refl _ _ | with_reducible assumption | with_reducible refine Below.setCell ?_ (by first | omega | (simp; done) | (simp; omega)) _ | with_reducible refine Below.alloc ?_ (by first | omega | (simp; done) | (simp; omega)) _ | with_reducible refine Below.drew ?_ | with_reducible refine Ext.on _ ?_ (by first | omega | (simp; done) | (simp; omega))
set_option maxHeartbeats 4000000 in
set_option maxRecDepth 100000 in
theorem rows_some_zero (x : Addr) (len cap : Nat) (l : List Vl) (x' : Addr) (cap' : Nat) (w : World) (hm : len ≤ cap) (hc : cap ≤ maxLen) (h : Holds w (some x) len l) (h50 : len ≤ 50) (hc' : cap' ≤ maxLen) :
    Calls Try.prog 4 #[.slice (some x) len cap, .slice (some x') 0 cap'] w fun e w' => e = .returned (.bool true) ∧ Below w.heap.size w w' := by
  obtain ⟨i0, hi, hz0, hz1, hz2⟩ := info_parts infoV
  have HA : Holds w (some x) len l := h
  have HB : Holds w (some x') 0 [] := (⟨rfl, .inl rfl⟩ : Holds w (some x') 0 [])
  have HM := Lib.hid hm
  have HC := Lib.hid hc
  unfold maxLen at hc
  have HC' := Lib.hid hc'
  unfold maxLen at hc'
  have GA := Lib.hid HA
  have GB := Lib.hid HB
  clear HA HB
  clear h
  have NA : Hid (∀ W', Below w.heap.size w W' → ∀ j u, (flatV l)[j]? = some u → W'.cell? (x.add j) = some u) := Lib.hid (by
    intro W' hW'
    obtain ⟨hl, hh⟩ := GA.out.later hW'
    rcases hh with h0 | ⟨b, off, ha, _, hcell⟩
    · intro j u hj
      have := (List.getElem?_eq_some_iff.1 hj).1
      rw [flatV_length, hl, h0] at this
      omega
    · obtain rfl : x = ⟨b, off, none⟩ := by simpa using ha
      exact Holds.flat hcell hl)
  have LNA : Hid ((flatV l).length = len * 3) := Lib.hid (by rw [flatV_length, GA.out.1])
  have tok1 : True := trivial
  have tok2 : True := trivial
  go_enter Try.func4, Try.ntmps4
  go_wp2_with (first | (at_builtin; have _t := tok1; refine wpList_append_own _ rfl _ _ 24 rfl w.heap.size 23 i0 (.agg #[.int .i64 0, .int .i64 0, .string ⟨#[]⟩]) 3 32 Try.underlying24 hi hz0 hz1 hz2 rfl (by decide) _ _ _ rfl (World.ownsRow_nil w w.heap.size 23 3) x len cap (flatV l) rfl LNA.out (NA.out _ (Below.refl _ _)) (flatV_one l) (by unfold maxLen; omega) (by omega) (Nat.le_refl _) ?_; intro v1 w1 hown1 hgrow1 _; rw [Nat.zero_add, List.nil_append] at hown1; have bel1 := below_grown (B := w.heap.size) hgrow1 (Nat.le_refl _); clear hgrow1 tok1 _t) | (at_builtin; have _t := tok2; refine wpList_append_own _ rfl _ _ 24 rfl w.heap.size 23 i0 (.agg #[.int .i64 0, .int .i64 0, .string ⟨#[]⟩]) 3 32 Try.underlying24 hi hz0 hz1 hz2 rfl (by decide) _ _ _ rfl hown1 x' 0 cap' [] rfl rfl (by simp) (by simp) (by unfold maxLen; omega) (by omega) bel1.size ?_; intro v2 w2 hown2 hgrow2 _; have bel2 := bel1.grown hgrow2 bel1.size (fun k hk => (hown1.lt k hk).1); rw [Nat.add_zero, List.append_nil] at hown2; clear hgrow2 tok2 _t))
  obtain ⟨p, cp, hv, hp1, hp2, HV0⟩ := Holds.own (l := l) hown2
  rw [hv]
  clear hown2 hv hown1
  have HV := Lib.hid HV0
  have HP2 := Lib.hid hp2
  unfold maxLen at hp2
  clear HV0
  have C1 : Hid (∀ W', Below w2.heap.size w2 W' → Calls Try.prog 16 #[.slice (some x) len cap, .slice (some x') 0 cap'] W' fun e w' => e = .returned (.int .i64 (cmpL l [])) ∧ Cls W' w') := Lib.hid (fun W' hW' => by
    have := CompareRows_calls _ _ _ l _ _ _ [] W' (GA.out.later (bel2.trans (hW'.mono bel2.size))) (GB.out.later (bel2.trans (hW'.mono bel2.size))) hm (Nat.zero_le _) HC.out HC'.out
    exact this)
  have C4 : Hid (∀ W', Below w2.heap.size w2 W' → Calls Try.prog 17 #[.slice (some x) len cap, .slice (some x') 0 cap'] W' fun e w' => e = .returned (.int .i64 (cmpL l [])) ∧ Cls W' w') := Lib.hid (fun W' hW' => by
    have := rCompareRows_calls _ _ _ l _ _ _ [] W' (GA.out.later (bel2.trans (hW'.mono bel2.size))) (GB.out.later (bel2.trans (hW'.mono bel2.size))) hm (Nat.zero_le _) HC.out HC'.out
    exact this)
  have C2 : Hid (∀ W', Below w2.heap.size w2 W' → Calls Try.prog 16 #[.slice (some x) len cap, .slice p len cp] W' fun e w' => e = .returned (.int .i64 (0)) ∧ Cls W' w') := Lib.hid (fun W' hW' => by
    have := CompareRows_calls _ _ _ l _ _ _ l W' (GA.out.later (bel2.trans (hW'.mono bel2.size))) (HV.out.later hW') hm hp1 HC.out HP2.out
    have e := cmpL_append l []
    try simp only [List.append_nil, List.nil_append] at e
    rw [e] at this
    rw [if_pos (show ([] : List Vl).length = 0 from rfl)] at this
    exact this)
  have C3 : Hid (∀ W', Below w2.heap.size w2 W' → Calls Try.prog 16 #[.slice p len cp, .slice (some x) len cap] W' fun e w' => e = .returned (.int .i64 (0)) ∧ Cls W' w') := Lib.hid (fun W' hW' => by
    have := CompareRows_calls _ _ _ l _ _ _ l W' (HV.out.later hW') (GA.out.later (bel2.trans (hW'.mono bel2.size))) hp1 hm HP2.out HC.out
    have e := cmpL_append' l []
    try simp only [List.append_nil, List.nil_append] at e
    rw [e] at this
    rw [if_pos (show ([] : List Vl).length = 0 from rfl)] at this
    exact this)
  clear GA GB HV
  go_wp2_with (first | (go_at_call 16; ((with_reducible refine (Cls.call (C1.out _ (Ext.below _))).mono ?_); rintro e _ ⟨rfl, y, rfl⟩)) | (go_at_call 16; ((with_reducible refine (C1.out _ (Below.refl _ _)).mono ?_); rintro e _ ⟨rfl, y, rfl⟩)) | (go_at_call 16; ((with_reducible refine (Cls.call (C2.out _ (Ext.below _))).mono ?_); rintro e _ ⟨rfl, y, rfl⟩)) | (go_at_call 16; ((with_reducible refine (C2.out _ (Below.refl _ _)).mono ?_); rintro e _ ⟨rfl, y, rfl⟩)) | (go_at_call 16; ((with_reducible refine (Cls.call (C3.out _ (Ext.below _))).mono ?_); rintro e _ ⟨rfl, y, rfl⟩)) | (go_at_call 16; ((with_reducible refine (C3.out _ (Below.refl _ _)).mono ?_); rintro e _ ⟨rfl, y, rfl⟩)) | (go_at_call 17; ((with_reducible refine (Cls.call (C4.out _ (Ext.below _))).mono ?_); rintro e _ ⟨rfl, y, rfl⟩)) | (go_at_call 17; ((with_reducible refine (C4.out _ (Below.refl _ _)).mono ?_); rintro e _ ⟨rfl, y, rfl⟩)))
  go_ret
  refine ⟨ret_bool ?_, ?_⟩
  · rfl
  · have hsz := bel2.size
    repeat first | with_reducible exact Below.refl _ _ | with_reducible assumption | with_reducible refine Below.setCell ?_ (by first | omega | (simp; done) | (simp; omega)) _ | with_reducible refine Below.alloc ?_ (by first | omega | (simp; done) | (simp; omega)) _ | with_reducible refine Below.drew ?_ | with_reducible refine Ext.on _ ?_ (by first | omega | (simp; done) | (simp; omega))
set_option maxHeartbeats 4000000 in
set_option maxRecDepth 100000 in
theorem rows_some_more (x : Addr) (len cap : Nat) (l : List Vl) (x' : Addr) (len' cap' : Nat) (l' : List Vl) (w : World) (hm : len ≤ cap) (hc : cap ≤ maxLen) (h : Holds w (some x) len l) (h50 : len ≤ 50) (hm' : len' ≤ cap') (hc' : cap' ≤ maxLen) (h' : Holds w (some x') len' l') (h50' : len' ≤ 50) (hp : 0 < len') :
    Calls Try.prog 4 #[.slice (some x) len cap, .slice (some x') len' cap'] w fun e w' => e = .returned (.bool true) ∧ Below w.heap.size w w' := by
  obtain ⟨i0, hi, hz0, hz1, hz2⟩ := info_parts infoV
  have HA : Holds w (some x) len l := h
  have HB : Holds w (some x') len' l' := h'
  have HM := Lib.hid hm
  have HC := Lib.hid hc
  unfold maxLen at hc
  have HM' := Lib.hid hm'
  have HC' := Lib.hid hc'
  unfold maxLen at hc'
  have GA := Lib.hid HA
  have GB := Lib.hid HB
  clear HA HB
  clear h
  clear h'
  have NA : Hid (∀ W', Below w.heap.size w W' → ∀ j u, (flatV l)[j]? = some u → W'.cell? (x.add j) = some u) := Lib.hid (by
    intro W' hW'
    obtain ⟨hl, hh⟩ := GA.out.later hW'
    rcases hh with h0 | ⟨b, off, ha, _, hcell⟩
    · intro j u hj
      have := (List.getElem?_eq_some_iff.1 hj).1
      rw [flatV_length, hl, h0] at this
      omega
    · obtain rfl : x = ⟨b, off, none⟩ := by simpa using ha
      exact Holds.flat hcell hl)
  have LNA : Hid ((flatV l).length = len * 3) := Lib.hid (by rw [flatV_length, GA.out.1])
  have NB : Hid (∀ W', Below w.heap.size w W' → ∀ j u, (flatV l')[j]? = some u → W'.cell? (x'.add j) = some u) := Lib.hid (by
    intro W' hW'
    obtain ⟨hl, hh⟩ := GB.out.later hW'
    rcases hh with h0 | ⟨b, off, ha, _, hcell⟩
    · intro j u hj
      have := (List.getElem?_eq_some_iff.1 hj).1
      rw [flatV_length, hl, h0] at this
      omega
    · obtain rfl : x' = ⟨b, off, none⟩ := by simpa using ha
      exact Holds.flat hcell hl)
  have LNB : Hid ((flatV l').length = len' * 3) := Lib.hid (by rw [flatV_length, GB.out.1])
  have tok1 : True := trivial
  have tok2 : True := trivial
  go_enter Try.func4, Try.ntmps4
  go_wp2_with (first | (at_builtin; have _t := tok1; refine wpList_append_own _ rfl _ _ 24 rfl w.heap.size 23 i0 (.agg #[.int .i64 0, .int .i64 0, .string ⟨#[]⟩]) 3 32 Try.underlying24 hi hz0 hz1 hz2 rfl (by decide) _ _ _ rfl (World.ownsRow_nil w w.heap.size 23 3) x len cap (flatV l) rfl LNA.out (NA.out _ (Below.refl _ _)) (flatV_one l) (by unfold maxLen; omega) (by omega) (Nat.le_refl _) ?_; intro v1 w1 hown1 hgrow1 _; rw [Nat.zero_add, List.nil_append] at hown1; have bel1 := below_grown (B := w.heap.size) hgrow1 (Nat.le_refl _); clear hgrow1 tok1 _t) | (at_builtin; have _t := tok2; refine wpList_append_own _ rfl _ _ 24 rfl w.heap.size 23 i0 (.agg #[.int .i64 0, .int .i64 0, .string ⟨#[]⟩]) 3 32 Try.underlying24 hi hz0 hz1 hz2 rfl (by decide) _ _ _ rfl hown1 x' len' cap' (flatV l') rfl LNB.out (NB.out _ bel1) (flatV_one l') (by unfold maxLen; omega) (by omega) bel1.size ?_; intro v2 w2 hown2 hgrow2 _; have bel2 := bel1.grown hgrow2 bel1.size (fun k hk => (hown1.lt k hk).1); rw [← flatV_append] at hown2; clear hgrow2 tok2 _t))
  obtain ⟨p, cp, hv, hp1, hp2, HV0⟩ := Holds.own (l := (l ++ l')) hown2
  rw [hv]
  clear hown2 hv hown1
  have HV := Lib.hid HV0
  have HP2 := Lib.hid hp2
  unfold maxLen at hp2
  clear HV0
  have C1 : Hid (∀ W', Below w2.heap.size w2 W' → Calls Try.prog 16 #[.slice (some x) len cap, .slice (some x') len' cap'] W' fun e w' => e = .returned (.int .i64 (cmpL l l')) ∧ Cls W' w') := Lib.hid (fun W' hW' => by
    have := CompareRows_calls _ _ _ l _ _ _ l' W' (GA.out.later (bel2.trans (hW'.mono bel2.size))) (GB.out.later (bel2.trans (hW'.mono bel2.size))) hm hm' HC.out HC'.out
    exact this)
  have C4 : Hid (∀ W', Below w2.heap.size w2 W' → Calls Try.prog 17 #[.slice (some x) len cap, .slice (some x') len' cap'] W' fun e w' => e = .returned (.int .i64 (cmpL l l')) ∧ Cls W' w') := Lib.hid (fun W' hW' => by
    have := rCompareRows_calls _ _ _ l _ _ _ l' W' (GA.out.later (bel2.trans (hW'.mono bel2.size))) (GB.out.later (bel2.trans (hW'.mono bel2.size))) hm hm' HC.out HC'.out
    exact this)
  have C2 : Hid (∀ W', Below w2.heap.size w2 W' → Calls Try.prog 16 #[.slice (some x) len cap, .slice p (len + len') cp] W' fun e w' => e = .returned (.int .i64 (-1)) ∧ Cls W' w') := Lib.hid (fun W' hW' => by
    have := CompareRows_calls _ _ _ l _ _ _ (l ++ l') W' (GA.out.later (bel2.trans (hW'.mono bel2.size))) (HV.out.later hW') hm hp1 HC.out HP2.out
    have e := cmpL_append l l'
    try simp only [List.append_nil, List.nil_append] at e
    rw [e] at this
    rw [if_neg (by rw [GB.out.1]; omega)] at this
    exact this)
  have C3 : Hid (∀ W', Below w2.heap.size w2 W' → Calls Try.prog 16 #[.slice p (len + len') cp, .slice (some x) len cap] W' fun e w' => e = .returned (.int .i64 (1)) ∧ Cls W' w') := Lib.hid (fun W' hW' => by
    have := CompareRows_calls _ _ _ (l ++ l') _ _ _ l W' (HV.out.later hW') (GA.out.later (bel2.trans (hW'.mono bel2.size))) hp1 hm HP2.out HC.out
    have e := cmpL_append' l l'
    try simp only [List.append_nil, List.nil_append] at e
    rw [e] at this
    rw [if_neg (by rw [GB.out.1]; omega)] at this
    exact this)
  clear GA GB HV
  go_wp2_with (first | (go_at_call 16; ((with_reducible refine (Cls.call (C1.out _ (Ext.below _))).mono ?_); rintro e _ ⟨rfl, y, rfl⟩)) | (go_at_call 16; ((with_reducible refine (C1.out _ (Below.refl _ _)).mono ?_); rintro e _ ⟨rfl, y, rfl⟩)) | (go_at_call 16; ((with_reducible refine (Cls.call (C2.out _ (Ext.below _))).mono ?_); rintro e _ ⟨rfl, y, rfl⟩)) | (go_at_call 16; ((with_reducible refine (C2.out _ (Below.refl _ _)).mono ?_); rintro e _ ⟨rfl, y, rfl⟩)) | (go_at_call 16; ((with_reducible refine (Cls.call (C3.out _ (Ext.below _))).mono ?_); rintro e _ ⟨rfl, y, rfl⟩)) | (go_at_call 16; ((with_reducible refine (C3.out _ (Below.refl _ _)).mono ?_); rintro e _ ⟨rfl, y, rfl⟩)) | (go_at_call 17; ((with_reducible refine (Cls.call (C4.out _ (Ext.below _))).mono ?_); rintro e _ ⟨rfl, y, rfl⟩)) | (go_at_call 17; ((with_reducible refine (C4.out _ (Below.refl _ _)).mono ?_); rintro e _ ⟨rfl, y, rfl⟩)))
  go_ret
  refine ⟨ret_bool ?_, ?_⟩
  · rfl
  · have hsz := bel2.size
    repeat first | with_reducible exact Below.refl _ _ | with_reducible assumption | with_reducible refine Below.setCell ?_ (by first | omega | (simp; done) | (simp; omega)) _ | with_reducible refine Below.alloc ?_ (by first | omega | (simp; done) | (simp; omega)) _ | with_reducible refine Below.drew ?_ | with_reducible refine Ext.on _ ?_ (by first | omega | (simp; done) | (simp; omega))
set_option maxHeartbeats 1000000 in
theorem valueRows_walk (a : Option Addr) (len cap : Nat) (l : List Vl) (a' : Option Addr) (len' cap' : Nat) (l' : List Vl) (w : World) (h : len ≤ cap ∧ cap ≤ maxLen ∧ (a = none → len = 0 ∧ cap = 0) ∧ Holds w a len l) (h' : len' ≤ cap' ∧ cap' ≤ maxLen ∧ (a' = none → len' = 0 ∧ cap' = 0) ∧ Holds w a' len' l') :
    Calls Try.prog 4 #[.slice a len cap, .slice a' len' cap'] w fun e w' => e = .returned (.bool true) ∧ Below w.heap.size w w' := by
  obtain ⟨hm, hc, hn, hh⟩ := h
  obtain ⟨hm', hc', hn', hh'⟩ := h'
  by_cases h1 : len ≤ 50
  · by_cases h2 : len' ≤ 50
    · cases a with
      | none =>
        obtain ⟨rfl, rfl⟩ := hn rfl
        cases a' with
        | none => obtain ⟨rfl, rfl⟩ := hn' rfl; exact rows_none_none w
        | some x' =>
          rcases Nat.eq_zero_or_pos len' with h0 | h0
          · subst h0; exact rows_none_zero x' cap' w hc'
          · exact rows_none_more x' len' cap' l' w hm' hc' hh' h2 h0
      | some x =>
        cases a' with
        | none => obtain ⟨rfl, rfl⟩ := hn' rfl; exact rows_some_none x len cap l w hm hc hh h1
        | some x' =>
          rcases Nat.eq_zero_or_pos len' with h0 | h0
          · subst h0; exact rows_some_zero x len cap l x' cap' w hm hc hh h1 hc'
          · exact rows_some_more x len cap l x' len' cap' l' w hm hc hh h1 hm' hc' hh' h2 h0
    · unfold maxLen at hc hc'
      clear hn hh hn' hh'
      have d1 : decide (50 < (len : Int)) = false := by simp; omega
      have d2 : decide (50 < (len' : Int)) = true := by simp; omega
      go_enter Try.func4, Try.ntmps4
      go_wp2_with fail
      go_ret
      exact ⟨ret_bool rfl, Below.refl _ _⟩
  · unfold maxLen at hc hc'
    clear hn hh hn' hh'
    have d1 : decide (50 < (len : Int)) = true := by simp; omega
    go_enter Try.func4, Try.ntmps4
    go_wp2_with fail
    go_ret
    exact ⟨ret_bool rfl, Below.refl _ _⟩
end Go.Proofs.Ytgmpdngolpkjjaa
