/-
  The walk of the law ExpressionColumns: it returns true for every expression that holds not more than a million values and letters.
-/
import Derived.Test.YtonnbmiallammaaColMath2
import Derived.Test.YtonnbmiallammaaSame
set_option linter.unusedVariables false
namespace Go.Proofs.Ytonnbmiallammaa
open Go Go.RowKit Go.Deep
set_option maxHeartbeats 16000000 in
set_option maxRecDepth 100000 in
theorem columns_yes (e : Ex) (a : Option Addr) (len cap : Nat) (d : Int) (w : World) (hf : e.fine) (hk : Kids w (fun _ => True) a len cap e.kids) (hc : cntE e ≤ 2 ^ 21) (hb : bigB e = true) (hd : d ≤ 1000000) (hd2 : -1000000 ≤ d) :
    Calls Try.prog 3 #[.agg #[.int .i64 (e).op, .int .i64 (e).ty, .int .i64 (e).num, .string (e).text, .int .i64 (e).col, .slice a len cap], .int .i64 d] w fun r w' => r = .returned (.bool true) ∧ Below w.heap.size w w' := by
  have F1 : Hid (∀ W, Below w.heap.size w W → Calls Try.prog 6 #[.agg #[.int .i64 (e).op, .int .i64 (e).ty, .int .i64 (e).num, .string (e).text, .int .i64 (e).col, .slice a len cap]] W fun r w' => r = .returned (.bool true) ∧ Cls W w') := Lib.hid (fun W hW => by have := Few_calls e a len cap _ W (hk.later hW) hf.2.2.2.1; rw [hb] at this; exact this)
  have H1 : Hid (∀ W, Below w.heap.size w W → Calls Try.prog 7 #[.agg #[.int .i64 (e).op, .int .i64 (e).ty, .int .i64 (e).num, .string (e).text, .int .i64 (e).col, .slice a len cap], .int .i64 d] W fun r w' => ShiftIs e d len W r w') := Lib.hid (fun W hW => Shift_calls e d a len cap _ W (hk.later hW) (slim_of_big hb))
  have CA : Hid (∀ W, Below w.heap.size w W → Calls Try.prog 9 #[.agg #[.int .i64 (e).op, .int .i64 (e).ty, .int .i64 (e).num, .string (e).text, .int .i64 (e).col, .slice a len cap]] W fun r w' => ∃ s : Sl, r = .returned (.slice s.a s.len s.cap) ∧ IntsIn w' s (rcE e) ∧ Cls W w') := Lib.hid (fun W hW => Columns_calls e a len cap W (hk.later hW) hc)
  have CR : Hid (∀ W, Below w.heap.size w W → Calls Try.prog 10 #[.agg #[.int .i64 (e).op, .int .i64 (e).ty, .int .i64 (e).num, .string (e).text, .int .i64 (e).col, .slice a len cap]] W fun r w' => ∃ s : Sl, r = .returned (.slice s.a s.len s.cap) ∧ IntsIn w' s (rcE e) ∧ Cls W w') := Lib.hid (fun W hW => rColumns_calls e a len cap W (hk.later hW) hc)
  have R1 : Hid (∀ W, Below w.heap.size w W → Calls Try.prog 12 #[.agg #[.int .i64 (e).op, .int .i64 (e).ty, .int .i64 (e).num, .string (e).text, .int .i64 (e).col, .slice a len cap], .int .i64 d] W fun r w' => ShiftIs e d len W r w') := Lib.hid (fun W hW => rShift_calls e d a len cap _ W (hk.later hW) (slim_of_big hb))
  have X1 : Hid (∀ (a2 : Option Addr) (cap2 : Nat) (a4 : Option Addr) (cap4 : Nat) (ok ok' : Nat → Prop) W, Kids W ok a2 len cap2 (shiftE e d).kids → Kids W ok' a4 len cap4 (shiftE e d).kids → Calls Try.prog 11 #[.agg #[.int .i64 (shiftE e d).op, .int .i64 (shiftE e d).ty, .int .i64 (shiftE e d).num, .string (shiftE e d).text, .int .i64 (shiftE e d).col, .slice a2 len cap2], .agg #[.int .i64 (shiftE e d).op, .int .i64 (shiftE e d).ty, .int .i64 (shiftE e d).num, .string (shiftE e d).text, .int .i64 (shiftE e d).col, .slice a4 len cap4]] W fun r w' => r = .returned (.bool true) ∧ Cls W w') := Lib.hid (fun a2 cap2 a4 cap4 ok ok' W h h' => by have := rSame_calls (shiftE e d) (shiftE e d) a2 len cap2 a4 len cap4 ok ok' W h h'; rw [sameE_self] at this; exact this)
  have X2 : Hid (∀ (a2 : Option Addr) (cap2 : Nat) (ok : Nat → Prop) W, Kids W ok a2 len cap2 (shiftE e d).kids → Calls Try.prog 7 #[.agg #[.int .i64 (shiftE e d).op, .int .i64 (shiftE e d).ty, .int .i64 (shiftE e d).num, .string (shiftE e d).text, .int .i64 (shiftE e d).col, .slice a2 len cap2], .int .i64 (-d)] W fun r w' => ∃ a' cap', r = .returned (.agg #[.int .i64 (e).op, .int .i64 (e).ty, .int .i64 (e).num, .string (e).text, .int .i64 (e).col, .slice a' len cap']) ∧ Kids w' (fun b => W.heap.size ≤ b) a' len cap' e.kids ∧ Cls W w') := Lib.hid (fun a2 cap2 ok W h => by have := Shift_calls (shiftE e d) (-d) a2 len cap2 ok W h (slim_shift d e (slim_of_big hb)); unfold ShiftIs at this; rw [shift_back d e w _ a len cap hf hk] at this; exact this)
  have X3 : Hid (∀ (a6 : Option Addr) (cap6 : Nat) (ok : Nat → Prop) W, Below w.heap.size w W → Kids W ok a6 len cap6 e.kids → Calls Try.prog 11 #[.agg #[.int .i64 (e).op, .int .i64 (e).ty, .int .i64 (e).num, .string (e).text, .int .i64 (e).col, .slice a6 len cap6], .agg #[.int .i64 (e).op, .int .i64 (e).ty, .int .i64 (e).num, .string (e).text, .int .i64 (e).col, .slice a len cap]] W fun r w' => r = .returned (.bool true) ∧ Cls W w') := Lib.hid (fun a6 cap6 ok W hW h => by have := rSame_calls e e a6 len cap6 a len cap ok _ W h (hk.later hW); rw [sameE_self] at this; exact this)
  have X4 : Hid (∀ (a2 : Option Addr) (cap2 : Nat) (ok : Nat → Prop) W, Kids W ok a2 len cap2 (shiftE e d).kids → Calls Try.prog 9 #[.agg #[.int .i64 (shiftE e d).op, .int .i64 (shiftE e d).ty, .int .i64 (shiftE e d).num, .string (shiftE e d).text, .int .i64 (shiftE e d).col, .slice a2 len cap2]] W fun r w' => ∃ s : Sl, r = .returned (.slice s.a s.len s.cap) ∧ s.len = (rcE e).length ∧ Cls W w') := Lib.hid (fun a2 cap2 ok W h => (Columns_calls (shiftE e d) a2 len cap2 W h.any (by rw [cntE_shift]; exact hc)).mono fun r w' ⟨s, hr, hs, hw⟩ => ⟨s, hr, hs.1.trans (rc_same d hf hk), hw⟩)
  have HRL : Hid ((rcE e).length ≤ 2 ^ 21) := Lib.hid (Nat.le_trans (rcE_len e) hc)
  have hneg : wrap64 (-d) = -d := by unfold wrap64; omega
  have d1 : decide (1000000 < d) = false := by simp; omega
  have d2 : decide (d < -1000000) = false := by simp; omega
  clear hk hf hb hc
  go_enter Try.func3, Try.ntmps3
  go_wp2_with (first | (go_at_call 6; ((with_reducible refine (F1.out _ ?_).mono ?_); (· (repeat first | with_reducible exact Below.refl _ _ | with_reducible refine Below.setCell ?_ (by first | omega | (simp; done) | (simp; omega)) _ | with_reducible refine Below.alloc ?_ (by first | omega | (simp; done) | (simp; omega)) _ | with_reducible refine Below.drew ?_ | with_reducible refine Ext.on _ ?_ (by first | omega | (simp; done) | (simp; omega)))); rintro r _ ⟨rfl, y1, rfl⟩; have y1s := y1.size; simp at y1s)) | (go_at_call 7; ((with_reducible refine (H1.out _ ?_).mono ?_); (· (repeat first | with_reducible exact Below.refl _ _ | with_reducible refine Below.setCell ?_ (by first | omega | (simp; done) | (simp; omega)) _ | with_reducible refine Below.alloc ?_ (by first | omega | (simp; done) | (simp; omega)) _ | with_reducible refine Below.drew ?_ | with_reducible refine Ext.on _ ?_ (by first | omega | (simp; done) | (simp; omega)))); rintro r w2 hq; obtain ⟨a2, cap2, rfl, hk2, y2, rfl⟩ := hq; have HK2 := Lib.hid hk2; clear hk2; have y2s := y2.size)))
  have a0 : w.heap.size < y1.val.heap.size := by omega
  obtain ⟨e0, e01, e02, _, _⟩ := y2.lts (b := w.heap.size) a0
  refine wp_region_lin (by kernel_rfl) (by kernel_rfl) ?_
  intro y0
  have HKS : Hid (∀ (y : type_of% y0), Kids y.val (fun b => y1.val.heap.size ≤ b) a2 len cap2 (shiftE e d).kids) := Lib.hid (fun y => (HK2.out.later ((Below.refl _ _).alloc (Nat.le_refl _) _)).later (y.below))
  as_aux_lemma =>
    repeat (refine lin_calm rfl ?_; intro KK hKK; go_big_quiet_step (fail); refine wpQuiet_nil ?_; refine hKK _ ?_; clear hKK KK)
    refine lin_free rfl ?_
    intro KK hKK
    go_wp2_with ((go_at_call 9; ((with_reducible refine (CA.out _ ?_).mono ?_); (· (repeat first | with_reducible exact Below.refl _ _ | with_reducible refine Below.setCell ?_ (by first | omega | (simp; done) | (simp; omega)) _ | with_reducible refine Below.alloc ?_ (by first | omega | (simp; done) | (simp; omega)) _ | with_reducible refine Below.drew ?_ | with_reducible refine Ext.on _ ?_ (by first | omega | (simp; done) | (simp; omega)))); rintro r wn hq; obtain ⟨s1, rfl, hs1, hc1⟩ := hq; have HS1 := Lib.hid hs1; obtain ⟨z1, rfl⟩ := Cls.step _ hc1; clear hs1 hc1)))
    refine hKK _ _ (.inr ⟨z1, rfl⟩) ?_
    clear hKK KK
    repeat (refine lin_calm rfl ?_; intro KK hKK; go_big_quiet_step (fail); refine wpQuiet_nil ?_; refine hKK _ ?_; clear hKK KK)
    refine lin_free rfl ?_
    intro KK hKK
    go_wp2_with ((go_at_call 10; ((with_reducible refine (CR.out _ ?_).mono ?_); (· (repeat first | with_reducible exact Below.refl _ _ | with_reducible refine Below.setCell ?_ (by first | omega | (simp; done) | (simp; omega)) _ | with_reducible refine Below.alloc ?_ (by first | omega | (simp; done) | (simp; omega)) _ | with_reducible refine Below.drew ?_ | with_reducible refine Ext.on _ ?_ (by first | omega | (simp; done) | (simp; omega)))); rintro r wn hq; obtain ⟨s2, rfl, hs2, hc2⟩ := hq; have HS2 := Lib.hid hs2; have HS1b := Lib.hid (HS1.out.later hc2.below); obtain ⟨z2, rfl⟩ := Cls.step _ hc2; clear hs2 hc2)))
    refine hKK _ _ (.inr ⟨z2, rfl⟩) ?_
    clear hKK KK
    refine lin_free rfl ?_
    intro KK hKK
    go_wp2_with ((go_at_call 8; ((with_reducible refine (sameI_calls s1 s2 (rcE e) _ HS1b.out HS2.out).mono ?_); rintro r wn hq; obtain ⟨rfl, hc3⟩ := hq; obtain ⟨z3, rfl⟩ := Cls.step _ hc3; clear hc3)))
    refine hKK _ _ (.inr ⟨z3, rfl⟩) ?_
    clear hKK KK
    repeat (refine lin_calm rfl ?_; intro KK hKK; go_big_quiet_step (fail); refine wpQuiet_nil ?_; refine hKK _ ?_; clear hKK KK)
    refine lin_free rfl ?_
    intro KK hKK
    go_wp2_with ((go_at_call 12; ((with_reducible refine (R1.out _ ?_).mono ?_); (· (repeat first | with_reducible exact Below.refl _ _ | with_reducible refine Below.setCell ?_ (by first | omega | (simp; done) | (simp; omega)) _ | with_reducible refine Below.alloc ?_ (by first | omega | (simp; done) | (simp; omega)) _ | with_reducible refine Below.drew ?_ | with_reducible refine Ext.on _ ?_ (by first | omega | (simp; done) | (simp; omega)))); rintro r wn hq; obtain ⟨a4, cap4, rfl, hk4, hc4⟩ := hq; have HK4 := Lib.hid hk4; obtain ⟨z4, rfl⟩ := Cls.step _ hc4; clear hk4 hc4)))
    refine hKK _ _ (.inr ⟨z4, rfl⟩) ?_
    clear hKK KK
    refine lin_free rfl ?_
    intro KK hKK
    go_wp2_with ((go_at_call 11; ((with_reducible refine (X1.out a2 cap2 a4 cap4 _ _ _ (HKS.out z4) HK4.out).mono ?_); rintro r wn hq; obtain ⟨rfl, hc5⟩ := hq; obtain ⟨z5, rfl⟩ := Cls.step _ hc5; clear hc5)))
    refine hKK _ _ (.inr ⟨z5, rfl⟩) ?_
    clear hKK KK
    repeat (refine lin_calm rfl ?_; intro KK hKK; go_big_quiet_step (fail); refine wpQuiet_nil ?_; refine hKK _ ?_; clear hKK KK)
    refine lin_free rfl ?_
    intro KK hKK
    go_wp2_with ((go_at_call 7; ((with_reducible refine (X2.out a2 cap2 _ _ (HKS.out z5)).mono ?_); rintro r wn hq; obtain ⟨a6, cap6, rfl, hk6, hc6⟩ := hq; have HK6 := Lib.hid hk6; obtain ⟨z6, rfl⟩ := Cls.step _ hc6; clear hk6 hc6)))
    refine hKK _ _ (.inr ⟨z6, rfl⟩) ?_
    clear hKK KK
    repeat (refine lin_calm rfl ?_; intro KK hKK; go_big_quiet_step (fail); refine wpQuiet_nil ?_; refine hKK _ ?_; clear hKK KK)
    refine lin_free rfl ?_
    intro KK hKK
    go_wp2_with ((go_at_call 11; ((with_reducible refine (X3.out a6 cap6 _ _ ?_ HK6.out).mono ?_); (· (repeat first | with_reducible exact Below.refl _ _ | with_reducible refine Below.setCell ?_ (by first | omega | (simp; done) | (simp; omega)) _ | with_reducible refine Below.alloc ?_ (by first | omega | (simp; done) | (simp; omega)) _ | with_reducible refine Below.drew ?_ | with_reducible refine Ext.on _ ?_ (by first | omega | (simp; done) | (simp; omega)))); rintro r wn hq; obtain ⟨rfl, hc7⟩ := hq; obtain ⟨z7, rfl⟩ := Cls.step _ hc7; clear hc7)))
    refine hKK _ _ (.inr ⟨z7, rfl⟩) ?_
    clear hKK KK
    repeat (refine lin_calm rfl ?_; intro KK hKK; go_big_quiet_step (fail); refine wpQuiet_nil ?_; refine hKK _ ?_; clear hKK KK)
    refine lin_free rfl ?_
    intro KK hKK
    go_wp2_with ((go_at_call 9; ((with_reducible refine (X4.out a2 cap2 _ _ (HKS.out z7)).mono ?_); rintro r wn hq; obtain ⟨s8, rfl, hs8, hc8⟩ := hq; have HS8 := Lib.hid hs8; have hl8 : s8.len ≤ 2 ^ 21 := (by rw [hs8]; exact HRL.out); obtain ⟨z8, rfl⟩ := Cls.step _ hc8; clear hs8 hc8)))
    refine hKK _ _ (.inr ⟨z8, rfl⟩) ?_
    clear hKK KK
    repeat (refine lin_calm rfl ?_; intro KK hKK; go_big_quiet_step (fail); refine wpQuiet_nil ?_; refine hKK _ ?_; clear hKK KK)
    refine lin_free rfl ?_
    intro KK hKK
    go_wp2_with ((go_at_call 10; ((with_reducible refine (CR.out _ ?_).mono ?_); (· (repeat first | with_reducible exact Below.refl _ _ | with_reducible refine Below.setCell ?_ (by first | omega | (simp; done) | (simp; omega)) _ | with_reducible refine Below.alloc ?_ (by first | omega | (simp; done) | (simp; omega)) _ | with_reducible refine Below.drew ?_ | with_reducible refine Ext.on _ ?_ (by first | omega | (simp; done) | (simp; omega)))); rintro r wn hq; obtain ⟨s9, rfl, hs9, hc9⟩ := hq; have hl9 : s9.len = s8.len := hs9.1.trans HS8.out.symm; obtain ⟨z9, rfl⟩ := Cls.step _ hc9; clear hs9 hc9)))
    refine hKK _ _ (.inr ⟨z9, rfl⟩) ?_
    clear hKK KK
    repeat (refine lin_calm rfl ?_; intro KK hKK; go_big_quiet_step (fail); refine wpQuiet_nil ?_; refine hKK _ ?_; clear hKK KK)
    refine lin_nil ?_
    go_wp2_with fail
    go_ret
    refine ⟨ret_bool ?_, ?_⟩
    · simp
    · repeat first | with_reducible exact Below.refl _ _ | with_reducible refine Below.setCell ?_ (by first | omega | (simp; done) | (simp; omega)) _ | with_reducible refine Below.alloc ?_ (by first | omega | (simp; done) | (simp; omega)) _ | with_reducible refine Below.drew ?_ | with_reducible refine Ext.on _ ?_ (by first | omega | (simp; done) | (simp; omega))
set_option maxHeartbeats 4000000 in
set_option maxRecDepth 100000 in
theorem expressionColumns_walk (e : Ex) (a : Option Addr) (len cap : Nat) (d : Int) (w : World) (hf : e.fine) (hk : Kids w (fun _ => True) a len cap e.kids) (_ : (Lit.int .i64 d).wf = true) (hc : cntE e ≤ 2 ^ 21) :
    Calls Try.prog 3 #[.agg #[.int .i64 (e).op, .int .i64 (e).ty, .int .i64 (e).num, .string (e).text, .int .i64 (e).col, .slice a len cap], .int .i64 d] w fun r w' => r = .returned (.bool true) ∧ Below w.heap.size w w' := by
  have F1 : Hid (∀ W, Below w.heap.size w W → Calls Try.prog 6 #[.agg #[.int .i64 (e).op, .int .i64 (e).ty, .int .i64 (e).num, .string (e).text, .int .i64 (e).col, .slice a len cap]] W fun r w' => r = .returned (.bool (bigB e)) ∧ Cls W w') := Lib.hid (fun W hW => Few_calls e a len cap _ W (hk.later hW) hf.2.2.2.1)
  cases hb : bigB e
  · rw [hb] at F1
    clear hk hf hb hc
    go_enter Try.func3, Try.ntmps3
    go_wp2_with (go_at_call 6; ((with_reducible refine (F1.out _ ?_).mono ?_); (· (repeat first | with_reducible exact Below.refl _ _ | with_reducible refine Below.setCell ?_ (by first | omega | (simp; done) | (simp; omega)) _ | with_reducible refine Below.alloc ?_ (by first | omega | (simp; done) | (simp; omega)) _ | with_reducible refine Below.drew ?_ | with_reducible refine Ext.on _ ?_ (by first | omega | (simp; done) | (simp; omega)))); rintro r _ ⟨rfl, y1, rfl⟩))
    go_ret
    refine ⟨ret_bool rfl, ?_⟩
    repeat first | with_reducible exact Below.refl _ _ | with_reducible refine Below.setCell ?_ (by first | omega | (simp; done) | (simp; omega)) _ | with_reducible refine Below.alloc ?_ (by first | omega | (simp; done) | (simp; omega)) _ | with_reducible refine Below.drew ?_ | with_reducible refine Ext.on _ ?_ (by first | omega | (simp; done) | (simp; omega))
  · by_cases h1 : 1000000 < d
    · rw [hb] at F1
      have d1 : decide (1000000 < d) = true := by simpa using h1
      clear hk hf hb hc h1
      go_enter Try.func3, Try.ntmps3
      go_wp2_with (go_at_call 6; ((with_reducible refine (F1.out _ ?_).mono ?_); (· (repeat first | with_reducible exact Below.refl _ _ | with_reducible refine Below.setCell ?_ (by first | omega | (simp; done) | (simp; omega)) _ | with_reducible refine Below.alloc ?_ (by first | omega | (simp; done) | (simp; omega)) _ | with_reducible refine Below.drew ?_ | with_reducible refine Ext.on _ ?_ (by first | omega | (simp; done) | (simp; omega)))); rintro r _ ⟨rfl, y1, rfl⟩))
      go_ret
      refine ⟨ret_bool rfl, ?_⟩
      repeat first | with_reducible exact Below.refl _ _ | with_reducible refine Below.setCell ?_ (by first | omega | (simp; done) | (simp; omega)) _ | with_reducible refine Below.alloc ?_ (by first | omega | (simp; done) | (simp; omega)) _ | with_reducible refine Below.drew ?_ | with_reducible refine Ext.on _ ?_ (by first | omega | (simp; done) | (simp; omega))
    · by_cases h2 : d < -1000000
      · rw [hb] at F1
        have d1 : decide (1000000 < d) = false := by simpa using h1
        have d2 : decide (d < -1000000) = true := by simpa using h2
        clear hk hf hb hc h1 h2
        go_enter Try.func3, Try.ntmps3
        go_wp2_with (go_at_call 6; ((with_reducible refine (F1.out _ ?_).mono ?_); (· (repeat first | with_reducible exact Below.refl _ _ | with_reducible refine Below.setCell ?_ (by first | omega | (simp; done) | (simp; omega)) _ | with_reducible refine Below.alloc ?_ (by first | omega | (simp; done) | (simp; omega)) _ | with_reducible refine Below.drew ?_ | with_reducible refine Ext.on _ ?_ (by first | omega | (simp; done) | (simp; omega)))); rintro r _ ⟨rfl, y1, rfl⟩))
        go_ret
        refine ⟨ret_bool rfl, ?_⟩
        repeat first | with_reducible exact Below.refl _ _ | with_reducible refine Below.setCell ?_ (by first | omega | (simp; done) | (simp; omega)) _ | with_reducible refine Below.alloc ?_ (by first | omega | (simp; done) | (simp; omega)) _ | with_reducible refine Below.drew ?_ | with_reducible refine Ext.on _ ?_ (by first | omega | (simp; done) | (simp; omega))
      · exact columns_yes e a len cap d w hf hk hc hb (by omega) (by omega)
end Go.Proofs.Ytonnbmiallammaa
