/-
  The program's natural numbers: struck of zeros, their words, how they compare; divisors, magnitudes.
-/
import Derived.Test.YtogjollefllajaaLMath
import Derived.Test.YtogjollefllajaaFOrdM
set_option linter.unusedVariables false
namespace Go.Proofs.Ytogjollefllajaa
open Go Go.RowKit Go.Deep
/-- A natural number of the program: the words of n. -/
def NatAt (w : World) (s : Sl) (n : Nat) : Prop := UAt w s (wdigs n)
theorem NatAt.later {w w' : World} {s : Sl} {n : Nat} (h : NatAt w s n) (hb : Below w.heap.size w w') : NatAt w' s n := UAt.later h hb
theorem ltrimmed {w : World} {a : Option Addr} {n c : Nat} {l : List Nat} (h : UAt w ⟨a, n, c⟩ l) (hd : wDg l) : NatAt w ⟨a, (wdigs (wvl l)).length, c⟩ (wvl l) := by
  have := h.cut (wdigs_len_vl hd)
  rwa [wtake_digs hd] at this
set_option maxHeartbeats 2000000 in
theorem trimmed_calls (a : Option Addr) (n c : Nat) (l : List Nat) (w : World) (h : UAt w ⟨a, n, c⟩ l) (hd : wDg l) :
    Calls Try.prog 90 #[.slice a n c] w fun e w' => e = .returned (.slice a (wdigs (wvl l)).length c) ∧ w = w' := by
  have hlen : n = l.length := h.1
  have hle : n ≤ c := h.2.1
  have hmax : c ≤ maxLen := h.2.2.1
  unfold maxLen at hmax
  have H := Lib.hid h.2.2.2
  have HD := Lib.hid hd
  have HL := Lib.hid hlen
  clear h hd hlen
  go_enter Try.func90, Try.ntmps90
  go_wp2_with fail
  go_loop [0] (fun v => ∃ k : Nat, k ≤ n ∧ v = .slice a k c ∧ Hid (wvl (l.take k) = wvl l)) (fun v => slLen v)
  case atStart => exact ⟨n, Nat.le_refl _, rfl, Lib.hid (wvl_take_all _ _ (by rw [HL.out]; exact Nat.le_refl _))⟩
  case round =>
    obtain ⟨k, hk, rfl, hv⟩ := hrel
    by_cases h0 : 0 < k
    · obtain ⟨b, off, ea, hb, hcell⟩ := H.out.resolve_left (by show ¬ n = 0; omega)
      have ea' : a = some ⟨b, off, none⟩ := ea
      subst ea'
      clear ea
      have q := hcell (k - 1) (by show k - 1 < n; omega)
      have HE : Hid (l.getD (k - 1) 0 ≠ 0 → k = (wdigs (wvl l)).length) := Lib.hid (fun hz => by
        have := wdigs_take HD.out (k := k) (by rw [← HL.out]; exact hk) hv.out (.inr hz)
        rw [← this, List.length_take, ← HL.out, Nat.min_eq_left hk])
      have HS : Hid (l.getD (k - 1) 0 = 0 → wvl (l.take (k - 1)) = wvl l) := Lib.hid (fun hz => wtrim_step hv.out h0 hz)
      clear hcell
      generalize l.getD (k - 1) 0 = x at *
      have e1 : ((k : Int) - 1).toNat = k - 1 := by omega
      by_cases hx : x = 0
      · subst hx
        go_wp2_with fail
        go_round
        case rel => exact ⟨k - 1, by omega, by first | rfl | simp, Lib.hid (HS.out rfl)⟩
        case measure => simp [slLen]; omega
      · have d1 : ((x : Int) == 0) = false := by simp; omega
        have HX := Lib.hid hx
        clear hx
        go_wp2_with fail
        go_ret
        exact ⟨by rw [← HE.out HX.out]; rfl, rfl⟩
    · obtain rfl : k = 0 := by omega
      go_wp2_with fail
      go_ret
      refine ⟨?_, rfl⟩
      have : wvl l = 0 := by rw [← hv.out]; simp [wvl]
      rw [this, wdigs_zero]; rfl
set_option maxHeartbeats 2000000 in
theorem ldivisor_calls (x y : Nat) (w : World) (hx : x < 18446744073709551616) (hy : y < 18446744073709551616) :
    Calls Try.prog 75 #[.int .u64 x, .int .u64 y] w fun e w' => e = .returned (.int .u64 ((Nat.gcd x y : Nat) : Int)) ∧ Cls w w' := by
  go_enter Try.func75, Try.ntmps75
  go_wp2_with fail
  go_loopw [0, 1] (fun s0 s1 wr => ∃ p q : Nat, p < 18446744073709551616 ∧ q < 18446744073709551616 ∧ s0 = .int .u64 p ∧ s1 = .int .u64 q ∧ Hid (Nat.gcd p q = Nat.gcd x y) ∧ Cls w wr) (fun _ s1 _ => (intOf s1).toNat)
  case atStart => exact ⟨x, y, hx, hy, rfl, rfl, Lib.hid rfl, Cls.of (Below.refl _ _)⟩
  case round =>
    obtain ⟨p, q, hp, hq, rfl, rfl, hG, z, rfl⟩ := hrel
    by_cases h0 : q = 0
    · subst h0
      go_wp2_with fail
      go_ret
      exact ⟨ret_int (by rw [← hG.out, Nat.gcd_zero_right]), z, rfl⟩
    · have HG : Hid (Nat.gcd q (p % q) = Nat.gcd x y) := Lib.hid (by rw [gcd_step _ _ (Nat.pos_of_ne_zero h0)]; exact hG.out)
      have HLT := Lib.hid (Nat.mod_lt p (Nat.pos_of_ne_zero h0))
      have d1 : ((q : Int) == 0) = false := by simp; omega
      have d2 : ((q : Int) != 0) = true := by simp; omega
      have H0 := Lib.hid h0
      have e1 : (p : Int).tmod (q : Int) = ((p % q : Nat) : Int) := by rw [Int.tmod_eq_emod_of_nonneg (by omega)]; omega
      have e2 : IntKind.u64.wrap ((p % q : Nat) : Int) = ((p % q : Nat) : Int) := u64_id (by have := HLT.out; omega)
      have h0' : ¬ ((q : Int) = 0) := by omega
      clear hG
      go_wp2_with fail
      refine wp_region_on (by kernel_rfl) (by kernel_rfl) ?_
      repeat (go_big_quiet_step (fail))
      refine wpQuiet_nil ?_
      rintro _ ⟨y1, rfl⟩
      clear e1 e2
      go_wp2_with fail
      go_roundw
      case rel => exact ⟨q, p % q, hq, by have := HLT.out; omega, rfl, by first | rfl | simp, HG, y1, rfl⟩
      case measure => have := HLT.out; first | (simp [intOf]; done) | (simp [intOf]; omega)
set_option maxHeartbeats 2000000 in
theorem lmagnitude_calls (n : Int) (w : World) (h0 : -9223372036854775808 ≤ n) (h1 : n ≤ 9223372036854775807) :
    Calls Try.prog 76 #[.int .i64 n] w fun e w' => e = .returned (.int .u64 (n.natAbs : Int)) ∧ w = w' := by
  obtain ⟨m, hm⟩ : ∃ m : Nat, m = n.natAbs := ⟨_, rfl⟩
  rw [← hm]
  by_cases hn : n < 0
  · have e1 : IntKind.u64.wrap n = 18446744073709551616 - (m : Int) := by rw [IntKind.wrap_u64]; omega
    have e2 : IntKind.u64.wrap (-(18446744073709551616 - (m : Int))) = (m : Int) := by rw [IntKind.wrap_u64]; omega
    clear hm
    go_enter Try.func76, Try.ntmps76
    go_wp2_with fail
    go_ret
    exact ⟨rfl, rfl⟩
  · have e1 : IntKind.u64.wrap n = (m : Int) := by rw [IntKind.wrap_u64]; omega
    clear hm
    go_enter Try.func76, Try.ntmps76
    go_wp2_with fail
    go_ret
    exact ⟨rfl, rfl⟩
set_option maxHeartbeats 2000000 in
theorem word_calls (a : Option Addr) (n c : Nat) (l : List Nat) (i : Nat) (w : World) (h : UAt w ⟨a, n, c⟩ l) :
    Calls Try.prog 62 #[.slice a n c, .int .i64 i] w fun e w' => e = .returned (.int .u64 ((l.getD i 0 : Nat) : Int)) ∧ w = w' := by
  have hle : n ≤ c := h.2.1
  have hmax : c ≤ maxLen := h.2.2.1
  unfold maxLen at hmax
  have hn : n = l.length := h.1
  by_cases hi : i < n
  · obtain ⟨b, off, ea, hb, hcell⟩ := h.2.2.2.resolve_left (by show ¬ n = 0; omega)
    have ea' : a = some ⟨b, off, none⟩ := ea
    subst ea'
    have q := hcell i hi
    clear h hcell ea hn
    generalize l.getD i 0 = x at *
    have d1 : decide ((i : Int) < (n : Int)) = true := decide_eq_true (by omega)
    go_enter Try.func62, Try.ntmps62
    go_wp2_with fail
    go_ret
    exact ⟨rfl, rfl⟩
  · have e : l.getD i 0 = 0 := by simp [List.getD, List.getElem?_eq_none (show l.length ≤ i by omega)]
    rw [e]
    have d1 : decide ((i : Int) < (n : Int)) = false := decide_eq_false (by omega)
    clear h hn e
    go_enter Try.func62, Try.ntmps62
    go_wp2_with fail
    go_ret
    exact ⟨rfl, rfl⟩
theorem cmpInt_calls (a b : Int) (w : World) : Calls Try.prog 85 #[.int .i64 a, .int .i64 b] w fun e w' => e = .returned (.int .i64 (cmpI a b)) ∧ w = w' := by
  go_enter Try.func85, Try.ntmps85
  go_wp2
  all_goals
    go_ret
    refine ⟨ret_int ?_, rfl⟩
    unfold cmpI
    repeat (first | rfl | rw [if_pos (by omega)] | rw [if_neg (by omega)])
theorem wcmpN_len {a b : Nat} (h : (wdigs a).length < (wdigs b).length) : cmpN a b = -1 := by have := wlt_of_len_lt h; simp [cmpN, this]
theorem wcmpN_len' {a b : Nat} (h : (wdigs b).length < (wdigs a).length) : cmpN a b = 1 := by have := wlt_of_len_lt h; unfold cmpN; rw [if_neg (by omega), if_pos this]
theorem wcmpN_digs {a b : Nat} (h : wdigs a = wdigs b) : cmpN a b = 0 := by
  have : a = b := by rw [← wvl_digs a, h, wvl_digs]
  simp [cmpN, this]
end Go.Proofs.Ytogjollefllajaa
